/- Walks: strings.Cut off the shelf, TrimPrefix, dec.read. -/
import Derived.Test.YtomgbcgaokebjaaDoorWr
import Derived.Test.YtomgbcgaokebjaaDoorShelf
set_option linter.unusedVariables false
namespace Go.Proofs.YtomgbcgaokebjaaDoor
open Go.RowKit

/-- What the walks ask of the world: the table of powers of ten, and that the library's variable MaxLen holds some number. -/
def Env (w : World) : Prop := Tab w ∧ ∃ m, w.cell? ⟨0, 0, none⟩ = some (.int .i64 m)
theorem cell_lt {w : World} {v : Value} (h : w.cell? ⟨0, 0, none⟩ = some v) : 0 < w.heap.size := by
  rcases Nat.eq_zero_or_pos w.heap.size with h0 | h0
  · have : w.heap[0]? = none := Array.getElem?_eq_none (by omega)
    simp [World.cell?, this] at h
  · exact h0
theorem Env.next {w w' : World} (h : Env w) (hb : Below w.heap.size w w') : Env w' := by
  obtain ⟨h1, m, hm⟩ := h
  exact ⟨h1.next hb, m, (hb.cell (p := ⟨0, 0, none⟩) (cell_lt hm)).trans hm⟩
theorem env_new {w : World} (h : Env w) (o : Obj) : Env (w.alloc o) := h.next ((Below.refl w.heap.size w).alloc (Nat.le_refl _) o)

theorem cutE_any (s : ByteArray) (w : World) (he : Env w) (hs : s.size ≤ 1000) :
    Calls Tryd.prog 47 #[.string s, .string ⟨#[46, 101]⟩] w fun e w' => e = .returned (.tuple #[.string (bA (Lib.cut s.data.toList [46, 101]).1), .string (bA (Lib.cut s.data.toList [46, 101]).2.1), .bool (Lib.cut s.data.toList [46, 101]).2.2]) ∧ Below w.heap.size w w' := by
  obtain ⟨_, m, hm⟩ := he
  have h := Any.strings_Cut Tryd.lays145 s ⟨#[46, 101]⟩ m w (by omega) hm
  refine h.mono ?_
  rintro e w' ⟨rfl, n, rfl⟩
  exact ⟨rfl, below_dN (Below.refl _ _) n⟩
theorem index_e (D r : List UInt8) (h : ∀ c ∈ D, c ≠ 46) : Lib.index (D ++ 46 :: 101 :: r) [46, 101] = D.length := by
  induction D with
  | nil => unfold Lib.index; simp
  | cons b l ih =>
    have hb : b ≠ 46 := h b (by simp)
    have ih' := ih (fun c hc => h c (by simp [hc]))
    rw [List.cons_append]
    unfold Lib.index
    rw [if_neg (by simp; intro e; exact absurd e.symm hb), ih', if_neg (by simp)]
    simp
theorem cut_e (D r : List UInt8) (h : ∀ c ∈ D, c ≠ 46) : Lib.cut (D ++ 46 :: 101 :: r) [46, 101] = (D, r, true) := by
  unfold Lib.cut
  rw [index_e D r h, if_pos (by omega)]
  simp
theorem cut_len (l sep : List UInt8) : (Lib.cut l sep).1.length ≤ l.length ∧ (Lib.cut l sep).2.1.length ≤ l.length := by
  unfold Lib.cut
  split
  · simp; omega
  · simp
def unplus (l : List UInt8) : List UInt8 := if l.head? = some 43 then l.tail else l
theorem unplus_len (l : List UInt8) : (unplus l).length ≤ l.length := by unfold unplus; split <;> simp
set_option maxRecDepth 100000 in
theorem plus_any (s : ByteArray) (w : World) (hs : s.size ≤ 1000000) :
    Calls Tryd.prog 70 #[.string s, .string ⟨#[43]⟩] w fun e w' => e = .returned (.bool (decide (s.data.toList.head? = some 43))) ∧ w = w' := by
  by_cases h0 : 1 ≤ s.size
  · have hd : decide (1 ≤ s.size) = true := by simpa using h0
    have hl := drop_cons s 0 (by omega)
    rw [List.drop_zero] at hl
    have e1 : (s.extract 0 1).toList = [s[0]] := by
      rw [ByteArray.toList_eq]; simp only [ByteArray.data_extract, Array.toList_extract, List.extract_eq_take_drop, List.drop_zero]; rw [hl]; rfl
    have e2 : decide (s.data.toList.head? = some 43) = decide (s[0] = 43) := by rw [hl]; simp
    rw [e2]
    clear e2 hl
    by_cases h1 : s[0] = 43
    · rw [decide_eq_true h1]
      have e3 : ((s.extract 0 1).toList == [43]) = true := by rw [e1, h1]; rfl
      clear e1 h1
      go_enter Tryd.func70, Tryd.ntmps70
      go_wp2
      go_ret
      exact ⟨rfl, rfl⟩
    · rw [decide_eq_false h1]
      have e3 : ((s.extract 0 1).toList == [43]) = false := by rw [e1]; simpa using h1
      clear e1 h1
      go_enter Tryd.func70, Tryd.ntmps70
      go_wp2
      go_ret
      exact ⟨rfl, rfl⟩
  · have hd : decide (1 ≤ s.size) = false := by simpa using h0
    have e : decide (s.data.toList.head? = some 43) = false := by
      have : s.data.toList = [] := List.eq_nil_of_length_eq_zero (by rw [← sz_list]; omega)
      rw [this]; rfl
    rw [e]
    clear e
    go_enter Tryd.func70, Tryd.ntmps70
    go_wp2
    go_ret
    exact ⟨rfl, rfl⟩
set_option maxRecDepth 100000 in
theorem trimP_in (s : ByteArray) (w : World) (hs : s.size ≤ 1000000) :
    Calls Tryd.prog 59 #[.string s, .string ⟨#[43]⟩] w fun e w' => e = .returned (.string (bA (unplus s.data.toList))) ∧ w = w' := by
  have c1 := plus_any s w hs
  by_cases h : s.data.toList.head? = some 43
  · have hu : bA (unplus s.data.toList) = s.extract 1 s.size := by
      symm; apply eq_bA; rw [Lib.extract_to_end]; unfold unplus; rw [if_pos h]; simp
    have h1 : 1 ≤ s.size := by
      rw [sz_list]
      match hh : s.data.toList, h with
      | c :: r, _ => simp
    rw [decide_eq_true h] at c1
    rw [hu]
    clear hu h
    go_enter Tryd.func59, Tryd.ntmps59
    go_wp2_with (go_at_call 70; refine c1.mono ?_; rintro r w' ⟨rfl, rfl⟩)
    go_ret
    exact ⟨rfl, rfl⟩
  · have hu : bA (unplus s.data.toList) = s := by
      symm; apply eq_bA; unfold unplus; rw [if_neg h]
    rw [decide_eq_false h] at c1
    rw [hu]
    clear hu h
    go_enter Tryd.func59, Tryd.ntmps59
    go_wp2_with (go_at_call 70; refine c1.mono ?_; rintro r w' ⟨rfl, rfl⟩)
    go_ret
    exact ⟨rfl, rfl⟩
set_option maxRecDepth 100000 in
theorem trimP_any (s : ByteArray) (w : World) (hs : s.size ≤ 1000000) :
    Calls Tryd.prog 48 #[.string s, .string ⟨#[43]⟩] w fun e w' => e = .returned (.string (bA (unplus s.data.toList))) ∧ w = w' := by
  have c1 := trimP_in s w hs
  generalize bA (unplus s.data.toList) = U at *
  go_enter Tryd.func48, Tryd.ntmps48
  go_wp2_with (go_at_call 59; refine c1.mono ?_; rintro r w' ⟨rfl, rfl⟩)
  go_ret
  exact ⟨rfl, rfl⟩

def infT : List UInt8 := [46, 105, 110, 102]
def nanT : List UInt8 := [46, 110, 97, 110]
set_option maxRecDepth 100000 in
set_option maxHeartbeats 1000000 in
theorem read_inf (s : ByteArray) (w : World) (hs : s.size ≤ 1000) (h : M.unsign s.data.toList = infT) :
    Calls Tryd.prog 27 #[.string s] w fun e w' => e = .returned (.tuple #[dV 1 (M.isNeg s.data.toList) ⟨#[]⟩ ⟨#[]⟩, .bool true]) ∧ Below w.heap.size w w' := by
  have c1 := fun W => cut_any s W (by omega)
  rw [h, show bA infT = ⟨#[46, 105, 110, 102]⟩ from rfl] at c1
  generalize M.isNeg s.data.toList = b at *
  clear h
  go_enter Tryd.func27, Tryd.ntmps27
  go_wp2_with fail
  refine (c1 _).mono ?_
  rintro r w' ⟨rfl, rfl⟩
  go_wp2
  exact bodyPost_ret (ret_dec Tryd.results27 _ rfl rfl (Blk.made w 1 b ⟨#[]⟩ ⟨#[]⟩)) rfl ⟨rfl, (Below.refl _ _).alloc (Nat.le_refl _) _⟩
set_option maxRecDepth 100000 in
set_option maxHeartbeats 1000000 in
theorem read_nan (s : ByteArray) (w : World) (hs : s.size ≤ 1000) (h : M.unsign s.data.toList = nanT) :
    Calls Tryd.prog 27 #[.string s] w fun e w' => e = .returned (.tuple #[dV 2 (M.isNeg s.data.toList) ⟨#[]⟩ ⟨#[]⟩, .bool true]) ∧ Below w.heap.size w w' := by
  have c1 := fun W => cut_any s W (by omega)
  rw [h, show bA nanT = ⟨#[46, 110, 97, 110]⟩ from rfl] at c1
  generalize M.isNeg s.data.toList = b at *
  clear h
  go_enter Tryd.func27, Tryd.ntmps27
  go_wp2_with fail
  refine (c1 _).mono ?_
  rintro r w' ⟨rfl, rfl⟩
  go_wp2
  exact bodyPost_ret (ret_dec Tryd.results27 _ rfl rfl (Blk.made w 2 b ⟨#[]⟩ ⟨#[]⟩)) rfl ⟨rfl, (Below.refl _ _).alloc (Nat.le_refl _) _⟩
theorem bA_beq (l m : List UInt8) : ((bA l).toList == m) = decide (l = m) := by
  rw [ByteArray.toList_eq, bA_toList, Bool.eq_iff_iff]; simp
set_option maxRecDepth 100000 in
set_option maxHeartbeats 1000000 in
theorem read_else (s : ByteArray) (A P : List UInt8) (q : Bool) (k : Int) (n : Bool) (D E : ByteArray) (ok : Bool) (w : World) (he : Env w) (hs : s.size ≤ 1000) (h1 : M.unsign s.data.toList ≠ infT) (h2 : M.unsign s.data.toList ≠ nanT)
    (hc : Lib.cut (M.unsign s.data.toList) [46, 101] = (A, P, q))
    (cm : ∀ W, Tab W → Calls Tryd.prog 9 #[.bool (M.isNeg s.data.toList), .string (bA A), .string ⟨#[]⟩, .string (bA (unplus P))] W fun e w' => e = .returned (.tuple #[dV k n D E, .bool ok]) ∧ Below W.heap.size W w') :
    Calls Tryd.prog 27 #[.string s] w fun e w' => e = .returned (.tuple #[dV k n D E, .bool ok]) ∧ Below w.heap.size w w' := by
  have c1 := fun W => cut_any s W (by omega)
  have hul := unsign_len s.data.toList
  rw [← sz_list] at hul
  have c2 := fun W (hW : Env W) => cutE_any (bA (M.unsign s.data.toList)) W hW (by rw [bA_size]; omega)
  rw [bA_toList, hc] at c2
  have hpl := (cut_len (M.unsign s.data.toList) [46, 101]).2
  rw [hc] at hpl
  have c3 := fun W => trimP_any (bA P) W (by rw [bA_size]; have : P.length ≤ (M.unsign s.data.toList).length := hpl; omega)
  rw [bA_toList] at c3
  have b1 : ((bA (M.unsign s.data.toList)).toList == [46, 105, 110, 102]) = false := by rw [bA_beq]; exact decide_eq_false h1
  have b2 : ((bA (M.unsign s.data.toList)).toList == [46, 110, 97, 110]) = false := by rw [bA_beq]; exact decide_eq_false h2
  generalize bA (M.unsign s.data.toList) = U at *
  generalize M.isNeg s.data.toList = b at *
  simp only at c2
  generalize bA (unplus P) = X at *
  generalize bA P = V at *
  generalize bA A = Y at *
  clear hul hpl h1 h2 hc
  go_enter Tryd.func27, Tryd.ntmps27
  go_wp2_with fail
  refine (c1 _).mono ?_
  rintro r w' ⟨rfl, rfl⟩
  go_wp2_with fail
  refine (c2 _ (env_new he _)).mono ?_
  rintro r w1 ⟨rfl, hb1⟩
  have K1 := (Blk.made w 0 false ⟨#[]⟩ ⟨#[]⟩).next hb1
  have B1 : Below w.heap.size w w1 := below_new hb1
  clear hb1
  have T1 := he.next B1
  obtain ⟨g, hg⟩ : ∃ g, w.heap.size = g := ⟨_, rfl⟩
  rw [hg] at K1 B1 ⊢
  go_wp2_with fail
  refine (c3 _).mono ?_
  rintro r w' ⟨rfl, rfl⟩
  go_wp2_with fail
  refine (cm _ T1.1).mono ?_
  rintro r w2 ⟨rfl, hb2⟩
  have K2 := K1.next hb2
  have B2 : Below w.heap.size w w2 := (hg ▸ B1).trans (hb2.mono (hg ▸ B1).size)
  obtain ⟨k0, k1, k2, k3⟩ := K2.cells
  obtain ⟨f0, f1, f2, f3⟩ := K2.fro
  clear K1 B1 hb2 c1 c2 c3 cm
  go_wp2
  exact bodyPost_ret (ret_dec Tryd.results27 _ rfl rfl (K2.set k n D E)) rfl ⟨rfl, below_set4 B2 (by omega) _ _ _ _⟩
end Go.Proofs.YtomgbcgaokebjaaDoor
