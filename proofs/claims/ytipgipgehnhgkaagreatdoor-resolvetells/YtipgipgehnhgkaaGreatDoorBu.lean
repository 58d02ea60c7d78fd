/- Walks of the document's tail (any sign), Int12. Walks of the document's Float12. -/
import Derived.Test.YtipgipgehnhgkaaGreatDoorBt
import Derived.Test.YtipgipgehnhgkaaGreatDoorBj
import Derived.Test.YtipgipgehnhgkaaGreatDoorBc
import Derived.BigRegion
set_option linter.unusedVariables false
namespace Go.Proofs.YtipgipgehnhgkaaGreatDoor
open Go.RowKit

set_option maxRecDepth 100000 in
set_option maxHeartbeats 1000000 in
theorem rtailL_any (X : List UInt8) (w : World) (hl : X.length ≤ 990) :
    Calls Tryz.prog 71 #[.string (bA X), .bool true] w fun e w' => e = .returned (tailV (M.pw X)) ∧ Below w.heap.size w w' := by
  cases X with
  | nil =>
    rw [M.pw, tailV, tx0]
    rw [show bA [] = ⟨#[]⟩ from rfl]
    go_enter Tryz.func71, Tryz.ntmps71
    go_wp2
    go_ret2
    exact ⟨rfl, Below.refl _ _⟩
  | cons e r =>
    have h0 : 0 < (bA (e :: r)).size := by rw [bA_size]; simp
    have hat : (bA (e :: r))[0] = e := by
      have := get_list (bA (e :: r)) 0 h0
      rw [bA_toList] at this; simpa using this.symm
    have hem : ((bA (e :: r)).toList == []) = false := by rw [ByteArray.toList_eq, bA_toList]; rfl
    have hem2 : (bA (e :: r)).toList.isEmpty = false := by rw [ByteArray.toList_eq, bA_toList]; rfl
    have hsz : (bA (e :: r)).size = r.length + 1 := by rw [bA_size]; simp
    have hx : (bA (e :: r)).extract 1 (r.length + 1) = bA r := by
      rw [← hsz]; apply eq_bA; rw [Lib.extract_to_end, bA_toList]; rfl
    have c1 := fun W => rsign_any (bA r) W (by rw [bA_size]; simp at hl; omega)
    rw [bA_toList] at c1
    have c2 := fun W => rdigits_any (bA (M.body r)) W (by rw [bA_size]; have := M.body_len r; simp at hl; omega)
    rw [bA_toList] at c2
    have h256 := e.toNat_lt
    have hbz : (bA (M.body r)).size = (M.body r).length := bA_size _
    have hbl := M.body_len r
    have hrl : r.length ≤ 1000 := by simp at hl; omega
    by_cases he : e = 101 ∨ e = 69
    · rw [M.pw, if_pos he, M.pwE]
      have hq : (((M.body r).length : Int) == (r.length : Int)) = true ∨ (((M.body r).length : Int) == (r.length : Int)) = false := by
        cases (((M.body r).length : Int) == (r.length : Int)) <;> simp
      by_cases ho : M.okD 10 (M.body r) = true
      · rw [if_pos ho, tailV]
        have c3 := fun W => rnorm_list (M.isNeg r) (M.body r) W ho (by simp at hl; omega)
        rw [ho] at c2
        generalize tx (M.sgn (M.isNeg r) (M.val 10 (M.body r))) = Z at *
        generalize M.isNeg r = N at *
        generalize hB : bA (e :: r) = B at *
        generalize bA (M.body r) = B2 at *
        generalize bA r = B1 at *
        generalize (M.body r).length = m at *
        generalize r.length = d at *
        clear hB ho hl
        rcases he with rfl | rfl <;> rcases hq with hq | hq
        all_goals
          go_enter Tryz.func71, Tryz.ntmps71
          go_wp2_with fail
          refine (c1 _).mono ?_
          rintro r w1 ⟨rfl, hb1⟩
          go_wp2_with fail
          refine (c2 _).mono ?_
          rintro r w' ⟨rfl, rfl⟩
          go_wp2_with fail
          refine (c3 _).mono ?_
          rintro r w' ⟨rfl, rfl⟩
          go_wp2
          go_ret2
          exact ⟨rfl, hb1⟩
      · rw [if_neg ho, tailV]
        rw [show M.okD 10 (M.body r) = false by simpa using ho] at c2
        generalize M.isNeg r = N at *
        generalize hB : bA (e :: r) = B at *
        generalize bA (M.body r) = B2 at *
        generalize bA r = B1 at *
        generalize (M.body r).length = m at *
        generalize r.length = d at *
        clear hB ho hl
        rcases he with rfl | rfl <;> rcases hq with hq | hq
        all_goals
          go_enter Tryz.func71, Tryz.ntmps71
          go_wp2_with fail
          refine (c1 _).mono ?_
          rintro r w1 ⟨rfl, hb1⟩
          go_wp2_with fail
          refine (c2 _).mono ?_
          rintro r w' ⟨rfl, rfl⟩
          go_wp2
          go_ret2
          exact ⟨rfl, hb1⟩
    · rw [M.pw_cons e r he, tailV]
      have g1 : ((e.toNat : Int) != 101) = true := by rw [bne, show ((e.toNat : Int) == 101) = false from neC (k := 101) (by omega) (fun k => he (Or.inl k))]; rfl
      have g2 : ((e.toNat : Int) != 69) = true := by rw [bne, show ((e.toNat : Int) == 69) = false from neC (k := 69) (by omega) (fun k => he (Or.inr k))]; rfl
      have hat2 : (bA (e :: r))[0].toNat = e.toNat := by rw [hat]
      generalize e.toNat = n at *
      generalize hB : bA (e :: r) = B at *
      clear c1 c2 he hl hB hat
      go_enter Tryz.func71, Tryz.ntmps71
      go_wp2
      go_ret2
      exact ⟨rfl, Below.refl _ _⟩
theorem tx_some (z : Int) : ((tx z).toList == []) = false ∧ ((tx z).toList != []) = true ∧ (tx z).toList.isEmpty = false := by
  have h : (tx z).toList ≠ [] := by
    rw [ByteArray.toList_eq, tx_list]; exact M.txt_ne z
  have h1 : ((tx z).toList == []) = false := beq_eq_false_iff_ne.2 h
  refine ⟨h1, by rw [bne, h1]; rfl, ?_⟩
  cases hh : (tx z).toList with
  | nil => exact absurd hh h
  | cons a b => rfl
set_option maxRecDepth 100000 in
set_option maxHeartbeats 1000000 in
/-- Int12 of a text with a base's mark. -/
theorem rint12_base (s : ByteArray) (c : UInt8) (d : List UInt8) (b : Nat) (hcb : (c = 111 ∧ b = 8) ∨ (c = 120 ∧ b = 16)) (w : World) (hs : s.size ≤ 100) (hl : s.data.toList = 48 :: c :: d) (hd : d ≠ []) :
    Calls Tryz.prog 31 #[.string s] w fun e w' => e = .returned (tailV (if M.okD b d = true then some ((M.val b d : Nat) : Int) else none)) ∧ Below w.heap.size w w' := by
  have hz : s.size = d.length + 2 := by rw [sz_list, hl]; simp
  have hdp : 0 < d.length := List.length_pos_iff.2 hd
  have h0s : 0 < s.size := by omega
  have h1s : 1 < s.size := by omega
  have g0 : s[0].toNat = 48 := by
    have := get_list s 0 h0s
    rw [hl] at this; rw [show s[0] = 48 by simpa using this.symm]; rfl
  have g1 : s[1] = c := by
    have := get_list s 1 h1s
    rw [hl] at this; simpa using this.symm
  have hx : s.extract 2 s.size = bA d := by apply eq_bA; rw [Lib.extract_to_end, hl]; rfl
  have h2 : 2 ≤ s.size := by omega
  have h2' : (2 : Int) ≤ (s.size : Int) := by omega
  have h3 : decide (2 < s.size) = true := by simp; omega
  have h3' : decide ((2 : Int) < (s.size : Int)) = true := by simp; omega
  have c1 := fun W => rbase_in (bA d) b W (by omega) (by rw [bA_size]; omega) (by rw [bA_size]; exact hdp)
  rw [bA_toList] at c1
  have hok : M.okD b d = M.allD b d := by
    rw [Bool.eq_iff_iff, M.okD_iff]; exact ⟨fun k => k.2, fun k => ⟨hd, k⟩⟩
  rw [hok]
  by_cases ha : M.allD b d = true
  · rw [if_pos ha] at c1 ⊢
    obtain ⟨z1, z2, z3⟩ := tx_some ((M.val b d : Nat) : Int)
    simp only [tailV]
    generalize tx ((M.val b d : Nat) : Int) = Z at *
    generalize bA d = B at *
    clear hok ha hd hdp hz hl
    rcases hcb with ⟨rfl, rfl⟩ | ⟨rfl, rfl⟩
    · have g1' : s[1].toNat = 111 := by rw [g1]; rfl
      clear g1
      go_enter Tryz.func31, Tryz.ntmps31
      go_wp2_with fail
      refine (c1 _).mono ?_
      rintro r w1 ⟨rfl, hb1⟩
      clear c1
      go_wp2
      go_ret2
      exact ⟨rfl, hb1⟩
    · have g1' : s[1].toNat = 120 := by rw [g1]; rfl
      clear g1
      go_enter Tryz.func31, Tryz.ntmps31
      go_wp2_with fail
      refine (c1 _).mono ?_
      rintro r w1 ⟨rfl, hb1⟩
      clear c1
      go_wp2
      go_ret2
      exact ⟨rfl, hb1⟩
  · rw [if_neg ha] at c1 ⊢
    simp only [tailV]
    generalize bA d = B at *
    clear hok ha hd hdp hz hl
    rcases hcb with ⟨rfl, rfl⟩ | ⟨rfl, rfl⟩
    · have g1' : s[1].toNat = 111 := by rw [g1]; rfl
      clear g1
      go_enter Tryz.func31, Tryz.ntmps31
      go_wp2_with fail
      refine (c1 _).mono ?_
      rintro r w1 ⟨rfl, hb1⟩
      clear c1
      go_wp2
      go_ret2
      exact ⟨rfl, hb1⟩
    · have g1' : s[1].toNat = 120 := by rw [g1]; rfl
      clear g1
      go_enter Tryz.func31, Tryz.ntmps31
      go_wp2_with fail
      refine (c1 _).mono ?_
      rintro r w1 ⟨rfl, hb1⟩
      clear c1
      go_wp2
      go_ret2
      exact ⟨rfl, hb1⟩
/-- That a text has no base's mark with something behind it: as the walk tests it. -/
def NoMark (s : ByteArray) : Prop := ¬ 2 < s.size ∨ ∃ (h0 : 0 < s.size) (h1 : 1 < s.size), 2 < s.size ∧ (s[0] ≠ 48 ∨ (s[0] = 48 ∧ s[1] ≠ 111 ∧ s[1] ≠ 120))
set_option maxRecDepth 100000 in
set_option maxHeartbeats 2000000 in
theorem rint12_rest (s : ByteArray) (w : World) (hs : s.size ≤ 100) (h : NoMark s) :
    Calls Tryz.prog 31 #[.string s] w fun e w' => e = .returned (tailV (if M.okD 10 (M.body s.data.toList) = true then some (M.sgn (M.isNeg s.data.toList) (M.val 10 (M.body s.data.toList))) else none)) ∧ Below w.heap.size w w' := by
  have c1 := fun W => rsign_any s W (by omega)
  have hbl := M.body_len s.data.toList
  rw [← sz_list] at hbl
  obtain ⟨Z, q, hR, c2, z1, z2, z3⟩ : ∃ (Z : ByteArray) (q : Bool), tailV (if M.okD 10 (M.body s.data.toList) = true then some (M.sgn (M.isNeg s.data.toList) (M.val 10 (M.body s.data.toList))) else none) = .tuple #[.string Z, .bool q] ∧
      (∀ W, Calls Tryz.prog 66 #[.bool (M.isNeg s.data.toList), .string (bA (M.body s.data.toList))] W fun e w' => e = .returned (.string Z) ∧ W = w') ∧ (Z.toList == []) = !q ∧ (Z.toList != []) = q ∧ Z.toList.isEmpty = !q := by
    by_cases ho : M.okD 10 (M.body s.data.toList) = true
    · rw [if_pos ho]
      obtain ⟨z1, z2, z3⟩ := tx_some (M.sgn (M.isNeg s.data.toList) (M.val 10 (M.body s.data.toList)))
      exact ⟨_, true, rfl, fun W => rnorm_list _ _ W ho (by omega), z1, z2, z3⟩
    · rw [if_neg ho]
      exact ⟨⟨#[]⟩, false, rfl, fun W => rnorm_no _ _ W (by rw [bA_size]; omega) (by rw [bA_toList]; simpa using ho), by rw [ByteArray.toList_eq]; rfl, by rw [ByteArray.toList_eq]; rfl, by rw [ByteArray.toList_eq]; rfl⟩
  rw [hR]
  clear hR hbl
  generalize bA (M.body s.data.toList) = B at *
  generalize M.isNeg s.data.toList = N at *
  rcases h with h | ⟨h0, h1, h2, h | ⟨h, g111, g120⟩⟩
  · have h3 : decide (2 < s.size) = false := by simp; omega
    have h3' : decide ((2 : Int) < (s.size : Int)) = false := by simp; omega
    cases q
    all_goals
      go_enter Tryz.func31, Tryz.ntmps31
      go_wp2_with fail
      refine (c1 _).mono ?_
      rintro r w1 ⟨rfl, hb1⟩
      go_wp2_with fail
      refine (c2 _).mono ?_
      rintro r w' ⟨rfl, rfl⟩
      clear c1 c2
      go_wp2
      go_ret2
      exact ⟨rfl, hb1⟩
  · have h3 : decide (2 < s.size) = true := by simpa using h2
    have h3' : decide ((2 : Int) < (s.size : Int)) = true := by simp; omega
    have h256 := s[0].toNat_lt
    have hx48 : ((s[0].toNat : Int) == 48) = false := neC (k := 48) (by omega) h
    clear h
    cases q
    all_goals
      go_enter Tryz.func31, Tryz.ntmps31
      go_wp2_with fail
      refine (c1 _).mono ?_
      rintro r w1 ⟨rfl, hb1⟩
      go_wp2_with fail
      refine (c2 _).mono ?_
      rintro r w' ⟨rfl, rfl⟩
      clear c1 c2
      go_wp2
      go_ret2
      exact ⟨rfl, hb1⟩
  · have h3 : decide (2 < s.size) = true := by simpa using h2
    have h3' : decide ((2 : Int) < (s.size : Int)) = true := by simp; omega
    have g0 : s[0].toNat = 48 := by rw [h]; rfl
    have hx111 : ((s[1].toNat : Int) == 111) = false := neC (k := 111) (by omega) g111
    have hx120 : ((s[1].toNat : Int) == 120) = false := neC (k := 120) (by omega) g120
    have h256 := s[1].toNat_lt
    clear h g111 g120
    cases q
    all_goals
      go_enter Tryz.func31, Tryz.ntmps31
      go_wp2_with fail
      refine (c1 _).mono ?_
      rintro r w1 ⟨rfl, hb1⟩
      go_wp2_with fail
      refine (c2 _).mono ?_
      rintro r w' ⟨rfl, rfl⟩
      clear c1 c2
      go_wp2
      go_ret2
      exact ⟨rfl, hb1⟩
theorem take2_at (s : ByteArray) (a b : UInt8) : s.data.toList.take 2 = [a, b] ↔ ∃ (h0 : 0 < s.size) (h1 : 1 < s.size), s[0] = a ∧ s[1] = b := by
  constructor
  · intro h
    have e := M.take2 h
    have hz : 2 ≤ s.size := by rw [sz_list, e]; simp
    have h0 : 0 < s.size := by omega
    have h1 : 1 < s.size := by omega
    refine ⟨h0, h1, ?_, ?_⟩
    · have := get_list s 0 h0
      rw [e] at this; simpa using this.symm
    · have := get_list s 1 h1
      rw [e] at this; simpa using this.symm
  · rintro ⟨h0, h1, rfl, rfl⟩
    have e := drop_cons s 0 h0
    have e2 := drop_cons s 1 h1
    rw [List.drop_zero] at e
    rw [e, e2]; rfl
theorem rint12_any (s : ByteArray) (w : World) (hs : s.size ≤ 100) :
    Calls Tryz.prog 31 #[.string s] w fun e w' => e = .returned (tailV (M.iv s.data.toList)) ∧ Below w.heap.size w w' := by
  by_cases h1 : s.data.toList.take 2 = [48, 111]
  · have e := M.take2 h1
    by_cases hd : s.data.toList.drop 2 = []
    · have hv : M.iv s.data.toList = if M.okD 10 (M.body s.data.toList) = true then some (M.sgn (M.isNeg s.data.toList) (M.val 10 (M.body s.data.toList))) else none := by
        rw [hd] at e; rw [e]; decide
      rw [hv]
      exact rint12_rest s w hs (Or.inl (by rw [sz_list, e, hd]; simp))
    · have hv : M.iv s.data.toList = if M.okD 8 (s.data.toList.drop 2) = true then some ((M.val 8 (s.data.toList.drop 2) : Nat) : Int) else none := by unfold M.iv; rw [if_pos h1]
      rw [hv]
      exact rint12_base s 111 _ 8 (Or.inl ⟨rfl, rfl⟩) w hs e hd
  · by_cases h2 : s.data.toList.take 2 = [48, 120]
    · have e := M.take2 h2
      by_cases hd : s.data.toList.drop 2 = []
      · have hv : M.iv s.data.toList = if M.okD 10 (M.body s.data.toList) = true then some (M.sgn (M.isNeg s.data.toList) (M.val 10 (M.body s.data.toList))) else none := by
          rw [hd] at e; rw [e]; decide
        rw [hv]
        exact rint12_rest s w hs (Or.inl (by rw [sz_list, e, hd]; simp))
      · have hv : M.iv s.data.toList = if M.okD 16 (s.data.toList.drop 2) = true then some ((M.val 16 (s.data.toList.drop 2) : Nat) : Int) else none := by unfold M.iv; rw [if_neg h1, if_pos h2]
        rw [hv]
        exact rint12_base s 120 _ 16 (Or.inr ⟨rfl, rfl⟩) w hs e hd
    · have hv : M.iv s.data.toList = if M.okD 10 (M.body s.data.toList) = true then some (M.sgn (M.isNeg s.data.toList) (M.val 10 (M.body s.data.toList))) else none := by unfold M.iv; rw [if_neg h1, if_neg h2]
      rw [hv]
      refine rint12_rest s w hs ?_
      by_cases hz : 2 < s.size
      · right
        refine ⟨by omega, by omega, hz, ?_⟩
        by_cases h48 : s[0] = 48
        · right
          refine ⟨h48, fun k => h1 ((take2_at s 48 111).2 ⟨_, _, h48, k⟩), fun k => h2 ((take2_at s 48 120).2 ⟨_, _, h48, k⟩)⟩
        · exact Or.inl h48
      · exact Or.inl hz
end Go.Proofs.YtipgipgehnhgkaaGreatDoor

namespace Go.Proofs.YtipgipgehnhgkaaGreatDoor
open Go.RowKit

theorem Blk.drew' {w : World} {g : Nat} {k : Int} {n : Bool} {D E : ByteArray} (h : Blk w g k n D E) : Blk w.drew g k n D E := h
set_option maxRecDepth 100000 in
set_option maxHeartbeats 2000000 in
/-- What is a whole number is no decimal. -/
theorem rflo_whole (s : ByteArray) (z : Int) (w : World) (hs : s.size ≤ 100) (h : M.iv s.data.toList = some z) :
    Calls Tryz.prog 33 #[.string s] w fun e w' => e = .returned (.tuple #[dZ, .bool false]) ∧ Below w.heap.size w w' := by
  have c0 := fun W => rint12_any s W hs
  rw [h] at c0
  simp only [tailV] at c0
  clear h
  generalize tx z = Z at *
  go_enter Tryz.func33, Tryz.ntmps33
  go_wp2_with fail
  refine (c0 _).mono ?_
  rintro r w1 ⟨rfl, hw1⟩
  have K1 := (Blk.made w 0 false ⟨#[]⟩ ⟨#[]⟩).next hw1
  have B1 : Below w.heap.size w w1 := below_new hw1
  clear hw1 c0
  obtain ⟨g, hg⟩ : ∃ g, w.heap.size = g := ⟨_, rfl⟩
  rw [hg] at K1 B1 ⊢
  obtain ⟨k0, k1, k2, k3⟩ := K1.cells
  obtain ⟨f0, f1, f2, f3⟩ := K1.fro
  go_wp2
  exact bodyPost_ret (ret_dec Tryz.results33 _ rfl rfl (K1.set 0 false _ _)) rfl ⟨rfl, below_set4 (hg ▸ B1) (by omega) _ _ _ _⟩
set_option maxRecDepth 100000 in
set_option maxHeartbeats 2000000 in
/-- What has no end, what is no number. -/
theorem rflo_odd (s : ByteArray) (w : World) (hs : s.size ≤ 100) (h : M.iv s.data.toList = none) (k : Int) (n : Bool)
    (c2 : ∀ g, g = decide ((bA (M.body s.data.toList)).size < s.size) → ∀ W, Calls Tryz.prog 69 #[.string (bA (M.body s.data.toList)), .bool (M.isNeg s.data.toList), .bool g] W fun e w' => e = .returned (.tuple #[dV k n ⟨#[]⟩ ⟨#[]⟩, .bool true]) ∧ Below W.heap.size W w') :
    Calls Tryz.prog 33 #[.string s] w fun e w' => e = .returned (.tuple #[dV k n ⟨#[]⟩ ⟨#[]⟩, .bool true]) ∧ Below w.heap.size w w' := by
  have c0 := fun W => rint12_any s W hs
  rw [h] at c0
  simp only [tailV] at c0
  have c1 := fun W => rsign_any s W (by omega)
  have hU : (bA (M.body s.data.toList)).size ≤ 100 := by rw [bA_size]; have := M.body_len s.data.toList; rw [← sz_list] at this; omega
  clear h
  generalize bA (M.body s.data.toList) = U at *
  generalize M.isNeg s.data.toList = N at *
  have c2' := c2 _ rfl
  clear c2
  obtain ⟨q, hq⟩ : ∃ q, decide (U.size < s.size) = q := ⟨_, rfl⟩
  rw [hq] at c2'
  go_enter Tryz.func33, Tryz.ntmps33
  go_wp2_with fail
  refine (c0 _).mono ?_
  rintro r w0 ⟨rfl, hw0⟩
  have K0 := (Blk.made w 0 false ⟨#[]⟩ ⟨#[]⟩).next hw0
  have B0 : Below w.heap.size w w0 := below_new hw0
  clear hw0 c0
  go_wp2_with fail
  refine (c1 _).mono ?_
  rintro r w1 ⟨rfl, hw1⟩
  have K1 := K0.next hw1
  have B1 : Below w.heap.size w w1 := below_on B0 hw1
  clear hw1 c1 K0 B0
  go_wp2_with fail
  refine (c2' _).mono ?_
  rintro r w2 ⟨rfl, hw2⟩
  have K2 := K1.next hw2
  have B2 : Below w.heap.size w w2 := below_on B1 hw2
  clear hw2 c2' K1 B1
  have KD := Blk.made w2 k n ⟨#[]⟩ ⟨#[]⟩
  have KR := K2.alloc' (.cells #[.int .i64 k, .bool n, .string ⟨#[]⟩, .string ⟨#[]⟩] 46)
  have hgw : w.heap.size < w2.heap.size := K2.lt
  obtain ⟨g, hg⟩ : ∃ g, w.heap.size = g := ⟨_, rfl⟩
  rw [hg] at KR K2 hgw ⊢
  obtain ⟨j0, j1, j2, j3⟩ := K2.cells
  obtain ⟨i0, i1, i2, i3⟩ := K2.fro
  obtain ⟨k0, k1, k2, k3⟩ := KR.cells
  obtain ⟨f0, f1, f2, f3⟩ := KR.fro
  obtain ⟨d0, d1, d2, d3⟩ := KD.cells
  go_wp2
  exact bodyPost_ret (ret_dec Tryz.results33 _ rfl rfl ((K2.set k n _ _).alloc' _)) rfl ⟨rfl, (below_set4 (hg ▸ B2) (by omega) _ _ _ _).alloc (by simp [set4]; have := B2.size; omega) _⟩
/-- What stands at a digit's place, and behind the digits. -/
theorem hd_at (l : List UInt8) (h : l.length ≤ 100) : Hid (∀ j (h : j < (bA l).size), j < (M.hd l).length → M.dv (bA l)[j] < 10) ∧ Hid (∀ (h : (M.hd l).length < (bA l).size), ¬ M.dv (bA l)[(M.hd l).length] < 10) := by
  have e := M.hd_rs l
  have hRl : (bA l).data.toList = l := bA_toList l
  constructor
  · refine Lib.hid (fun j h hj => ?_)
    have g := get_list (bA l) j h
    rw [hRl, show l[j]? = (M.hd l ++ M.rs l)[j]? by rw [e], List.getElem?_append_left hj] at g
    exact (M.allD_iff _ _).1 (M.hd_all l) _ (List.mem_of_getElem? g)
  · refine Lib.hid (fun h => ?_)
    have g := get_list (bA l) _ h
    rw [hRl, show l[(M.hd l).length]? = (M.hd l ++ M.rs l)[(M.hd l).length]? by rw [e], List.getElem?_append_right (Nat.le_refl _), Nat.sub_self] at g
    have hnd := M.rs_head l
    cases hb : M.rs l with
    | nil => rw [hb] at g; cases g
    | cons x r =>
      rw [hb] at g
      have hx : x = (bA l)[(M.hd l).length] := by simpa using g
      rw [← hx]
      exact hnd x r hb
end Go.Proofs.YtipgipgehnhgkaaGreatDoor
