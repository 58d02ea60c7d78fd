/- Walks of the document's find, odd, tail. -/
import Derived.Test.YtocegiffbgnogaaGreatDoorFi
import Derived.Test.YtocegiffbgnogaaGreatDoorYc
set_option linter.unusedVariables false
namespace Go.Proofs.YtocegiffbgnogaaGreatDoor
open Go.RowKit

set_option maxRecDepth 100000 in
theorem rfind46_no (s : ByteArray) (w : World) (hs : s.size ≤ 1000) (h : ∀ c ∈ s.data.toList, c ≠ 46) :
    Calls Tryz.prog 22 #[.string s, .int .u8 46] w fun e w' => e = .returned (.int .i64 (-1)) ∧ w = w' := by
  have H := Lib.hid h
  clear h
  go_enter Tryz.func22, Tryz.ntmps22
  go_wp2
  go_loop [5] (fun i => ∃ k : Nat, i = .int .i64 k ∧ k ≤ s.size) (fun i => s.size - (intOf i).toNat)
  case atStart => exact ⟨0, rfl, Nat.zero_le _⟩
  case round =>
    obtain ⟨k, rfl, hk⟩ := hrel
    by_cases hlt : k < s.size
    · have hltd : decide (k < s.size) = true := by simpa using hlt
      have hne : ((s[k].toNat : Int) == 46) = false := neC (k := 46) (by omega) (H.out _ (List.mem_of_getElem? (get_list s k hlt)))
      go_wp2
      go_round
      case rel => exact ⟨k + 1, by go_num, by omega⟩
      case measure => simp [intOf]; omega
    · obtain rfl : k = s.size := by omega
      have hltd : decide (s.size < s.size) = false := by simp
      go_wp2
      go_ret
      exact ⟨rfl, rfl⟩
set_option maxRecDepth 100000 in
theorem rfind46_yes (s : ByteArray) (D r : List UInt8) (w : World) (hs : s.size ≤ 1000) (he : s.data.toList = D ++ 46 :: r) (h : ∀ c ∈ D, c ≠ 46) :
    Calls Tryz.prog 22 #[.string s, .int .u8 46] w fun e w' => e = .returned (.int .i64 (D.length : Nat)) ∧ w = w' := by
  have hsz : D.length < s.size := by rw [sz_list, he]; simp
  have hat : s[D.length] = 46 := by
    have := get_list s D.length hsz
    rw [he] at this
    simpa using this.symm
  have hlow : ∀ k, k < D.length → (hk' : k < s.size) → s[k] ≠ 46 := by
    intro k hk hk'
    have := get_list s k hk'
    rw [he, List.getElem?_append_left hk] at this
    exact h _ (List.mem_of_getElem? this)
  have HL := Lib.hid hlow
  have hat2 : s[D.length].toNat = 46 := by rw [hat]; rfl
  clear h he hlow hat
  generalize D.length = n at *
  go_enter Tryz.func22, Tryz.ntmps22
  go_wp2
  go_loop [5] (fun i => ∃ k : Nat, i = .int .i64 k ∧ k ≤ n) (fun i => s.size - (intOf i).toNat)
  case atStart => exact ⟨0, rfl, Nat.zero_le _⟩
  case round =>
    obtain ⟨k, rfl, hk⟩ := hrel
    have hltd : decide (k < s.size) = true := by simp; omega
    by_cases hlt : k < n
    · have hks : k < s.size := by omega
      have hne : ((s[k].toNat : Int) == 46) = false := neC (k := 46) (by omega) (HL.out k hlt hks)
      clear hat2
      go_wp2
      go_round
      case rel => exact ⟨k + 1, by go_num, by omega⟩
      case measure => simp [intOf]; omega
    · obtain rfl : k = n := by omega
      go_wp2
      go_ret
      exact ⟨rfl, rfl⟩
set_option maxRecDepth 100000 in
theorem rodd_inf0 (n g : Bool) (w : World) : Calls Tryz.prog 21 #[.string ⟨#[46, 105, 110, 102]⟩, .bool n, .bool g] w fun e w' => e = .returned (.tuple #[dV 1 n ⟨#[]⟩ ⟨#[]⟩, .bool true]) ∧ Below w.heap.size w w' := by
  go_enter Tryz.func21, Tryz.ntmps21
  go_wp2
  exact bodyPost_ret (ret_dec Tryz.results21 _ rfl rfl (Blk.made w 1 n ⟨#[]⟩ ⟨#[]⟩)) rfl ⟨rfl, (Below.refl _ _).alloc (Nat.le_refl _) _⟩
set_option maxRecDepth 100000 in
theorem rodd_inf1 (n g : Bool) (w : World) : Calls Tryz.prog 21 #[.string ⟨#[46, 73, 110, 102]⟩, .bool n, .bool g] w fun e w' => e = .returned (.tuple #[dV 1 n ⟨#[]⟩ ⟨#[]⟩, .bool true]) ∧ Below w.heap.size w w' := by
  go_enter Tryz.func21, Tryz.ntmps21
  go_wp2
  exact bodyPost_ret (ret_dec Tryz.results21 _ rfl rfl (Blk.made w 1 n ⟨#[]⟩ ⟨#[]⟩)) rfl ⟨rfl, (Below.refl _ _).alloc (Nat.le_refl _) _⟩
set_option maxRecDepth 100000 in
theorem rodd_inf2 (n g : Bool) (w : World) : Calls Tryz.prog 21 #[.string ⟨#[46, 73, 78, 70]⟩, .bool n, .bool g] w fun e w' => e = .returned (.tuple #[dV 1 n ⟨#[]⟩ ⟨#[]⟩, .bool true]) ∧ Below w.heap.size w w' := by
  go_enter Tryz.func21, Tryz.ntmps21
  go_wp2
  exact bodyPost_ret (ret_dec Tryz.results21 _ rfl rfl (Blk.made w 1 n ⟨#[]⟩ ⟨#[]⟩)) rfl ⟨rfl, (Below.refl _ _).alloc (Nat.le_refl _) _⟩
set_option maxRecDepth 100000 in
theorem rodd_nan0 (n : Bool) (w : World) : Calls Tryz.prog 21 #[.string ⟨#[46, 110, 97, 110]⟩, .bool n, .bool false] w fun e w' => e = .returned (.tuple #[dV 2 false ⟨#[]⟩ ⟨#[]⟩, .bool true]) ∧ Below w.heap.size w w' := by
  go_enter Tryz.func21, Tryz.ntmps21
  go_wp2
  exact bodyPost_ret (ret_dec Tryz.results21 _ rfl rfl (Blk.made w 2 false ⟨#[]⟩ ⟨#[]⟩)) rfl ⟨rfl, (Below.refl _ _).alloc (Nat.le_refl _) _⟩
set_option maxRecDepth 100000 in
theorem rodd_snan0 (n : Bool) (w : World) : Calls Tryz.prog 21 #[.string ⟨#[46, 110, 97, 110]⟩, .bool n, .bool true] w fun e w' => e = .returned (.tuple #[dZ, .bool false]) ∧ Below w.heap.size w w' := by
  go_enter Tryz.func21, Tryz.ntmps21
  go_wp2
  exact bodyPost_ret (ret_dec Tryz.results21 _ rfl rfl (Blk.made w 0 false ⟨#[]⟩ ⟨#[]⟩)) rfl ⟨rfl, (Below.refl _ _).alloc (Nat.le_refl _) _⟩
set_option maxRecDepth 100000 in
theorem rodd_nan1 (n : Bool) (w : World) : Calls Tryz.prog 21 #[.string ⟨#[46, 78, 97, 78]⟩, .bool n, .bool false] w fun e w' => e = .returned (.tuple #[dV 2 false ⟨#[]⟩ ⟨#[]⟩, .bool true]) ∧ Below w.heap.size w w' := by
  go_enter Tryz.func21, Tryz.ntmps21
  go_wp2
  exact bodyPost_ret (ret_dec Tryz.results21 _ rfl rfl (Blk.made w 2 false ⟨#[]⟩ ⟨#[]⟩)) rfl ⟨rfl, (Below.refl _ _).alloc (Nat.le_refl _) _⟩
set_option maxRecDepth 100000 in
theorem rodd_snan1 (n : Bool) (w : World) : Calls Tryz.prog 21 #[.string ⟨#[46, 78, 97, 78]⟩, .bool n, .bool true] w fun e w' => e = .returned (.tuple #[dZ, .bool false]) ∧ Below w.heap.size w w' := by
  go_enter Tryz.func21, Tryz.ntmps21
  go_wp2
  exact bodyPost_ret (ret_dec Tryz.results21 _ rfl rfl (Blk.made w 0 false ⟨#[]⟩ ⟨#[]⟩)) rfl ⟨rfl, (Below.refl _ _).alloc (Nat.le_refl _) _⟩
set_option maxRecDepth 100000 in
theorem rodd_nan2 (n : Bool) (w : World) : Calls Tryz.prog 21 #[.string ⟨#[46, 78, 65, 78]⟩, .bool n, .bool false] w fun e w' => e = .returned (.tuple #[dV 2 false ⟨#[]⟩ ⟨#[]⟩, .bool true]) ∧ Below w.heap.size w w' := by
  go_enter Tryz.func21, Tryz.ntmps21
  go_wp2
  exact bodyPost_ret (ret_dec Tryz.results21 _ rfl rfl (Blk.made w 2 false ⟨#[]⟩ ⟨#[]⟩)) rfl ⟨rfl, (Below.refl _ _).alloc (Nat.le_refl _) _⟩
set_option maxRecDepth 100000 in
theorem rodd_snan2 (n : Bool) (w : World) : Calls Tryz.prog 21 #[.string ⟨#[46, 78, 65, 78]⟩, .bool n, .bool true] w fun e w' => e = .returned (.tuple #[dZ, .bool false]) ∧ Below w.heap.size w w' := by
  go_enter Tryz.func21, Tryz.ntmps21
  go_wp2
  exact bodyPost_ret (ret_dec Tryz.results21 _ rfl rfl (Blk.made w 0 false ⟨#[]⟩ ⟨#[]⟩)) rfl ⟨rfl, (Below.refl _ _).alloc (Nat.le_refl _) _⟩
set_option maxRecDepth 100000 in
theorem rodd_no (U : ByteArray) (n g : Bool) (w : World) (h : U.data.toList ∉ M.infs) (h' : U.data.toList ∉ M.nans) : Calls Tryz.prog 21 #[.string U, .bool n, .bool g] w fun e w' => e = .returned (.tuple #[dZ, .bool false]) ∧ Below w.heap.size w w' := by
  simp only [M.nans, List.mem_cons, List.not_mem_nil, or_false, not_or] at h'
  simp only [M.infs, List.mem_cons, List.not_mem_nil, or_false, not_or] at h
  have e1 := beq_list h.1
  have e2 := beq_list h.2.1
  have e3 := beq_list h.2.2
  have g1 := beq_list h'.1
  have g2 := beq_list h'.2.1
  have g3 := beq_list h'.2.2
  clear h h'
  go_enter Tryz.func21, Tryz.ntmps21
  go_wp2
  exact bodyPost_ret (ret_dec Tryz.results21 _ rfl rfl (Blk.made w 0 false ⟨#[]⟩ ⟨#[]⟩)) rfl ⟨rfl, (Below.refl _ _).alloc (Nat.le_refl _) _⟩
theorem rodd_infs (U : ByteArray) (n g : Bool) (w : World) (h : U.data.toList ∈ M.infs) : Calls Tryz.prog 21 #[.string U, .bool n, .bool g] w fun e w' => e = .returned (.tuple #[dV 1 n ⟨#[]⟩ ⟨#[]⟩, .bool true]) ∧ Below w.heap.size w w' := by
  simp only [M.infs, List.mem_cons, List.not_mem_nil, or_false] at h
  rcases h with h | h | h
  · rw [ba_of h]; exact rodd_inf0 n g w
  · rw [ba_of h]; exact rodd_inf1 n g w
  · rw [ba_of h]; exact rodd_inf2 n g w
theorem rodd_nans (U : ByteArray) (n g : Bool) (w : World) (h : U.data.toList ∈ M.nans) : Calls Tryz.prog 21 #[.string U, .bool n, .bool g] w fun e w' => e = .returned (.tuple #[if g = true then dZ else dV 2 false ⟨#[]⟩ ⟨#[]⟩, .bool (!g)]) ∧ Below w.heap.size w w' := by
  simp only [M.nans, List.mem_cons, List.not_mem_nil, or_false] at h
  cases g
  · rcases h with h | h | h
    · rw [ba_of h]; exact rodd_nan0 n w
    · rw [ba_of h]; exact rodd_nan1 n w
    · rw [ba_of h]; exact rodd_nan2 n w
  · rcases h with h | h | h
    · rw [ba_of h]; exact rodd_snan0 n w
    · rw [ba_of h]; exact rodd_snan1 n w
    · rw [ba_of h]; exact rodd_snan2 n w
/-- What the document's tail answers. -/
def tailV : Option Int → Value
  | some z => .tuple #[.string (tx z), .bool true]
  | none => .tuple #[.string ⟨#[]⟩, .bool false]
set_option maxRecDepth 100000 in
set_option maxHeartbeats 1000000 in
theorem rtail_any (X : List UInt8) (w : World) (hl : X.length ≤ 990) :
    Calls Tryz.prog 24 #[.string (bA X), .bool false] w fun e w' => e = .returned (tailV (M.tl X)) ∧ Below w.heap.size w w' := by
  cases X with
  | nil =>
    rw [M.tl, tailV, tx0]
    rw [show bA [] = ⟨#[]⟩ from rfl]
    go_enter Tryz.func24, Tryz.ntmps24
    go_wp2
    go_ret2
    exact ⟨rfl, Below.refl _ _⟩
  | cons e r =>
    have h0 : 0 < (bA (e :: r)).size := by rw [bA_size]; simp
    have hat : (bA (e :: r))[0] = e := by
      have := get_list (bA (e :: r)) 0 h0
      rw [bA_toList] at this; simpa using this.symm
    have hem : ((bA (e :: r)).toList == []) = false := by rw [ByteArray.toList_eq, bA_toList]; rfl
    have hem2 : (bA (e :: r)).toList.isEmpty = false := by rw [ByteArray.toList_eq, bA_toList]; rfl
    have hsz : (bA (e :: r)).size = r.length + 1 := by rw [bA_size]; simp
    have hx : (bA (e :: r)).extract 1 (r.length + 1) = bA r := by
      rw [← hsz]; apply eq_bA; rw [Lib.extract_to_end, bA_toList]; rfl
    have c1 := fun W => rsign_any (bA r) W (by rw [bA_size]; simp at hl; omega)
    rw [bA_toList] at c1
    have c2 := fun W => rdigits_any (bA (M.body r)) W (by rw [bA_size]; have := M.body_len r; simp at hl; omega)
    rw [bA_toList] at c2
    have h256 := e.toNat_lt
    have hbz : (bA (M.body r)).size = (M.body r).length := bA_size _
    have hbl := M.body_len r
    have hrl : r.length ≤ 1000 := by simp at hl; omega
    by_cases he : e = 101 ∨ e = 69
    · have key : (∃ g ds, r = g :: ds ∧ (g = 43 ∨ g = 45)) ∨ M.body r = r := by
        cases r with
        | nil => exact Or.inr rfl
        | cons g ds =>
          by_cases h1 : g = 43
          · exact Or.inl ⟨g, ds, rfl, Or.inl h1⟩
          · by_cases h2 : g = 45
            · exact Or.inl ⟨g, ds, rfl, Or.inr h2⟩
            · exact Or.inr (head_else h1 h2).2
      rcases key with ⟨g, ds, rfl, hg⟩ | hb
      · have hsp : M.isNeg (g :: ds) = decide (g = 45) ∧ M.body (g :: ds) = ds := by
          rcases hg with rfl | rfl
          · exact head_43 rfl
          · exact head_45 rfl
        rw [hsp.2] at c1 c2 hbz
        rw [hsp.1] at c1
        rw [M.tl, if_pos he, M.tlE]
        have hne : decide ((ds.length : Int) = (ds.length : Int) + 1) = false := by simp; omega
        have hne2 : (((ds.length : Nat) : Int) == ((ds.length + 1 : Nat) : Int)) = false := beq_eq_false_iff_ne.2 (by omega)
        rw [List.length_cons] at hsz hx
        by_cases ho : M.okD 10 ds = true
        · rw [if_pos ⟨hg, ho⟩, tailV]
          have c3 := fun W => rnorm_list (decide (g = 45)) ds W ho (by simp at hl; omega)
          rw [ho] at c2
          generalize hB : bA (e :: g :: ds) = B at *
          generalize tx (M.sgn (decide (g = 45)) (M.val 10 ds)) = Z at *
          generalize decide (g = 45) = N at *
          generalize bA (g :: ds) = B1 at *
          generalize bA ds = B2 at *
          have hdl : ds.length ≤ 1000 := by simp at hl; omega
          generalize ds.length = d at *
          clear hsp hbl hrl hB ho hl hg
          rcases he with rfl | rfl
          all_goals
            go_enter Tryz.func24, Tryz.ntmps24
            go_wp2_with fail
            refine (c1 _).mono ?_
            rintro r w1 ⟨rfl, hb1⟩
            go_wp2_with fail
            refine (c2 _).mono ?_
            rintro r w' ⟨rfl, rfl⟩
            go_wp2_with fail
            refine (c3 _).mono ?_
            rintro r w' ⟨rfl, rfl⟩
            go_wp2
            go_ret2
            exact ⟨rfl, hb1⟩
        · rw [if_neg (fun k => ho k.2), tailV]
          rw [show M.okD 10 ds = false by simpa using ho] at c2
          generalize hB : bA (e :: g :: ds) = B at *
          generalize decide (g = 45) = N at *
          generalize bA (g :: ds) = B1 at *
          generalize bA ds = B2 at *
          have hdl : ds.length ≤ 1000 := by simp at hl; omega
          generalize ds.length = d at *
          clear hsp hbl hrl hB ho hl hg
          rcases he with rfl | rfl
          all_goals
            go_enter Tryz.func24, Tryz.ntmps24
            go_wp2_with fail
            refine (c1 _).mono ?_
            rintro r w1 ⟨rfl, hb1⟩
            go_wp2_with fail
            refine (c2 _).mono ?_
            rintro r w' ⟨rfl, rfl⟩
            go_wp2
            go_ret2
            exact ⟨rfl, hb1⟩
      · have ht : M.tl (e :: r) = none := by
          rw [M.tl, if_pos he]
          cases r with
          | nil => rfl
          | cons g ds =>
            rw [M.tlE, if_neg]
            rintro ⟨hg | hg, _⟩
            · rw [(head_43 hg).2] at hb; simpa using congrArg List.length hb
            · rw [(head_45 hg).2] at hb; simpa using congrArg List.length hb
        rw [ht, tailV]
        rw [hb] at c1 hbz
        generalize hB : bA (e :: r) = B at *
        generalize bA r = B1 at *
        generalize M.isNeg r = N at *
        generalize r.length = d at *
        clear hb ht c2 hbl hB hl
        rcases he with rfl | rfl
        all_goals
          go_enter Tryz.func24, Tryz.ntmps24
          go_wp2_with fail
          refine (c1 _).mono ?_
          rintro r w1 ⟨rfl, hb1⟩
          go_wp2
          go_ret2
          exact ⟨rfl, hb1⟩
    · rw [M.tl_cons e r he, tailV]
      have g1 : ((e.toNat : Int) != 101) = true := by rw [bne, show ((e.toNat : Int) == 101) = false from neC (k := 101) (by omega) (fun k => he (Or.inl k))]; rfl
      have g2 : ((e.toNat : Int) != 69) = true := by rw [bne, show ((e.toNat : Int) == 69) = false from neC (k := 69) (by omega) (fun k => he (Or.inr k))]; rfl
      have hat2 : (bA (e :: r))[0].toNat = e.toNat := by rw [hat]
      generalize e.toNat = n at *
      generalize hB : bA (e :: r) = B at *
      clear c1 c2 he hl hB hat
      go_enter Tryz.func24, Tryz.ntmps24
      go_wp2
      go_ret2
      exact ⟨rfl, Below.refl _ _⟩
end Go.Proofs.YtocegiffbgnogaaGreatDoor
