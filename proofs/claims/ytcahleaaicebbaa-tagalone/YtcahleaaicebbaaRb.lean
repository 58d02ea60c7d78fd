/- Walks: the document's Read. -/
import Derived.Test.YtcahleaaicebbaaRa
set_option linter.unusedVariables false
namespace Go.Proofs.Ytcahleaaicebbaa
open Go.RowKit

theorem atG (w : World) (v : Bool) (H S : ByteArray) : Below w.heap.size w (w.alloc (.cells #[.bool v, .string H, .string S] 23)) := (Below.refl _ _).alloc (Nat.le_refl _) _
theorem at0 (w : World) : Below w.heap.size w (w.alloc (.cells #[.bool false, .string ⟨#[]⟩, .string ⟨#[]⟩] 23)) := (Below.refl _ _).alloc (Nat.le_refl _) _
set_option maxRecDepth 100000 in
theorem rrd_out (s : ByteArray) (i : Int) (w : World) (hs : s.size ≤ 100000) (h : i < 0 ∨ (s.size : Int) ≤ i) : Calls Try.prog 10 #[.string s, .int .i64 i] w fun e w' => e = .returned (.tuple #[tZ, .int .i64 0, .bool false]) ∧ Below w.heap.size w w' := by
  by_cases h0 : i < 0
  · have d0 : decide (i < 0) = true := decide_eq_true h0
    go_enter Try.func10, Try.ntmps10
    go_wp2
    exact bodyPost_ret (ret_tag Try.results10 _ rfl rfl rfl (Blk.made w false ⟨#[]⟩ ⟨#[]⟩)) rfl ⟨rfl, at0 w⟩
  · have d0 : decide (i < 0) = false := decide_eq_false h0
    have d1 : decide ((s.size : Int) ≤ i) = true := decide_eq_true (by omega)
    go_enter Try.func10, Try.ntmps10
    go_wp2
    exact bodyPost_ret (ret_tag Try.results10 _ rfl rfl rfl (Blk.made w false ⟨#[]⟩ ⟨#[]⟩)) rfl ⟨rfl, at0 w⟩
set_option maxRecDepth 100000 in
theorem rrd_other (s : ByteArray) (k : Nat) (w : World) (hs : s.size ≤ 100000) (hk : k < s.size) (h : s[k] ≠ 33) : Calls Try.prog 10 #[.string s, .int .i64 k] w fun e w' => e = .returned (.tuple #[tZ, .int .i64 0, .bool false]) ∧ Below w.heap.size w w' := by
  have d0 : decide ((k : Int) < 0) = false := decide_eq_false (by omega)
  have d1 : decide ((s.size : Int) ≤ (k : Int)) = false := decide_eq_false (by omega)
  have d2 : decide (s.size ≤ k) = false := decide_eq_false (by omega)
  have d3 : decide (k < s.size) = true := decide_eq_true hk
  have hn : ((s[k].toNat : Int) == 33) = false := neC (k := 33) (by omega) h
  go_enter Try.func10, Try.ntmps10
  go_wp2
  exact bodyPost_ret (ret_tag Try.results10 _ rfl rfl rfl (Blk.made w false ⟨#[]⟩ ⟨#[]⟩)) rfl ⟨rfl, at0 w⟩

set_option maxRecDepth 100000 in
set_option maxHeartbeats 400000 in
theorem rrd_vA (s : ByteArray) (k R : Nat) (w : World) (hs : s.size ≤ 100000) (hk : k + 1 < s.size) (h0 : s.data.toList[k]? = some 33) (h1 : s.data.toList[k + 1]? = some 60) (hR : M.bh M.isT s.data.toList (k + 2) = R) (hR2 : k + 2 ≤ R) (hR3 : R ≤ s.size) (hE : R = k + 2) :
    Calls Try.prog 10 #[.string s, .int .i64 k] w fun e w' => e = .returned (.tuple #[tZ, .int .i64 0, .bool false]) ∧ Below w.heap.size w w' := by
  have HR := Lib.hid hR
  clear hR
  have d0 : decide ((k : Int) < 0) = false := decide_eq_false (by omega)
  have d1 : decide ((s.size : Int) ≤ (k : Int)) = false := decide_eq_false (by omega)
  have d2 : decide (s.size ≤ k) = false := decide_eq_false (by omega)
  have d3 : decide (k < s.size) = true := decide_eq_true (by omega)
  have d4 : decide (k + 1 < s.size) = true := decide_eq_true hk
  have d5 : decide ((k : Int) + 1 < (s.size : Int)) = true := decide_eq_true (by omega)
  have n0 : (s[k]'(get_l h0).1).toNat = 33 := by rw [(get_l h0).2]; rfl
  have n1 : (s[k + 1]'(get_l h1).1).toNat = 60 := by rw [(get_l h1).2]; rfl
  have g1 : ((R : Int) == (k : Int) + 2) = true := by rw [hE]; simp
  have gg1 : ((R : Int) == (k : Int) + 1 + 1) = true := by rw [hE]; simp; omega
  clear hE
  have x0 : wrap64 ((k : Int) + 1) = (k : Int) + 1 := by unfold wrap64; omega
  go_enter Try.func10, Try.ntmps10
  go_wp2
  go_loop [8] (fun x => ∃ j : Nat, x = .int .i64 j ∧ k + 2 ≤ j ∧ j ≤ s.size ∧ Hid (M.bh M.isT s.data.toList j = R)) (fun x => s.size - (intOf x).toNat)
  case atStart => exact ⟨k + 2, by go_num, Nat.le_refl _, by omega, HR⟩
  case round =>
    obtain ⟨j, rfl, hj, hj2, hst⟩ := hrel
    clear HR
    by_cases hlt : j < s.size
    · have hltd : decide (j < s.size) = true := decide_eq_true hlt
      have hlti : decide ((j : Int) < (s.size : Int)) = true := decide_eq_true (by omega)
      have c2 := fun W => rT_any s[j] W
      have hg := get_list s j hlt
      have hq1 := fun h => M.bh_step M.isT hg h
      have hq2 := fun h => M.bh_stop M.isT hg h
      rw [hst.out] at hq1 hq2
      obtain ⟨q, hq⟩ : ∃ q, M.isT s[j] = q := ⟨_, rfl⟩
      rw [hq] at c2 hq1 hq2
      clear hq hg hst
      cases q
      · have h5 := hq2 rfl
        clear hq1 hq2
        obtain rfl : R = j := h5
        go_wp2_with fail
        refine (c2 _).mono ?_
        rintro r w' ⟨rfl, rfl⟩
        clear c2
        go_wp2
        exact bodyPost_ret (ret_tag Try.results10 _ rfl rfl rfl (Blk.made w false ⟨#[]⟩ ⟨#[]⟩)) rfl ⟨rfl, at0 w⟩
      · have h5 := Lib.hid (hq1 rfl).symm
        clear hq1 hq2
        go_wp2_with fail
        refine (c2 _).mono ?_
        rintro r w' ⟨rfl, rfl⟩
        clear c2
        go_wp2
        go_round
        case rel => exact ⟨j + 1, by go_num, by omega, by omega, h5⟩
        case measure => simp [intOf]; omega
    · have h5 := M.bh_end M.isT s.data.toList j (by rw [← sz_list]; omega)
      rw [hst.out] at h5
      clear hst
      obtain rfl : R = j := h5
      have hltd : decide (R < s.size) = false := decide_eq_false hlt
      have hlti : decide ((R : Int) < (s.size : Int)) = false := decide_eq_false (by omega)
      go_wp2
      exact bodyPost_ret (ret_tag Try.results10 _ rfl rfl rfl (Blk.made w false ⟨#[]⟩ ⟨#[]⟩)) rfl ⟨rfl, at0 w⟩
set_option maxRecDepth 100000 in
set_option maxHeartbeats 400000 in
theorem rrd_vB (s : ByteArray) (k R : Nat) (w : World) (hs : s.size ≤ 100000) (hk : k + 1 < s.size) (h0 : s.data.toList[k]? = some 33) (h1 : s.data.toList[k + 1]? = some 60) (hR : M.bh M.isT s.data.toList (k + 2) = R) (hR2 : k + 2 ≤ R) (hR3 : R ≤ s.size) (hE : R ≠ k + 2) (hZ : R = s.size) :
    Calls Try.prog 10 #[.string s, .int .i64 k] w fun e w' => e = .returned (.tuple #[tZ, .int .i64 0, .bool false]) ∧ Below w.heap.size w w' := by
  have HR := Lib.hid hR
  clear hR
  have d0 : decide ((k : Int) < 0) = false := decide_eq_false (by omega)
  have d1 : decide ((s.size : Int) ≤ (k : Int)) = false := decide_eq_false (by omega)
  have d2 : decide (s.size ≤ k) = false := decide_eq_false (by omega)
  have d3 : decide (k < s.size) = true := decide_eq_true (by omega)
  have d4 : decide (k + 1 < s.size) = true := decide_eq_true hk
  have d5 : decide ((k : Int) + 1 < (s.size : Int)) = true := decide_eq_true (by omega)
  have n0 : (s[k]'(get_l h0).1).toNat = 33 := by rw [(get_l h0).2]; rfl
  have n1 : (s[k + 1]'(get_l h1).1).toNat = 60 := by rw [(get_l h1).2]; rfl
  have g1 : ((R : Int) == (k : Int) + 2) = false := beq_eq_false_iff_ne.2 (by omega)
  have gg1 : ((R : Int) == (k : Int) + 1 + 1) = false := beq_eq_false_iff_ne.2 (by omega)
  have g2 : ((R : Int) == (s.size : Int)) = true := by rw [hZ]; simp
  have x0 : wrap64 ((k : Int) + 1) = (k : Int) + 1 := by unfold wrap64; omega
  go_enter Try.func10, Try.ntmps10
  go_wp2
  go_loop [8] (fun x => ∃ j : Nat, x = .int .i64 j ∧ k + 2 ≤ j ∧ j ≤ s.size ∧ Hid (M.bh M.isT s.data.toList j = R)) (fun x => s.size - (intOf x).toNat)
  case atStart => exact ⟨k + 2, by go_num, Nat.le_refl _, by omega, HR⟩
  case round =>
    obtain ⟨j, rfl, hj, hj2, hst⟩ := hrel
    clear HR
    by_cases hlt : j < s.size
    · have hltd : decide (j < s.size) = true := decide_eq_true hlt
      have hlti : decide ((j : Int) < (s.size : Int)) = true := decide_eq_true (by omega)
      have c2 := fun W => rT_any s[j] W
      have hg := get_list s j hlt
      have hq1 := fun h => M.bh_step M.isT hg h
      have hq2 := fun h => M.bh_stop M.isT hg h
      rw [hst.out] at hq1 hq2
      obtain ⟨q, hq⟩ : ∃ q, M.isT s[j] = q := ⟨_, rfl⟩
      rw [hq] at c2 hq1 hq2
      clear hq hg hst
      cases q
      · have h5 := hq2 rfl
        clear hq1 hq2
        exact absurd h5 (by omega)
      · have h5 := Lib.hid (hq1 rfl).symm
        clear hq1 hq2
        go_wp2_with fail
        refine (c2 _).mono ?_
        rintro r w' ⟨rfl, rfl⟩
        clear c2
        go_wp2
        go_round
        case rel => exact ⟨j + 1, by go_num, by omega, by omega, h5⟩
        case measure => simp [intOf]; omega
    · have h5 := M.bh_end M.isT s.data.toList j (by rw [← sz_list]; omega)
      rw [hst.out] at h5
      clear hst
      obtain rfl : R = j := h5
      have hltd : decide (R < s.size) = false := decide_eq_false hlt
      have hlti : decide ((R : Int) < (s.size : Int)) = false := decide_eq_false (by omega)
      go_wp2
      exact bodyPost_ret (ret_tag Try.results10 _ rfl rfl rfl (Blk.made w false ⟨#[]⟩ ⟨#[]⟩)) rfl ⟨rfl, at0 w⟩
set_option maxRecDepth 100000 in
set_option maxHeartbeats 400000 in
theorem rrd_vC (s : ByteArray) (k R : Nat) (w : World) (hs : s.size ≤ 100000) (hk : k + 1 < s.size) (h0 : s.data.toList[k]? = some 33) (h1 : s.data.toList[k + 1]? = some 60) (hR : M.bh M.isT s.data.toList (k + 2) = R) (hR2 : k + 2 ≤ R) (hR3 : R ≤ s.size) (hE : R ≠ k + 2) (hZ : R < s.size) (hc : s[R] ≠ 62) :
    Calls Try.prog 10 #[.string s, .int .i64 k] w fun e w' => e = .returned (.tuple #[tZ, .int .i64 0, .bool false]) ∧ Below w.heap.size w w' := by
  have HR := Lib.hid hR
  clear hR
  have d0 : decide ((k : Int) < 0) = false := decide_eq_false (by omega)
  have d1 : decide ((s.size : Int) ≤ (k : Int)) = false := decide_eq_false (by omega)
  have d2 : decide (s.size ≤ k) = false := decide_eq_false (by omega)
  have d3 : decide (k < s.size) = true := decide_eq_true (by omega)
  have d4 : decide (k + 1 < s.size) = true := decide_eq_true hk
  have d5 : decide ((k : Int) + 1 < (s.size : Int)) = true := decide_eq_true (by omega)
  have n0 : (s[k]'(get_l h0).1).toNat = 33 := by rw [(get_l h0).2]; rfl
  have n1 : (s[k + 1]'(get_l h1).1).toNat = 60 := by rw [(get_l h1).2]; rfl
  have g1 : ((R : Int) == (k : Int) + 2) = false := beq_eq_false_iff_ne.2 (by omega)
  have gg1 : ((R : Int) == (k : Int) + 1 + 1) = false := beq_eq_false_iff_ne.2 (by omega)
  have g2 : ((R : Int) == (s.size : Int)) = false := beq_eq_false_iff_ne.2 (by omega)
  have g3 : ((s[R].toNat : Int) == 62) = false := neC (k := 62) (by omega) hc
  clear hc
  have x0 : wrap64 ((k : Int) + 1) = (k : Int) + 1 := by unfold wrap64; omega
  go_enter Try.func10, Try.ntmps10
  go_wp2
  go_loop [8] (fun x => ∃ j : Nat, x = .int .i64 j ∧ k + 2 ≤ j ∧ j ≤ s.size ∧ Hid (M.bh M.isT s.data.toList j = R)) (fun x => s.size - (intOf x).toNat)
  case atStart => exact ⟨k + 2, by go_num, Nat.le_refl _, by omega, HR⟩
  case round =>
    obtain ⟨j, rfl, hj, hj2, hst⟩ := hrel
    clear HR
    by_cases hlt : j < s.size
    · have hltd : decide (j < s.size) = true := decide_eq_true hlt
      have hlti : decide ((j : Int) < (s.size : Int)) = true := decide_eq_true (by omega)
      have c2 := fun W => rT_any s[j] W
      have hg := get_list s j hlt
      have hq1 := fun h => M.bh_step M.isT hg h
      have hq2 := fun h => M.bh_stop M.isT hg h
      rw [hst.out] at hq1 hq2
      obtain ⟨q, hq⟩ : ∃ q, M.isT s[j] = q := ⟨_, rfl⟩
      rw [hq] at c2 hq1 hq2
      clear hq hg hst
      cases q
      · have h5 := hq2 rfl
        clear hq1 hq2
        obtain rfl : R = j := h5
        go_wp2_with fail
        refine (c2 _).mono ?_
        rintro r w' ⟨rfl, rfl⟩
        clear c2
        go_wp2
        exact bodyPost_ret (ret_tag Try.results10 _ rfl rfl rfl (Blk.made w false ⟨#[]⟩ ⟨#[]⟩)) rfl ⟨rfl, at0 w⟩
      · have h5 := Lib.hid (hq1 rfl).symm
        clear hq1 hq2
        go_wp2_with fail
        refine (c2 _).mono ?_
        rintro r w' ⟨rfl, rfl⟩
        clear c2
        go_wp2
        go_round
        case rel => exact ⟨j + 1, by go_num, by omega, by omega, h5⟩
        case measure => simp [intOf]; omega
    · have h5 := M.bh_end M.isT s.data.toList j (by rw [← sz_list]; omega)
      rw [hst.out] at h5
      clear hst
      exact absurd h5 (by omega)
set_option maxRecDepth 100000 in
set_option maxHeartbeats 400000 in
theorem rrd_vD (s : ByteArray) (k R : Nat) (w : World) (hs : s.size ≤ 100000) (hk : k + 1 < s.size) (h0 : s.data.toList[k]? = some 33) (h1 : s.data.toList[k + 1]? = some 60) (hR : M.bh M.isT s.data.toList (k + 2) = R) (hR2 : k + 2 ≤ R) (hR3 : R ≤ s.size) (hE : R ≠ k + 2) (hZ : R < s.size) (hc : s[R] = 62) :
    Calls Try.prog 10 #[.string s, .int .i64 k] w fun e w' => e = .returned (.tuple #[tV true ⟨#[]⟩ (bA (M.cut s.data.toList (k + 2) R)), .int .i64 ((R + 1 : Nat) : Int), .bool true]) ∧ Below w.heap.size w w' := by
  have HR := Lib.hid hR
  clear hR
  have d0 : decide ((k : Int) < 0) = false := decide_eq_false (by omega)
  have d1 : decide ((s.size : Int) ≤ (k : Int)) = false := decide_eq_false (by omega)
  have d2 : decide (s.size ≤ k) = false := decide_eq_false (by omega)
  have d3 : decide (k < s.size) = true := decide_eq_true (by omega)
  have d4 : decide (k + 1 < s.size) = true := decide_eq_true hk
  have d5 : decide ((k : Int) + 1 < (s.size : Int)) = true := decide_eq_true (by omega)
  have n0 : (s[k]'(get_l h0).1).toNat = 33 := by rw [(get_l h0).2]; rfl
  have n1 : (s[k + 1]'(get_l h1).1).toNat = 60 := by rw [(get_l h1).2]; rfl
  have g1 : ((R : Int) == (k : Int) + 2) = false := beq_eq_false_iff_ne.2 (by omega)
  have gg1 : ((R : Int) == (k : Int) + 1 + 1) = false := beq_eq_false_iff_ne.2 (by omega)
  have g2 : ((R : Int) == (s.size : Int)) = false := beq_eq_false_iff_ne.2 (by omega)
  have n2 : s[R].toNat = 62 := by rw [hc]; rfl
  have hx := extract_bA s (k + 2) R hR2
  have x1 : decide ((0 : Int) ≤ (k : Int) + 2) = true := decide_eq_true (by omega)
  have x2 : decide ((k : Int) + 2 ≤ (R : Int)) = true := decide_eq_true (by omega)
  have xx1 : decide ((0 : Int) ≤ (k : Int) + 1 + 1) = true := decide_eq_true (by omega)
  have xx2 : decide ((k : Int) + 1 + 1 ≤ (R : Int)) = true := decide_eq_true (by omega)
  have x6 : wrap64 ((k : Int) + 1 + 1) = (k : Int) + 1 + 1 := by unfold wrap64; omega
  have x3 : decide ((R : Int) ≤ (s.size : Int)) = true := decide_eq_true (by omega)
  have x4 : decide (k + 2 ≤ R) = true := decide_eq_true hR2
  have x5 : decide (R ≤ s.size) = true := decide_eq_true hR3
  obtain ⟨k0, k1, k2⟩ := (Blk.made w false ⟨#[]⟩ ⟨#[]⟩).cells
  obtain ⟨f0, f1, f2⟩ := (Blk.made w false ⟨#[]⟩ ⟨#[]⟩).fro
  clear hc
  have x0 : wrap64 ((k : Int) + 1) = (k : Int) + 1 := by unfold wrap64; omega
  go_enter Try.func10, Try.ntmps10
  go_wp2
  go_loop [8] (fun x => ∃ j : Nat, x = .int .i64 j ∧ k + 2 ≤ j ∧ j ≤ s.size ∧ Hid (M.bh M.isT s.data.toList j = R)) (fun x => s.size - (intOf x).toNat)
  case atStart => exact ⟨k + 2, by go_num, Nat.le_refl _, by omega, HR⟩
  case round =>
    obtain ⟨j, rfl, hj, hj2, hst⟩ := hrel
    clear HR
    by_cases hlt : j < s.size
    · have hltd : decide (j < s.size) = true := decide_eq_true hlt
      have hlti : decide ((j : Int) < (s.size : Int)) = true := decide_eq_true (by omega)
      have c2 := fun W => rT_any s[j] W
      have hg := get_list s j hlt
      have hq1 := fun h => M.bh_step M.isT hg h
      have hq2 := fun h => M.bh_stop M.isT hg h
      rw [hst.out] at hq1 hq2
      obtain ⟨q, hq⟩ : ∃ q, M.isT s[j] = q := ⟨_, rfl⟩
      rw [hq] at c2 hq1 hq2
      clear hq hg hst
      cases q
      · have h5 := hq2 rfl
        clear hq1 hq2
        obtain rfl : R = j := h5
        replace c2 : ∀ W, Calls Try.prog 21 #[.int .u8 62] W fun e w' => e = .returned (.bool false) ∧ W = w' := by rw [n2] at c2; exact c2
        go_wp2_with fail
        refine (c2 _).mono ?_
        rintro r w' ⟨rfl, rfl⟩
        clear c2
        go_wp2
        exact bodyPost_ret (ret_tag Try.results10 _ rfl rfl rfl (Blk.made w true ⟨#[]⟩ _)) rfl ⟨rfl, atG w _ _ _⟩
      · have h5 := Lib.hid (hq1 rfl).symm
        clear hq1 hq2
        go_wp2_with fail
        refine (c2 _).mono ?_
        rintro r w' ⟨rfl, rfl⟩
        clear c2
        go_wp2
        go_round
        case rel => exact ⟨j + 1, by go_num, by omega, by omega, h5⟩
        case measure => simp [intOf]; omega
    · have h5 := M.bh_end M.isT s.data.toList j (by rw [← sz_list]; omega)
      rw [hst.out] at h5
      clear hst
      exact absurd h5 (by omega)
end Go.Proofs.Ytcahleaaicebbaa
