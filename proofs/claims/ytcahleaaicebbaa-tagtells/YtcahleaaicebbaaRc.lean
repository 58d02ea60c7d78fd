/- Walks: the document's Read, at a handle. -/
import Derived.Test.YtcahleaaicebbaaRb
set_option linter.unusedVariables false
namespace Go.Proofs.Ytcahleaaicebbaa
open Go.RowKit

set_option maxRecDepth 100000 in
set_option maxHeartbeats 1000000 in
theorem rrd_hA (s : ByteArray) (k n R : Nat) (w : World) (hs : s.size ≤ 100000) (h0 : s.data.toList[k]? = some 33) (hn : M.bh M.isW s.data.toList (k + 1) = k + 1 + n) (hnle : k + 1 + n ≤ s.size) (hR : M.bh M.isS s.data.toList (k + 1 + n + 1) = R) (hR2 : k + 1 + n + 1 ≤ R) (hR3 : R ≤ s.size) (hk1 : k + 1 < s.size) (h1 : s[k + 1] ≠ 60) (hw : k + 1 + n < s.size) (h33 : s[k + 1 + n] = 33) (hE : R = k + 1 + n + 1) :
    Calls Try.prog 10 #[.string s, .int .i64 k] w fun e w' => e = .returned (.tuple #[tZ, .int .i64 0, .bool false]) ∧ Below w.heap.size w w' := by
  have HR := Lib.hid hR
  clear hR
  have hk := (get_l h0).1
  have d0 : decide ((k : Int) < 0) = false := decide_eq_false (by omega)
  have d1 : decide ((s.size : Int) ≤ (k : Int)) = false := decide_eq_false (by omega)
  have d2 : decide (s.size ≤ k) = false := decide_eq_false (by omega)
  have d3 : decide (k < s.size) = true := decide_eq_true (by omega)
  have n0 : (s[k]'(get_l h0).1).toNat = 33 := by rw [(get_l h0).2]; rfl
  have x0 : wrap64 ((k : Int) + 1) = (k : Int) + 1 := by unfold wrap64; omega
  have x1 : wrap64 ((k : Int) + 1 + (n : Int)) = (k : Int) + 1 + (n : Int) := by unfold wrap64; omega
  have x2 : wrap64 ((k : Int) + 1 + (n : Int) + 1) = (k : Int) + 1 + (n : Int) + 1 := by unfold wrap64; omega
  have c1 := fun W => rW_any s (k + 1) W (by omega) (by omega)
  rw [hn, Nat.add_sub_cancel_left] at c1
  have d4 : decide (k + 1 < s.size) = true := decide_eq_true hk1
  have d5 : decide ((k : Int) + 1 < (s.size : Int)) = true := decide_eq_true (by omega)
  have n1 : (((s[k + 1]'hk1).toNat : Int) == 60) = false := neC (k := 60) (by omega) h1
  have d6 : decide (k + 1 + n < s.size) = true := decide_eq_true hw
  have d7 : decide ((k : Int) + 1 + (n : Int) < (s.size : Int)) = true := decide_eq_true (by omega)
  have n2 : ((s[k + 1 + n]'hw).toNat) = 33 := by rw [h33]; rfl
  have d8 : decide ((k : Int) + 1 < (k : Int) + 1 + (n : Int) + 1) = true := decide_eq_true (by omega)
  have d9 : ((R : Int) == (k : Int) + 1 + (n : Int) + 1) = true := by rw [hE]; simp
  clear hE
  go_enter Try.func10, Try.ntmps10
  go_wp2_with fail
  refine (c1 _).mono ?_
  rintro r w' ⟨rfl, rfl⟩
  clear c1
  go_wp2
  go_loop [11] (fun x => ∃ j : Nat, x = .int .i64 j ∧ k + 1 + n + 1 ≤ j ∧ j ≤ s.size ∧ Hid (M.bh M.isS s.data.toList j = R)) (fun x => s.size - (intOf x).toNat)
  case atStart => exact ⟨k + 1 + n + 1, by go_num, Nat.le_refl _, by omega, HR⟩
  case round =>
    obtain ⟨j, rfl, hj, hj2, hst⟩ := hrel
    clear HR
    by_cases hlt : j < s.size
    · have hltd : decide (j < s.size) = true := decide_eq_true hlt
      have hlti : decide ((j : Int) < (s.size : Int)) = true := decide_eq_true (by omega)
      have c2 := fun W => rS_any s[j] W
      have hg := get_list s j hlt
      have hq1 := fun h => M.bh_step M.isS hg h
      have hq2 := fun h => M.bh_stop M.isS hg h
      rw [hst.out] at hq1 hq2
      obtain ⟨q, hq⟩ : ∃ q, M.isS s[j] = q := ⟨_, rfl⟩
      rw [hq] at c2 hq1 hq2
      clear hq hg hst
      obtain ⟨sj, hsj⟩ : ∃ z : Nat, s[j].toNat = z := ⟨_, rfl⟩
      rw [hsj] at c2
      cases q
      · have h5 := hq2 rfl
        clear hq1 hq2
        obtain rfl : R = j := h5
        go_wp2_with fail
        refine (c2 _).mono ?_
        rintro r w' ⟨rfl, rfl⟩
        clear c2
        go_wp2
        exact bodyPost_ret (ret_tag Try.results10 _ rfl rfl rfl (Blk.made w false ⟨#[]⟩ ⟨#[]⟩)) rfl ⟨rfl, at0 w⟩
      · have h5 := Lib.hid (hq1 rfl).symm
        clear hq1 hq2
        go_wp2_with fail
        refine (c2 _).mono ?_
        rintro r w' ⟨rfl, rfl⟩
        clear c2
        go_wp2
        go_round
        case rel => exact ⟨j + 1, by go_num, by omega, by omega, h5⟩
        case measure => simp [intOf]; omega
    · have h5 := M.bh_end M.isS s.data.toList j (by rw [← sz_list]; omega)
      rw [hst.out] at h5
      clear hst
      obtain rfl : R = j := h5
      have hltd : decide (R < s.size) = false := decide_eq_false hlt
      have hlti : decide ((R : Int) < (s.size : Int)) = false := decide_eq_false (by omega)
      go_wp2
      exact bodyPost_ret (ret_tag Try.results10 _ rfl rfl rfl (Blk.made w false ⟨#[]⟩ ⟨#[]⟩)) rfl ⟨rfl, at0 w⟩
set_option maxRecDepth 100000 in
set_option maxHeartbeats 1000000 in
theorem rrd_hB (s : ByteArray) (k n R : Nat) (w : World) (hs : s.size ≤ 100000) (h0 : s.data.toList[k]? = some 33) (hn : M.bh M.isW s.data.toList (k + 1) = k + 1 + n) (hnle : k + 1 + n ≤ s.size) (hR : M.bh M.isS s.data.toList (k + 1 + n + 1) = R) (hR2 : k + 1 + n + 1 ≤ R) (hR3 : R ≤ s.size) (hk1 : k + 1 < s.size) (h1 : s[k + 1] ≠ 60) (hw : k + 1 + n < s.size) (h33 : s[k + 1 + n] = 33) (hE : R ≠ k + 1 + n + 1) :
    Calls Try.prog 10 #[.string s, .int .i64 k] w fun e w' => e = .returned (.tuple #[tV false (bA (M.cut s.data.toList k (k + 1 + n + 1))) (bA (M.cut s.data.toList (k + 1 + n + 1) R)), .int .i64 (R : Int), .bool true]) ∧ Below w.heap.size w w' := by
  have HR := Lib.hid hR
  clear hR
  have hk := (get_l h0).1
  have d0 : decide ((k : Int) < 0) = false := decide_eq_false (by omega)
  have d1 : decide ((s.size : Int) ≤ (k : Int)) = false := decide_eq_false (by omega)
  have d2 : decide (s.size ≤ k) = false := decide_eq_false (by omega)
  have d3 : decide (k < s.size) = true := decide_eq_true (by omega)
  have n0 : (s[k]'(get_l h0).1).toNat = 33 := by rw [(get_l h0).2]; rfl
  have x0 : wrap64 ((k : Int) + 1) = (k : Int) + 1 := by unfold wrap64; omega
  have x1 : wrap64 ((k : Int) + 1 + (n : Int)) = (k : Int) + 1 + (n : Int) := by unfold wrap64; omega
  have x2 : wrap64 ((k : Int) + 1 + (n : Int) + 1) = (k : Int) + 1 + (n : Int) + 1 := by unfold wrap64; omega
  have c1 := fun W => rW_any s (k + 1) W (by omega) (by omega)
  rw [hn, Nat.add_sub_cancel_left] at c1
  have d4 : decide (k + 1 < s.size) = true := decide_eq_true hk1
  have d5 : decide ((k : Int) + 1 < (s.size : Int)) = true := decide_eq_true (by omega)
  have n1 : (((s[k + 1]'hk1).toNat : Int) == 60) = false := neC (k := 60) (by omega) h1
  have d6 : decide (k + 1 + n < s.size) = true := decide_eq_true hw
  have d7 : decide ((k : Int) + 1 + (n : Int) < (s.size : Int)) = true := decide_eq_true (by omega)
  have n2 : ((s[k + 1 + n]'hw).toNat) = 33 := by rw [h33]; rfl
  have d8 : decide ((k : Int) + 1 < (k : Int) + 1 + (n : Int) + 1) = true := decide_eq_true (by omega)
  have d9 : ((R : Int) == (k : Int) + 1 + (n : Int) + 1) = false := beq_eq_false_iff_ne.2 (by omega)
  have hx := extract_bA s k (k + 1 + n + 1) (by omega)
  have hy := extract_bA s (k + 1 + n + 1) R hR2
  have y1 : decide ((0 : Int) ≤ (k : Int)) = true := decide_eq_true (by omega)
  have y2 : decide ((k : Int) ≤ (k : Int) + 1 + (n : Int) + 1) = true := decide_eq_true (by omega)
  have y3 : decide ((k : Int) + 1 + (n : Int) + 1 ≤ (s.size : Int)) = true := decide_eq_true (by omega)
  have y4 : decide ((0 : Int) ≤ (k : Int) + 1 + (n : Int) + 1) = true := decide_eq_true (by omega)
  have y5 : decide ((k : Int) + 1 + (n : Int) + 1 ≤ (R : Int)) = true := decide_eq_true (by omega)
  have y6 : decide ((R : Int) ≤ (s.size : Int)) = true := decide_eq_true (by omega)
  go_enter Try.func10, Try.ntmps10
  go_wp2_with fail
  refine (c1 _).mono ?_
  rintro r w' ⟨rfl, rfl⟩
  clear c1
  go_wp2
  go_loop [11] (fun x => ∃ j : Nat, x = .int .i64 j ∧ k + 1 + n + 1 ≤ j ∧ j ≤ s.size ∧ Hid (M.bh M.isS s.data.toList j = R)) (fun x => s.size - (intOf x).toNat)
  case atStart => exact ⟨k + 1 + n + 1, by go_num, Nat.le_refl _, by omega, HR⟩
  case round =>
    obtain ⟨j, rfl, hj, hj2, hst⟩ := hrel
    clear HR
    by_cases hlt : j < s.size
    · have hltd : decide (j < s.size) = true := decide_eq_true hlt
      have hlti : decide ((j : Int) < (s.size : Int)) = true := decide_eq_true (by omega)
      have c2 := fun W => rS_any s[j] W
      have hg := get_list s j hlt
      have hq1 := fun h => M.bh_step M.isS hg h
      have hq2 := fun h => M.bh_stop M.isS hg h
      rw [hst.out] at hq1 hq2
      obtain ⟨q, hq⟩ : ∃ q, M.isS s[j] = q := ⟨_, rfl⟩
      rw [hq] at c2 hq1 hq2
      clear hq hg hst
      obtain ⟨sj, hsj⟩ : ∃ z : Nat, s[j].toNat = z := ⟨_, rfl⟩
      rw [hsj] at c2
      cases q
      · have h5 := hq2 rfl
        clear hq1 hq2
        obtain rfl : R = j := h5
        go_wp2_with fail
        refine (c2 _).mono ?_
        rintro r w' ⟨rfl, rfl⟩
        clear c2
        go_wp2_with fail
        go_region
        all_goals (go_wp2; exact bodyPost_ret (ret_tag Try.results10 _ rfl rfl rfl (Blk.made w false _ _)) rfl ⟨rfl, (atG w _ _ _).drew⟩)
      · have h5 := Lib.hid (hq1 rfl).symm
        clear hq1 hq2
        go_wp2_with fail
        refine (c2 _).mono ?_
        rintro r w' ⟨rfl, rfl⟩
        clear c2
        go_wp2
        go_round
        case rel => exact ⟨j + 1, by go_num, by omega, by omega, h5⟩
        case measure => simp [intOf]; omega
    · have h5 := M.bh_end M.isS s.data.toList j (by rw [← sz_list]; omega)
      rw [hst.out] at h5
      clear hst
      obtain rfl : R = j := h5
      have hltd : decide (R < s.size) = false := decide_eq_false hlt
      have hlti : decide ((R : Int) < (s.size : Int)) = false := decide_eq_false (by omega)
      go_wp2_with fail
      go_region
      all_goals (go_wp2; exact bodyPost_ret (ret_tag Try.results10 _ rfl rfl rfl (Blk.made w false _ _)) rfl ⟨rfl, (atG w _ _ _).drew⟩)
end Go.Proofs.Ytcahleaaicebbaa
