/- Walks: digitAt, digitsOf, decimal, isStep, split, Good, trimLeftByte, TrimLeft. -/
import Derived.Test.YthgkmcidlcdjlaaDoorKb
import Derived.Test.YthgkmcidlcdjlaaDoorK
set_option linter.unusedVariables false
namespace Go.Proofs.YthgkmcidlcdjlaaDoor
open Go.RowKit

set_option maxRecDepth 100000 in
set_option maxHeartbeats 1000000 in
theorem digitAt_any (s : ByteArray) (i : Nat) (w : World) (h : i < s.size) :
    Calls Tryd.prog 57 #[.string s, .int .i64 i] w fun e w' => e = .returned (.int .u64 (M.dv s[i] : Nat)) ∧ w = w' := by
  obtain ⟨R, hR⟩ : ∃ R, M.dv s[i] = R := ⟨_, rfl⟩
  rw [hR]
  have HR := Lib.hid hR
  clear hR
  go_enter Tryd.func57, Tryd.ntmps57
  go_wp2
  all_goals
    go_ret
    refine ⟨ret_int ?_, rfl⟩
    rw [← HR.out]
    unfold M.dv
    clear HR
    generalize s[i].toNat = c at *
    repeat' split
    all_goals omega

set_option maxRecDepth 100000 in
set_option maxHeartbeats 1000000 in
theorem digitsOf_any (s : ByteArray) (b : Nat) (w : World) (hb : b ≤ 16) (hs : s.size ≤ 1000000) :
    Calls Tryd.prog 42 #[.string s, .int .i64 b] w fun e w' => e = .returned (.bool (M.okD b s.data.toList)) ∧ w = w' := by
  have hLl := sz_list s
  obtain ⟨R, hR⟩ : ∃ R, M.okD b s.data.toList = R := ⟨_, rfl⟩
  rw [hR]
  have HR := Lib.hid hR
  have HL := Lib.hid hLl
  clear hR hLl
  go_enter Tryd.func42, Tryd.ntmps42
  go_wp2
  go_loop [8] (fun i => ∃ k : Nat, i = .int .i64 k ∧ k ≤ s.size ∧ Hid (M.allD b (s.data.toList.take k) = true)) (fun i => s.size - (intOf i).toNat)
  case atStart => exact ⟨0, rfl, Nat.zero_le _, rfl⟩
  case round =>
    obtain ⟨k, rfl, hk, hst⟩ := hrel
    by_cases hlt : k < s.size
    · have hltd : decide (k < s.size) = true := by simpa using hlt
      have c1 := digitAt_any s k w hlt
      have hd := M.dv_le s[k]
      have hsn := M.allD_snoc b (s.data.toList.take k) s[k]
      rw [← take_snoc s k hlt, hst.out, Bool.true_and] at hsn
      obtain ⟨d, hdd⟩ : ∃ d, M.dv s[k] = d := ⟨_, rfl⟩
      rw [hdd] at c1 hd hsn
      clear hdd
      have HS := Lib.hid hsn
      clear hsn
      by_cases hdb : d < b
      · have hq : decide (b ≤ d) = false := by simpa using hdb
        go_wp2_with (go_at_call 57; refine c1.mono ?_; rintro r w' ⟨rfl, rfl⟩)
        go_round
        case rel => exact ⟨k + 1, by go_num, by omega, by show _ = true; rw [HS.out]; simpa using hdb⟩
        case measure => simp [intOf]; omega
      · have hq : decide (b ≤ d) = true := by simpa using hdb
        go_wp2_with (go_at_call 57; refine c1.mono ?_; rintro r w' ⟨rfl, rfl⟩)
        go_ret
        refine ⟨ret_bool ?_, rfl⟩
        have h1 : M.allD b (s.data.toList.take (k + 1)) = false := by rw [HS.out]; simpa using hdb
        rw [← HR.out]
        unfold M.okD
        rw [← List.take_append_drop (k + 1) s.data.toList, M.allD_append, h1]
        simp
    · obtain rfl : k = s.size := by omega
      have hltd : decide (s.size < s.size) = false := by simp
      have h1 := hst.out
      rw [take_all] at h1
      have HF := Lib.hid h1
      clear h1 hst
      go_wp2
      go_ret
      refine ⟨ret_bool ?_, rfl⟩
      rw [← HR.out]
      unfold M.okD
      rw [HF.out, Bool.and_true]
      simp only [ByteArray.toList_eq]

theorem decimal_any (s : ByteArray) (w : World) (hs : s.size ≤ 1000000) :
    Calls Tryd.prog 31 #[.string s] w fun e w' => e = .returned (.bool (M.okD 10 s.data.toList)) ∧ w = w' := by
  have c1 := digitsOf_any s 10 w (by omega) hs
  go_enter Tryd.func31, Tryd.ntmps31
  go_wp2_with (go_at_call 42; refine c1.mono ?_; rintro r w' ⟨rfl, rfl⟩)
  go_ret
  exact ⟨rfl, rfl⟩

def stepB (n : Int) : Bool := decide (0 ≤ n ∧ n ≤ 1099511627776)
set_option maxRecDepth 100000 in
theorem isStep_any (n : Int) (w : World) :
    Calls Tryd.prog 65 #[.int .i64 n] w fun e w' => e = .returned (.bool (stepB n)) ∧ w = w' := by
  obtain ⟨R, hR⟩ : ∃ R, stepB n = R := ⟨_, rfl⟩
  rw [hR]
  have HR := Lib.hid hR
  clear hR
  go_enter Tryd.func65, Tryd.ntmps65
  go_wp2
  all_goals
    go_ret
    refine ⟨ret_bool ?_, rfl⟩
    rw [← HR.out]
    unfold stepB
    first | exact (decide_eq_true (by omega)).symm | exact (decide_eq_false (by omega)).symm | (simp_all; done) | (simp; omega)

set_option maxRecDepth 100000 in
set_option maxHeartbeats 1000000 in
theorem trimByte_any (s : ByteArray) (w : World) (hs : s.size ≤ 1000000) :
    Calls Tryd.prog 58 #[.string s, .int .u8 48] w fun e w' => e = .returned (.string (bA (M.strip s.data.toList))) ∧ w = w' := by
  obtain ⟨R, hR⟩ : ∃ R, M.strip s.data.toList = R := ⟨_, rfl⟩
  rw [hR]
  have HR := Lib.hid hR
  clear hR
  go_enter Tryd.func58, Tryd.ntmps58
  go_wp2
  go_loop [0] (fun v => ∃ t : ByteArray, v = .string t ∧ t.size ≤ s.size ∧ Hid (M.strip t.data.toList = R)) (fun v => match v with | .string t => t.size | _ => 0)
  case atStart => exact ⟨s, rfl, Nat.le_refl _, HR.out⟩
  case round =>
    obtain ⟨t, rfl, ht, hst⟩ := hrel
    by_cases h0 : 0 < t.size
    · have hl := drop_cons t 0 h0
      rw [List.drop_zero] at hl
      have hst1 := hst.out
      rw [hl] at hst1
      by_cases h1 : t[0].toNat = 48
      · have e : t[0] = 48 := UInt8.toNat_inj.1 h1
        have hst2 : M.strip (t.data.toList.drop 1) = R := by
          rw [← hst1]; unfold M.strip; rw [List.dropWhile_cons, e]; rfl
        have HS := Lib.hid hst2
        clear hst1 hst2 hl e
        go_wp2
        go_round
        case rel => exact ⟨_, rfl, by simp; omega, by show M.strip _ = R; rw [Lib.extract_to_end]; exact HS.out⟩
        case measure => simp; omega
      · have hb : ((t[0].toNat : Int) == 48) = false := by simp; omega
        have hst2 : t.data.toList = R := by
          rw [← hst1, ← hl]; symm; apply M.strip_self; rw [hl]; simp; intro e; exact h1 (by rw [e]; rfl)
        have HS := Lib.hid hst2
        clear hst1 hst2 hl h1
        go_wp2
        go_ret
        exact ⟨ret_str (eq_bA HS.out), rfl⟩
    · have hz : t.data.toList = [] := by
        have := sz_list t
        exact List.eq_nil_of_length_eq_zero (by omega)
      have hst1 := hst.out
      rw [hz] at hst1
      have HS := Lib.hid hst1
      have HZ := Lib.hid hz
      clear hst1 hz hst
      go_wp2
      go_ret
      refine ⟨ret_str (eq_bA ?_), rfl⟩
      rw [HZ.out, ← HS.out]; rfl

end Go.Proofs.YthgkmcidlcdjlaaDoor
