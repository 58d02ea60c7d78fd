/- Walks: the code's behind at each kind of signs, strings.Clone off the shelf, behindHandle. -/
import Derived.Test.YtcahleaaicebbaaWa
import Derived.Test.YtcahleaaicebbaaShelf
set_option linter.unusedVariables false
namespace Go.Proofs.Ytcahleaaicebbaa
open Go.RowKit

set_option maxRecDepth 100000 in
set_option maxHeartbeats 1000000 in
theorem bhW_any (s : ByteArray) (i : Nat) (w : World) (hs : s.size ≤ 1000000) (hi : i ≤ 1000000) : Calls Try.prog 26 #[.string s, .int .i64 i, .func (.func 34) #[] #[]] w fun e w' => e = .returned (.int .i64 (M.bh M.isW s.data.toList i : Nat)) ∧ w = w' := by
  obtain ⟨R, hR⟩ : ∃ R, M.bh M.isW s.data.toList i = R := ⟨_, rfl⟩
  rw [hR]
  have HR := Lib.hid hR
  clear hR
  go_enter Try.func26, Try.ntmps26
  go_wp2
  go_loop [1] (fun x => ∃ k : Nat, x = .int .i64 k ∧ k ≤ 1000000 ∧ Hid (M.bh M.isW s.data.toList k = R)) (fun x => 1000000 - (intOf x).toNat)
  case atStart => exact ⟨i, rfl, hi, HR⟩
  case round =>
    obtain ⟨k, rfl, hk, hst⟩ := hrel
    clear HR
    by_cases hlt : k < s.size
    · have hltd : decide (k < s.size) = true := decide_eq_true hlt
      have hlti : decide ((k : Int) < (s.size : Int)) = true := decide_eq_true (by omega)
      have c2 := fun W => isW_any s[k] W
      have hg := get_list s k hlt
      have hq1 := fun h => M.bh_step M.isW hg h
      have hq2 := fun h => M.bh_stop M.isW hg h
      rw [hst.out] at hq1 hq2
      obtain ⟨q, hq⟩ : ∃ q, M.isW s[k] = q := ⟨_, rfl⟩
      rw [hq] at c2 hq1 hq2
      clear hq hg hst
      cases q
      · have h5 := hq2 rfl
        clear hq1 hq2
        go_wp2_with fail
        refine (c2 _).mono ?_
        rintro r w' ⟨rfl, rfl⟩
        clear c2
        go_wp2
        go_ret
        exact ⟨ret_int (by first | rfl | rw [h5]), rfl⟩
      · have h5 := Lib.hid (hq1 rfl).symm
        clear hq1 hq2
        go_wp2_with fail
        refine (c2 _).mono ?_
        rintro r w' ⟨rfl, rfl⟩
        clear c2
        go_wp2
        go_round
        case rel => exact ⟨k + 1, by go_num, by omega, h5⟩
        case measure => simp [intOf]; omega
    · have hltd : decide (k < s.size) = false := decide_eq_false hlt
      have hlti : decide ((k : Int) < (s.size : Int)) = false := decide_eq_false (by omega)
      have h5 := M.bh_end M.isW s.data.toList k (by rw [← sz_list]; omega)
      rw [hst.out] at h5
      clear hst
      go_wp2
      go_ret
      exact ⟨ret_int (by first | rfl | rw [h5]), rfl⟩
set_option maxRecDepth 100000 in
set_option maxHeartbeats 1000000 in
theorem bhS_any (s : ByteArray) (i : Nat) (w : World) (hs : s.size ≤ 1000000) (hi : i ≤ 1000000) : Calls Try.prog 26 #[.string s, .int .i64 i, .func (.func 29) #[] #[]] w fun e w' => e = .returned (.int .i64 (M.bh M.isS s.data.toList i : Nat)) ∧ w = w' := by
  obtain ⟨R, hR⟩ : ∃ R, M.bh M.isS s.data.toList i = R := ⟨_, rfl⟩
  rw [hR]
  have HR := Lib.hid hR
  clear hR
  go_enter Try.func26, Try.ntmps26
  go_wp2
  go_loop [1] (fun x => ∃ k : Nat, x = .int .i64 k ∧ k ≤ 1000000 ∧ Hid (M.bh M.isS s.data.toList k = R)) (fun x => 1000000 - (intOf x).toNat)
  case atStart => exact ⟨i, rfl, hi, HR⟩
  case round =>
    obtain ⟨k, rfl, hk, hst⟩ := hrel
    clear HR
    by_cases hlt : k < s.size
    · have hltd : decide (k < s.size) = true := decide_eq_true hlt
      have hlti : decide ((k : Int) < (s.size : Int)) = true := decide_eq_true (by omega)
      have c2 := fun W => isS_any s[k] W
      have hg := get_list s k hlt
      have hq1 := fun h => M.bh_step M.isS hg h
      have hq2 := fun h => M.bh_stop M.isS hg h
      rw [hst.out] at hq1 hq2
      obtain ⟨q, hq⟩ : ∃ q, M.isS s[k] = q := ⟨_, rfl⟩
      rw [hq] at c2 hq1 hq2
      clear hq hg hst
      cases q
      · have h5 := hq2 rfl
        clear hq1 hq2
        go_wp2_with fail
        refine (c2 _).mono ?_
        rintro r w' ⟨rfl, rfl⟩
        clear c2
        go_wp2
        go_ret
        exact ⟨ret_int (by first | rfl | rw [h5]), rfl⟩
      · have h5 := Lib.hid (hq1 rfl).symm
        clear hq1 hq2
        go_wp2_with fail
        refine (c2 _).mono ?_
        rintro r w' ⟨rfl, rfl⟩
        clear c2
        go_wp2
        go_round
        case rel => exact ⟨k + 1, by go_num, by omega, h5⟩
        case measure => simp [intOf]; omega
    · have hltd : decide (k < s.size) = false := decide_eq_false hlt
      have hlti : decide ((k : Int) < (s.size : Int)) = false := decide_eq_false (by omega)
      have h5 := M.bh_end M.isS s.data.toList k (by rw [← sz_list]; omega)
      rw [hst.out] at h5
      clear hst
      go_wp2
      go_ret
      exact ⟨ret_int (by first | rfl | rw [h5]), rfl⟩
set_option maxRecDepth 100000 in
set_option maxHeartbeats 1000000 in
theorem bhT_any (s : ByteArray) (i : Nat) (w : World) (hs : s.size ≤ 1000000) (hi : i ≤ 1000000) : Calls Try.prog 26 #[.string s, .int .i64 i, .func (.func 27) #[] #[]] w fun e w' => e = .returned (.int .i64 (M.bh M.isT s.data.toList i : Nat)) ∧ w = w' := by
  obtain ⟨R, hR⟩ : ∃ R, M.bh M.isT s.data.toList i = R := ⟨_, rfl⟩
  rw [hR]
  have HR := Lib.hid hR
  clear hR
  go_enter Try.func26, Try.ntmps26
  go_wp2
  go_loop [1] (fun x => ∃ k : Nat, x = .int .i64 k ∧ k ≤ 1000000 ∧ Hid (M.bh M.isT s.data.toList k = R)) (fun x => 1000000 - (intOf x).toNat)
  case atStart => exact ⟨i, rfl, hi, HR⟩
  case round =>
    obtain ⟨k, rfl, hk, hst⟩ := hrel
    clear HR
    by_cases hlt : k < s.size
    · have hltd : decide (k < s.size) = true := decide_eq_true hlt
      have hlti : decide ((k : Int) < (s.size : Int)) = true := decide_eq_true (by omega)
      have c2 := fun W => isT_any s[k] W
      have hg := get_list s k hlt
      have hq1 := fun h => M.bh_step M.isT hg h
      have hq2 := fun h => M.bh_stop M.isT hg h
      rw [hst.out] at hq1 hq2
      obtain ⟨q, hq⟩ : ∃ q, M.isT s[k] = q := ⟨_, rfl⟩
      rw [hq] at c2 hq1 hq2
      clear hq hg hst
      cases q
      · have h5 := hq2 rfl
        clear hq1 hq2
        go_wp2_with fail
        refine (c2 _).mono ?_
        rintro r w' ⟨rfl, rfl⟩
        clear c2
        go_wp2
        go_ret
        exact ⟨ret_int (by first | rfl | rw [h5]), rfl⟩
      · have h5 := Lib.hid (hq1 rfl).symm
        clear hq1 hq2
        go_wp2_with fail
        refine (c2 _).mono ?_
        rintro r w' ⟨rfl, rfl⟩
        clear c2
        go_wp2
        go_round
        case rel => exact ⟨k + 1, by go_num, by omega, h5⟩
        case measure => simp [intOf]; omega
    · have hltd : decide (k < s.size) = false := decide_eq_false hlt
      have hlti : decide ((k : Int) < (s.size : Int)) = false := decide_eq_false (by omega)
      have h5 := M.bh_end M.isT s.data.toList k (by rw [← sz_list]; omega)
      rw [hst.out] at h5
      clear hst
      go_wp2
      go_ret
      exact ⟨ret_int (by first | rfl | rw [h5]), rfl⟩

theorem slclone_any (s : ByteArray) (w : World) (hs : s.size ≤ 281474976710656) : Calls Try.prog 32 #[.string s] w fun e w' => e = .returned (.string s) ∧ Below w.heap.size w w' :=
  Any.stringslite_Clone Try.laysM316 s w (by omega)
set_option maxRecDepth 100000 in
theorem clone_any (s : ByteArray) (w : World) (hs : s.size ≤ 281474976710656) : Calls Try.prog 24 #[.string s] w fun e w' => e = .returned (.string s) ∧ Below w.heap.size w w' := by
  have c1 := fun W => slclone_any s W hs
  go_enter Try.func24, Try.ntmps24
  go_wp2_with fail
  refine (c1 _).mono ?_
  rintro r w' ⟨rfl, hb⟩
  go_wp2
  go_ret
  exact ⟨rfl, hb⟩

/-- The place behind a handle. -/
def bhH (l : List UInt8) (i : Nat) : Nat := if l[M.bh M.isW l (i + 1)]? = some 33 then M.bh M.isW l (i + 1) + 1 else i + 1
theorem bhH_gt (s : ByteArray) (i : Nat) : i < bhH s.data.toList i := by
  have h := M.bh_ge M.isW s.data.toList (i + 1)
  unfold bhH
  split <;> omega
theorem bhH_le (s : ByteArray) (i : Nat) (hi : i < s.size) : bhH s.data.toList i ≤ s.size := by
  unfold bhH
  split
  · rename_i h
    exact (get_l h).1
  · omega
set_option maxRecDepth 100000 in
theorem bhH_any (s : ByteArray) (i : Nat) (w : World) (hs : s.size ≤ 100000) (hi : i < s.size) : Calls Try.prog 28 #[.string s, .int .i64 i] w fun e w' => e = .returned (.int .i64 (bhH s.data.toList i : Nat)) ∧ w = w' := by
  have c1 := fun W => bhW_any s (i + 1) W (by omega) (by omega)
  have hle := M.bh_le M.isW s.data.toList (i + 1) (by rw [← sz_list]; omega)
  rw [← sz_list] at hle
  unfold bhH
  generalize M.bh M.isW s.data.toList (i + 1) = j at *
  have c2 := fun W => at_any s (j : Int) W (by omega)
  have h33 := atI_is s.data.toList j 33 (by omega)
  rw [show UInt8.ofNat 33 = 33 from rfl] at h33
  generalize atI s.data.toList (j : Int) = A at *
  by_cases hd : s.data.toList[j]? = some 33
  · rw [if_pos hd]
    rw [decide_eq_true hd] at h33
    clear hd
    go_enter Try.func28, Try.ntmps28
    go_wp2_with fail
    refine (c1 _).mono ?_
    rintro r w' ⟨rfl, rfl⟩
    go_wp2_with fail
    refine (c2 _).mono ?_
    rintro r w' ⟨rfl, rfl⟩
    go_wp2
    go_ret
    exact ⟨rfl, rfl⟩
  · rw [if_neg hd]
    rw [decide_eq_false hd] at h33
    clear hd
    go_enter Try.func28, Try.ntmps28
    go_wp2_with fail
    refine (c1 _).mono ?_
    rintro r w' ⟨rfl, rfl⟩
    go_wp2_with fail
    refine (c2 _).mono ?_
    rintro r w' ⟨rfl, rfl⟩
    go_wp2
    go_ret
    exact ⟨rfl, rfl⟩
end Go.Proofs.Ytcahleaaicebbaa
