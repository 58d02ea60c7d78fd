/- Walks of the document's Off and of Within. -/
import Derived.Test.YthbmppkngaifmaaRe
set_option linter.unusedVariables false
namespace Go.Proofs.Ythbmppkngaifmaa
open Go.RowKit

set_option maxRecDepth 100000 in
set_option maxHeartbeats 1000000 in
theorem roff_any (v : Int) (s : ByteArray) (x y : Int) (w : World) (hs : s.size ≤ 100000) :
    Calls Try.prog 16 #[.int .i64 v, .string s, .int .i64 x, .int .i64 y] w fun e w' => e = .returned (.int .i64 (M.best (isOld v) s.data.toList x y (s.size + 1))) ∧ w = w' := by
  obtain ⟨R, hR⟩ : ∃ R, M.best (isOld v) s.data.toList x y (s.size + 1) = R := ⟨_, rfl⟩
  rw [hR]
  have HR := Lib.hid hR
  clear hR
  go_enter Try.func16, Try.ntmps16
  go_wp2
  go_loop [9] (fun u => ∃ k : Int, u = .int .i64 k ∧ -1 ≤ k ∧ k ≤ s.size ∧ Hid (M.best (isOld v) s.data.toList x y (k + 1).toNat = R)) (fun u => (intOf u + 1).toNat)
  case atStart => exact ⟨s.size, rfl, by omega, Int.le_refl _, HR.out⟩
  case round =>
    obtain ⟨k, rfl, hk1, hk2, hst⟩ := hrel
    by_cases h0 : 0 ≤ k
    · obtain ⟨m, rfl⟩ := Int.eq_ofNat_of_zero_le h0
      have d0 : decide ((0 : Int) ≤ (m : Int)) = true := by simp
      have c1 := rof_any v s (m : Int) w hs
      rw [show clampN (m : Int) s.size = m by unfold clampN; omega] at c1
      have h := hst.out
      rw [show ((m : Int) + 1).toNat = m + 1 by omega, M.best] at h
      unfold M.hit at h
      obtain ⟨⟨a, b⟩, hp⟩ : ∃ p, M.pl (isOld v) s.data.toList m = p := ⟨_, rfl⟩
      rw [hp] at c1 h
      simp only at c1 h
      clear hp hst h0 hk1
      by_cases ha : (a : Int) = x
      · have da : ((a : Int) == x) = true := by simpa using ha
        by_cases hb : (b : Int) = y
        · have db : ((b : Int) == y) = true := by simpa using hb
          rw [if_pos (by simp [ha, hb])] at h
          have HF := Lib.hid h
          clear h ha hb
          go_wp2_with (go_at_call 12; refine c1.mono ?_; rintro r w' ⟨rfl, rfl⟩)
          go_ret
          exact ⟨ret_int HF.out, rfl⟩
        · have db : ((b : Int) == y) = false := by simpa using hb
          rw [if_neg (by simp [hb])] at h
          have HF := Lib.hid h
          clear h ha hb
          go_wp2_with (go_at_call 12; refine c1.mono ?_; rintro r w' ⟨rfl, rfl⟩)
          go_round
          case rel => exact ⟨(m : Int) - 1, by go_num, by omega, by omega, by rw [show ((m : Int) - 1 + 1).toNat = m by omega]; exact HF.out⟩
          case measure => simp [intOf]
      · have da : ((a : Int) == x) = false := by simpa using ha
        rw [if_neg (by simp [ha])] at h
        have HF := Lib.hid h
        clear h ha
        go_wp2_with (go_at_call 12; refine c1.mono ?_; rintro r w' ⟨rfl, rfl⟩)
        go_round
        case rel => exact ⟨(m : Int) - 1, by go_num, by omega, by omega, by rw [show ((m : Int) - 1 + 1).toNat = m by omega]; exact HF.out⟩
        case measure => simp [intOf]
    · obtain rfl : k = -1 := by omega
      have d0 : decide ((0 : Int) ≤ -1) = false := by decide
      have h := hst.out
      rw [show ((-1 : Int) + 1).toNat = 0 from rfl, M.best] at h
      have HF := Lib.hid h
      clear h hst h0 hk1 hk2
      go_wp2
      go_ret
      exact ⟨ret_int HF.out, rfl⟩

/-- A number brought into 0 .. n. -/
def within0 (off : Int) (n : Nat) : Nat := (off % ((n : Int) + 1)).toNat
theorem within0_le (off : Int) (n : Nat) : within0 off n ≤ n := by
  unfold within0
  have := Int.emod_lt_of_pos off (show (0 : Int) < (n : Int) + 1 by omega)
  omega
theorem tmod_within (off : Int) (n : Nat) : (Int.tmod off ((n : Int) + 1) < 0 → Int.tmod off ((n : Int) + 1) + (n : Int) + 1 = (within0 off n : Nat)) ∧ (0 ≤ Int.tmod off ((n : Int) + 1) → Int.tmod off ((n : Int) + 1) = (within0 off n : Nat)) := by
  unfold within0
  have h1 := Int.emod_nonneg off (show ((n : Int) + 1) ≠ 0 by omega)
  have h2 := Int.emod_lt_of_pos off (show (0 : Int) < (n : Int) + 1 by omega)
  rw [Int.tmod_eq_emod]
  have e : (((n : Int) + 1).natAbs : Int) = (n : Int) + 1 := by omega
  split
  · omega
  · rw [e]; omega
theorem tmod_small (off : Int) (n : Nat) : -((n : Int) + 1) < Int.tmod off ((n : Int) + 1) ∧ Int.tmod off ((n : Int) + 1) < (n : Int) + 1 := by
  have h1 := Int.tmod_lt_of_pos off (show (0 : Int) < (n : Int) + 1 by omega)
  have h2 := Int.lt_tmod_of_pos off (show (0 : Int) < (n : Int) + 1 by omega)
  exact ⟨h2, h1⟩

set_option maxHeartbeats 400000 in
theorem within_any (off : Int) (n : Nat) (w : World) (hn : n ≤ 100000) :
    Calls Try.prog 20 #[.int .i64 off, .int .i64 0, .int .i64 n] w fun e w' => e = .returned (.int .i64 (within0 off n : Nat)) ∧ w = w' := by
  have h1 := tmod_within off n
  have h2 := tmod_small off n
  have hle := within0_le off n
  obtain ⟨r, hr⟩ : ∃ r, Int.tmod off ((n : Int) + 1) = r := ⟨_, rfl⟩
  rw [hr] at h1 h2
  have hnz : ((n : Int) + 1 == 0) = false := by simp; omega
  have hw : IntKind.i64.wrap r = r := by rw [IntWalk.i64_in] <;> omega
  have hw1 : IntKind.i64.wrap ((n : Int) + 1) = (n : Int) + 1 := by rw [IntWalk.i64_in] <;> omega
  by_cases h0 : r < 0
  · have e := h1.1 h0
    have d0 : decide (r < 0) = true := by simpa using h0
    clear h1
    go_enter Try.func20, Try.ntmps20
    go_wp2
    go_ret
    exact ⟨ret_int (by omega), rfl⟩
  · have e := h1.2 (by omega)
    have d0 : decide (r < 0) = false := by simpa using h0
    clear h1
    go_enter Try.func20, Try.ntmps20
    go_wp2
    go_ret
    exact ⟨ret_int (by omega), rfl⟩

end Go.Proofs.Ythbmppkngaifmaa
