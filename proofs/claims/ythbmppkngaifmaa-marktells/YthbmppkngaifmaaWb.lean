/- Walk of targum/brk's Break. -/
import Derived.Test.YthbmppkngaifmaaWa
set_option linter.unusedVariables false
namespace Go.Proofs.Ythbmppkngaifmaa
open Go.RowKit

theorem oldN_brk (l : List UInt8) (h13 : M.by8 l 0 ≠ 13) (h10 : M.by8 l 0 ≠ 10) : M.brkN true l = oldN l := by
  unfold M.brkN oldN
  rw [if_neg (by omega), if_neg (by omega)]
  simp only [true_and]
theorem newN_brk (l : List UInt8) (h13 : M.by8 l 0 ≠ 13) (h10 : M.by8 l 0 ≠ 10) : M.brkN false l = 0 := by
  unfold M.brkN
  rw [if_neg (by omega), if_neg (by omega)]
  simp

/-- The version: is it the old one? -/
def isOld (v : Int) : Bool := v == 11

set_option maxRecDepth 100000 in
set_option maxHeartbeats 1000000 in
theorem break_in (v : Int) (s : ByteArray) (i : Nat) (w : World) (hi : i < s.size) (hs : s.size ≤ 100000) :
    Calls Try.prog 24 #[.int .i64 v, .string s, .int .i64 i] w fun e w' => e = .returned (.int .i64 (M.brkN (isOld v) (s.data.toList.drop i) : Nat)) ∧ w = w' := by
  have g0 := getB s i hi
  have i0 : decide ((i : Int) < 0) = false := by simp
  have i1 : decide (s.size ≤ i) = false := by simp; omega
  have b0 : M.by8 (s.data.toList.drop i) 0 = M.by8 s.data.toList i := by rw [M.by8_drop, Nat.add_zero]
  have hbz : ((s[i]'hi).toNat : Int) < 256 := by have := M.by8_lt s.data.toList i; omega
  have cN := hasPrefix_any (s.extract (i + 1) s.size) ⟨#[10]⟩ w
  rw [extract_list] at cN
  simp only at cN
  rw [prefix1 _ 10 (by decide), M.by8_drop, Nat.add_zero] at cN
  have b1 : M.by8 (s.data.toList.drop i) 1 = M.by8 s.data.toList (i + 1) := by rw [M.by8_drop]
  have cO := oldBreak_any (s.extract i s.size) w
  rw [extract_list] at cO
  obtain ⟨R, hR⟩ : ∃ R, M.brkN (isOld v) (s.data.toList.drop i) = R := ⟨_, rfl⟩
  rw [hR]
  by_cases h13 : M.by8 s.data.toList i = 13
  · have d13 : (((s[i]'hi).toNat : Int) == 13) = true := by simp; omega
    by_cases h10 : M.by8 s.data.toList (i + 1) = 10
    · have hfin : R = 2 := by rw [← hR]; unfold M.brkN; rw [if_pos (by omega)]
      rw [show decide (M.by8 s.data.toList (i + 1) = UInt8.toNat 10) = true from decide_eq_true h10] at cN
      subst hfin
      clear hR b0 b1 g0 h13 h10 cO hbz
      go_enter Try.func24, Try.ntmps24
      go_wp2_with (go_at_call 27; refine cN.mono ?_; rintro r w' ⟨rfl, rfl⟩)
      go_ret
      exact ⟨rfl, rfl⟩
    · have hfin : R = 1 := by rw [← hR]; unfold M.brkN; rw [if_neg (by omega), if_pos (by omega)]
      rw [show decide (M.by8 s.data.toList (i + 1) = UInt8.toNat 10) = false from decide_eq_false h10] at cN
      subst hfin
      clear hR b0 b1 g0 h13 h10 cO hbz
      go_enter Try.func24, Try.ntmps24
      go_wp2_with (go_at_call 27; refine cN.mono ?_; rintro r w' ⟨rfl, rfl⟩)
      go_ret
      exact ⟨rfl, rfl⟩
  · have d13 : (((s[i]'hi).toNat : Int) == 13) = false := by simp; omega
    clear cN
    by_cases h10 : M.by8 s.data.toList i = 10
    · have d10 : (((s[i]'hi).toNat : Int) == 10) = true := by simp; omega
      have hfin : R = 1 := by rw [← hR]; unfold M.brkN; rw [if_neg (by omega), if_pos (by omega)]
      subst hfin
      clear hR b0 b1 g0 h13 h10 cO hbz
      go_enter Try.func24, Try.ntmps24
      go_wp2
      go_ret
      exact ⟨rfl, rfl⟩
    · have d10 : (((s[i]'hi).toNat : Int) == 10) = false := by simp; omega
      by_cases hv : v = 11
      · subst hv
        have hfin : R = oldN (s.data.toList.drop i) := by rw [← hR]; exact oldN_brk _ (by omega) (by omega)
        by_cases h194 : M.by8 s.data.toList i = 194
        · have d194 : (((s[i]'hi).toNat : Int) == 194) = true := by simp; omega
          rw [← hfin] at cO
          clear hR hfin b0 b1 g0 h13 h10 h194 hbz
          go_enter Try.func24, Try.ntmps24
          go_wp2_with (go_at_call 28; refine cO.mono ?_; rintro r w' ⟨rfl, rfl⟩)
          go_ret
          exact ⟨rfl, rfl⟩
        · have d194 : (((s[i]'hi).toNat : Int) == 194) = false := by simp; omega
          by_cases h226 : M.by8 s.data.toList i = 226
          · have d226 : (((s[i]'hi).toNat : Int) == 226) = true := by simp; omega
            rw [← hfin] at cO
            clear hR hfin b0 b1 g0 h13 h10 h194 h226 hbz
            go_enter Try.func24, Try.ntmps24
            go_wp2_with (go_at_call 28; refine cO.mono ?_; rintro r w' ⟨rfl, rfl⟩)
            go_ret
            exact ⟨rfl, rfl⟩
          · have d226 : (((s[i]'hi).toNat : Int) == 226) = false := by simp; omega
            have hz : R = 0 := by rw [hfin]; unfold oldN; rw [if_neg (by omega), if_neg (by omega)]
            subst hz
            clear hR hfin b0 b1 g0 h13 h10 h194 h226 hbz cO
            go_enter Try.func24, Try.ntmps24
            go_wp2
            go_ret
            exact ⟨rfl, rfl⟩
      · have dv : (v == 11) = false := by simpa using hv
        have hz : R = 0 := by rw [← hR, show isOld v = false from dv]; exact newN_brk _ (by omega) (by omega)
        subst hz
        clear hR b0 b1 g0 h13 h10 hbz cO hv
        go_enter Try.func24, Try.ntmps24
        go_wp2
        all_goals
          go_ret
          exact ⟨rfl, rfl⟩

set_option maxHeartbeats 400000 in
theorem break_out (v : Int) (s : ByteArray) (i : Int) (w : World) (hi : i < 0 ∨ (s.size : Int) ≤ i) :
    Calls Try.prog 24 #[.int .i64 v, .string s, .int .i64 i] w fun e w' => e = .returned (.int .i64 0) ∧ w = w' := by
  rcases hi with h | h
  · have i0 : decide (i < 0) = true := by simpa using h
    go_enter Try.func24, Try.ntmps24
    go_wp2
    go_ret
    exact ⟨rfl, rfl⟩
  · have i0 : decide (i < 0) = false := by simp; omega
    have i1 : decide ((s.size : Int) ≤ i) = true := by simpa using h
    go_enter Try.func24, Try.ntmps24
    go_wp2
    go_ret
    exact ⟨rfl, rfl⟩

/-- What Break answers, at any place. -/
def brkZ (o : Bool) (L : List UInt8) (i : Int) : Int := if i < 0 then 0 else (M.brkN o (L.drop i.toNat) : Nat)
theorem brkZ_nat (o : Bool) (L : List UInt8) (i : Nat) : brkZ o L (i : Int) = (M.brkN o (L.drop i) : Nat) := by unfold brkZ; rw [if_neg (by omega)]; rfl
theorem brkZ_out (o : Bool) (s : ByteArray) (i : Int) (hi : i < 0 ∨ (s.size : Int) ≤ i) : brkZ o s.data.toList i = 0 := by
  unfold brkZ
  split
  · rfl
  · rw [List.drop_eq_nil_of_le (by rw [← sz_list]; omega), M.brkN_nil]; rfl
theorem break_any (v : Int) (s : ByteArray) (i : Int) (w : World) (hs : s.size ≤ 100000) :
    Calls Try.prog 24 #[.int .i64 v, .string s, .int .i64 i] w fun e w' => e = .returned (.int .i64 (brkZ (isOld v) s.data.toList i)) ∧ w = w' := by
  by_cases h : i < 0 ∨ (s.size : Int) ≤ i
  · rw [brkZ_out _ _ _ h]; exact break_out v s i w h
  · obtain ⟨n, rfl⟩ := Int.eq_ofNat_of_zero_le (show 0 ≤ i by omega)
    rw [brkZ_nat]; exact break_in v s n w (by omega) hs

end Go.Proofs.Ythbmppkngaifmaa
