/- Walks of targum/mark's continues, step, Less, and of the law's point. -/
import Derived.Test.YthbmppkngaifmaaWb
import Derived.Test.YthbmppkngaifmaaMx
import Derived.Test.YthbmppkngaifmaaFl
set_option linter.unusedVariables false
namespace Go.Proofs.Ythbmppkngaifmaa
open Go.RowKit
open Fl (F)

set_option maxHeartbeats 400000 in
theorem continues_any (b : Nat) (w : World) (hb : b < 256) :
    Calls Try.prog 25 #[.int .u8 b] w fun e w' => e = .returned (.bool (decide (128 ≤ b ∧ b < 192))) ∧ w = w' := by
  by_cases h1 : 128 ≤ b
  · have d1 : decide ((128 : Int) ≤ (b : Int)) = true := by simp; omega
    by_cases h2 : b < 192
    · have d2 : decide ((b : Int) < 192) = true := by simp; omega
      rw [decide_eq_true (show 128 ≤ b ∧ b < 192 from ⟨h1, h2⟩)]
      clear h1 h2
      go_enter Try.func25, Try.ntmps25
      go_wp2
      go_ret
      exact ⟨rfl, rfl⟩
    · have d2 : decide ((b : Int) < 192) = false := by simp; omega
      rw [decide_eq_false (show ¬ (128 ≤ b ∧ b < 192) by omega)]
      clear h1 h2
      go_enter Try.func25, Try.ntmps25
      go_wp2
      go_ret
      exact ⟨rfl, rfl⟩
  · have d1 : decide ((128 : Int) ≤ (b : Int)) = false := by simp; omega
    rw [decide_eq_false (show ¬ (128 ≤ b ∧ b < 192) by omega)]
    clear h1
    go_enter Try.func25, Try.ntmps25
    go_wp2
    go_ret
    exact ⟨rfl, rfl⟩

theorem add_place (t : TypeId) (x y x' y' : Int) (hx : x.natAbs < 2000000000000000) (hy : y.natAbs < 2000000000000000) (hx' : x'.natAbs < 2000000000000000) (hy' : y'.natAbs < 2000000000000000) (w : World) :
    (binOp .add t (.complex .f64 (F x) (F y)) (.complex .f64 (F x') (F y'))).run Try.prog w = .ok (.complex .f64 (F (x + x')) (F (y + y'))) w := by
  refine run_complex_sum w .add (Or.inl rfl) t .f64 _ _ _ _ _ _ ?_
  unfold cSumBits
  rw [Fl.add_F x x' (by omega) (by omega) (by omega), Fl.add_F y y' (by omega) (by omega) (by omega)]
  rfl
theorem sub_place (t : TypeId) (x y x' y' : Int) (hx : x.natAbs < 2000000000000000) (hy : y.natAbs < 2000000000000000) (hx' : x'.natAbs < 2000000000000000) (hy' : y'.natAbs < 2000000000000000) (w : World) :
    (binOp .sub t (.complex .f64 (F x) (F y)) (.complex .f64 (F x') (F y'))).run Try.prog w = .ok (.complex .f64 (F (x - x')) (F (y - y'))) w := by
  refine run_complex_sum w .sub (Or.inr rfl) t .f64 _ _ _ _ _ _ ?_
  unfold cSumBits
  rw [Fl.sub_F x x' (by omega) (by omega) (by omega), Fl.sub_F y y' (by omega) (by omega) (by omega)]
  rfl
theorem add_line (t : TypeId) (x : Int) (hx : x.natAbs < 2000000000000000) (w : World) :
    (binOp .add t (.complex .f64 (F x) 0) (.complex .f64 4607182418800017408 0)).run Try.prog w = .ok (.complex .f64 (F (x + 1)) (F 0)) w := by
  have := add_place t x 0 1 0 hx (by omega) (by omega) (by omega) w
  rw [Fl.F_zero, Fl.F_one] at this
  exact this
theorem add_col (t : TypeId) (x y : Int) (hx : x.natAbs < 2000000000000000) (hy : y.natAbs < 2000000000000000) (w : World) :
    (binOp .add t (.complex .f64 (F x) (F y)) (.complex .f64 0 4607182418800017408)).run Try.prog w = .ok (.complex .f64 (F x) (F (y + 1))) w := by
  have := add_place t x y 0 1 hx hy (by omega) (by omega) w
  rw [Fl.F_zero, Fl.F_one, Int.add_zero] at this
  exact this

/-- A place, as the program has it. -/
abbrev plV (x y : Int) : Value := .complex .f64 (F x) (F y)

theorem colN_col (b : Nat) (h : ¬ (128 ≤ b ∧ b < 192)) : M.colN b = 1 := by unfold M.colN; rw [if_neg h]
theorem colN_none (b : Nat) (h : 128 ≤ b ∧ b < 192) : M.colN b = 0 := by unfold M.colN; rw [if_pos h]

set_option maxRecDepth 100000 in
set_option maxHeartbeats 1000000 in
theorem step_any (v : Int) (x y : Nat) (s : ByteArray) (i : Nat) (w : World) (hi : i < s.size) (hs : s.size ≤ 100000) (hx : x ≤ 1000000) (hy : y ≤ 1000000) :
    Calls Try.prog 22 #[.int .i64 v, plV x y, .string s, .int .i64 i] w fun e w' => e = .returned (.tuple #[plV (M.mv (isOld v) (s.data.toList.drop i) (x, y)).1 (M.mv (isOld v) (s.data.toList.drop i) (x, y)).2, .int .i64 (M.stp (isOld v) (s.data.toList.drop i) : Nat)]) ∧ w = w' := by
  have c1 := break_in v s i w hi hs
  have g0 := getB s i hi
  have b0 : M.by8 (s.data.toList.drop i) 0 = M.by8 s.data.toList i := by rw [M.by8_drop, Nat.add_zero]
  have hlt := M.by8_lt s.data.toList i
  have c2 := continues_any (M.by8 s.data.toList i) w hlt
  have a1 := fun t w => add_line t (x : Int) (by omega) w
  have a2 := fun t w => add_col t (x : Int) (y : Int) (by omega) (by omega) w
  have hle := M.brkN_le3 (isOld v) (s.data.toList.drop i)
  unfold M.mv M.stp
  rw [b0]
  obtain ⟨n, hn⟩ : ∃ n, M.brkN (isOld v) (s.data.toList.drop i) = n := ⟨_, rfl⟩
  obtain ⟨c, hc⟩ : ∃ c, M.by8 s.data.toList i = c := ⟨_, rfl⟩
  rw [hn] at c1 hle ⊢
  rw [hc] at c2 ⊢
  rw [hc] at g0
  clear hn b0 hc
  by_cases hz : n = 0
  · subst hz
    rw [if_pos rfl, if_pos rfl]
    by_cases hk : 128 ≤ c ∧ c < 192
    · rw [decide_eq_true hk] at c2
      rw [colN_none c hk]
      clear hk a1 a2 hlt
      go_enter Try.func22, Try.ntmps22
      go_wp2_with (first | (go_at_call 24; refine c1.mono ?_; rintro r w' ⟨rfl, rfl⟩) | (go_at_call 25; refine c2.mono ?_; rintro r w' ⟨rfl, rfl⟩))
      go_ret2
      exact ⟨rfl, rfl⟩
    · rw [decide_eq_false hk] at c2
      rw [colN_col c hk]
      clear hk a1 hlt
      go_enter Try.func22, Try.ntmps22
      go_wp2_with (first | (go_at_call 24; refine c1.mono ?_; rintro r w' ⟨rfl, rfl⟩) | (go_at_call 25; refine c2.mono ?_; rintro r w' ⟨rfl, rfl⟩))
      go_ret2
      exact ⟨rfl, rfl⟩
  · rw [if_neg hz, if_neg hz]
    have d0 : decide (0 < n) = true := by simp; omega
    clear c2 a2 hlt
    go_enter Try.func22, Try.ntmps22
    go_wp2_with (go_at_call 24; refine c1.mono ?_; rintro r w' ⟨rfl, rfl⟩)
    go_ret2
    exact ⟨rfl, rfl⟩

end Go.Proofs.Ythbmppkngaifmaa
