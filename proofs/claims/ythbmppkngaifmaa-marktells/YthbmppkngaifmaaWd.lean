/- Walks of targum/mark's Way, Go, Of, Less, of the law's point and of Version, Within. -/
import Derived.Test.YthbmppkngaifmaaWc
set_option linter.unusedVariables false
namespace Go.Proofs.Ythbmppkngaifmaa
open Go.RowKit
open Fl (F)

theorem ret_pl {x y x' y' : Int} (h : x = x') (h' : y = y') : Ending.returned (plV x y) = .returned (plV x' y') := by rw [h, h']

set_option maxRecDepth 100000 in
set_option maxHeartbeats 1000000 in
theorem way_any (v : Int) (s : ByteArray) (w : World) (hs : s.size ≤ 100000) :
    Calls Try.prog 10 #[.int .i64 v, .string s] w fun e w' => e = .returned (plV (M.way (isOld v) s.data.toList).1 (M.way (isOld v) s.data.toList).2) ∧ w = w' := by
  have hLl : s.size = s.data.toList.length := sz_list s
  have HLl := Lib.hid hLl
  clear hLl
  obtain ⟨R, hR⟩ : ∃ R, M.way (isOld v) s.data.toList = R := ⟨_, rfl⟩
  rw [hR]
  have HR := Lib.hid hR
  clear hR
  go_enter Try.func10, Try.ntmps10
  go_wp2
  go_loop [5, 6] (fun p k => ∃ (x y i : Nat), p = plV x y ∧ k = .int .i64 i ∧ i ≤ s.size ∧ x ≤ i ∧ y ≤ i ∧ Hid (M.go (isOld v) (s.data.toList.drop i) (x, y) = R)) (fun _ k => s.size - (intOf k).toNat)
  case atStart => exact ⟨0, 0, 0, by rw [show (((0 : Nat) : Int)) = 0 from rfl, plV, Fl.F_zero], rfl, Nat.zero_le _, Nat.le_refl _, Nat.le_refl _, HR.out⟩
  case round =>
    obtain ⟨x, y, i, rfl, rfl, hi, hx, hy, hst⟩ := hrel
    by_cases hlt : i < s.size
    · have hltd : decide (i < s.size) = true := by simpa using hlt
      have c1 := step_any v x y s i w hlt hs (by omega) (by omega)
      have hl : s.data.toList.drop i ≠ [] := by intro e; have := congrArg List.length e; rw [List.length_drop, ← HLl.out] at this; simp at this; omega
      have h1 := M.stp_pos (isOld v) (s.data.toList.drop i)
      have h2 := M.stp_le (isOld v) (s.data.toList.drop i) hl
      rw [List.length_drop, ← HLl.out] at h2
      have h3 := M.go_step (isOld v) (s.data.toList.drop i) (x, y) hl
      rw [hst.out, List.drop_drop] at h3
      have h4 := M.mv_le (isOld v) (s.data.toList.drop i) (x, y)
      obtain ⟨n, hn⟩ : ∃ n, M.stp (isOld v) (s.data.toList.drop i) = n := ⟨_, rfl⟩
      obtain ⟨⟨x', y'⟩, hp⟩ : ∃ p, M.mv (isOld v) (s.data.toList.drop i) (x, y) = p := ⟨_, rfl⟩
      rw [hn] at c1 h1 h2 h3
      rw [hp] at c1 h3 h4
      simp only at c1 h4
      have H3 := Lib.hid h3
      clear hn hp h3 hst hl
      go_wp2_with (go_at_call 22; refine c1.mono ?_; rintro r w' ⟨rfl, rfl⟩)
      go_round
      case rel => exact ⟨x', y', i + n, rfl, by go_num, by omega, by omega, by omega, H3.out.symm⟩
      case measure => simp [intOf]; omega
    · obtain rfl : i = s.size := by omega
      have hltd : decide (s.size < s.size) = false := by simp
      have h := hst.out
      rw [List.drop_eq_nil_of_le (by rw [← HLl.out]; omega), M.go_nil] at h
      have HF := Lib.hid h
      clear h hst hlt
      go_wp2
      go_ret
      exact ⟨by rw [← HF.out]; rfl, rfl⟩

set_option maxHeartbeats 400000 in
theorem point_any (x y : Int) (w : World) :
    Calls Try.prog 11 #[.int .i64 x, .int .i64 y] w fun e w' => e = .returned (plV x y) ∧ w = w' := by
  go_enter Try.func11, Try.ntmps11
  go_wp2
  go_ret
  exact ⟨rfl, rfl⟩

/-- Where a text leads to from any place. -/
def goZ (o : Bool) (L : List UInt8) (x y : Int) : Int × Int := (x + (M.way o L).1, if (M.way o L).1 = 0 then y + (M.way o L).2 else (M.way o L).2)

set_option maxRecDepth 100000 in
set_option maxHeartbeats 1000000 in
theorem go_any (v : Int) (x y : Int) (s : ByteArray) (w : World) (hs : s.size ≤ 100000) (hx : x.natAbs ≤ 1000000) (hy : y.natAbs ≤ 1000000) :
    Calls Try.prog 14 #[.int .i64 v, plV x y, .string s] w fun e w' => e = .returned (plV (goZ (isOld v) s.data.toList x y).1 (goZ (isOld v) s.data.toList x y).2) ∧ w = w' := by
  have c1 := way_any v s w hs
  have hle := M.way_le (isOld v) s.data.toList
  rw [← sz_list] at hle
  unfold goZ
  obtain ⟨⟨a, b⟩, hp⟩ : ∃ p, M.way (isOld v) s.data.toList = p := ⟨_, rfl⟩
  rw [hp] at c1 hle ⊢
  simp only at c1 hle ⊢
  clear hp
  have hg := Fl.gt_F (a : Int) 0 (by omega) (by omega)
  rw [Fl.F_zero] at hg
  by_cases ha : a = 0
  · subst ha
    rw [if_pos rfl]
    rw [decide_eq_false (by omega)] at hg
    have a1 := fun t w => add_place t x y 0 b (by omega) (by omega) (by omega) (by omega) w
    rw [show (((0 : Nat) : Int)) = 0 from rfl] at c1 hg ⊢
    simp only [plV, Fl.F_zero, Int.add_zero] at c1 hg a1 ⊢
    go_enter Try.func14, Try.ntmps14
    go_wp2_with (go_at_call 10; refine c1.mono ?_; rintro r w' ⟨rfl, rfl⟩)
    go_ret
    exact ⟨rfl, rfl⟩
  · rw [if_neg ha]
    rw [decide_eq_true (by omega)] at hg
    have a1 := fun t w => add_place t x 0 a b (by omega) (by omega) (by omega) (by omega) w
    rw [Fl.F_zero, Int.zero_add] at a1
    clear ha
    go_enter Try.func14, Try.ntmps14
    go_wp2_with (go_at_call 10; refine c1.mono ?_; rintro r w' ⟨rfl, rfl⟩)
    go_ret
    exact ⟨rfl, rfl⟩

def lessZ (x y x' y' : Int) : Bool := decide (x < x' ∨ (x = x' ∧ y < y'))
set_option maxHeartbeats 400000 in
theorem less_any (x y x' y' : Int) (w : World) (hx : x.natAbs ≤ 2000000) (hy : y.natAbs ≤ 2000000) (hx' : x'.natAbs ≤ 2000000) (hy' : y'.natAbs ≤ 2000000) :
    Calls Try.prog 17 #[plV x y, plV x' y'] w fun e w' => e = .returned (.bool (lessZ x y x' y')) ∧ w = w' := by
  have e1 := Fl.eq_F x x' (by omega) (by omega)
  have l1 := Fl.lt_F x x' (by omega) (by omega)
  have l2 := Fl.lt_F y y' (by omega) (by omega)
  unfold lessZ
  by_cases h : x = x'
  · rw [decide_eq_true h] at e1
    rw [show decide (x < x' ∨ (x = x' ∧ y < y')) = decide (y < y') by by_cases k : y < y' <;> simp [h, k]]
    clear h l1
    go_enter Try.func17, Try.ntmps17
    go_wp2
    go_ret
    exact ⟨rfl, rfl⟩
  · rw [decide_eq_false h] at e1
    rw [show decide (x < x' ∨ (x = x' ∧ y < y')) = decide (x < x') by by_cases k : x < x' <;> simp [h, k]]
    clear h l2
    go_enter Try.func17, Try.ntmps17
    go_wp2
    go_ret
    exact ⟨rfl, rfl⟩

set_option maxHeartbeats 400000 in
theorem version_any (old : Bool) (w : World) :
    Calls Try.prog 19 #[.bool old] w fun e w' => e = .returned (.int .i64 (if old = true then 11 else 12)) ∧ w = w' := by
  cases old
  all_goals
    go_enter Try.func19, Try.ntmps19
    go_wp2
    go_ret
    exact ⟨rfl, rfl⟩

end Go.Proofs.Ythbmppkngaifmaa
