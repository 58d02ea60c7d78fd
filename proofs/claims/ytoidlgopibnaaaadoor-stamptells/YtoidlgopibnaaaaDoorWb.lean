/- Walks: stamp's and targumref10's Days. -/
import Derived.Test.YtoidlgopibnaaaaDoorWa
set_option linter.unusedVariables false
namespace Go.Proofs.YtoidlgopibnaaaaDoor
open Go.RowKit

/-- The days of any month of any year. -/
def daysI (y m : Int) : Nat := if y < 0 ∨ m < 1 ∨ 12 < m then 0 else M.days y.toNat m.toNat
theorem daysI_nat (y m : Nat) : daysI (y : Int) (m : Int) = M.days y m := by
  unfold daysI
  by_cases h : m = 0 ∨ 12 < m
  · rw [if_pos (by omega), M.days_zero h]
  · rw [if_neg (by omega)]; rfl
theorem months (m : Int) : m = 1 ∨ m = 2 ∨ m = 3 ∨ m = 4 ∨ m = 5 ∨ m = 6 ∨ m = 7 ∨ m = 8 ∨ m = 9 ∨ m = 10 ∨ m = 11 ∨ m = 12 ∨ (m < 1 ∨ 12 < m) := by omega
theorem none_of {m : Int} (h : m < 1 ∨ 12 < m) : (m == 1) = false ∧ (m == 2) = false ∧ (m == 3) = false ∧ (m == 4) = false ∧ (m == 5) = false ∧ (m == 6) = false ∧ (m == 7) = false ∧ (m == 8) = false ∧ (m == 9) = false ∧ (m == 10) = false ∧ (m == 11) = false ∧ (m == 12) = false := by
  refine ⟨?_, ?_, ?_, ?_, ?_, ?_, ?_, ?_, ?_, ?_, ?_, ?_⟩ <;> exact beq_eq_false_iff_ne.2 (by omega)
set_option maxRecDepth 100000 in
set_option maxHeartbeats 1000000 in
theorem days_any (y m : Int) (w : World) (hy : y ≤ 9223372036854775807) :
    Calls Tryd.prog 13 #[.int .i64 y, .int .i64 m] w fun e w' => e = .returned (.int .i64 (daysI y m : Nat)) ∧ w = w' := by
  by_cases h : y < 0
  · have e : daysI y m = 0 := by unfold daysI; rw [if_pos (Or.inl h)]
    rw [e]
    have hd : decide (y < 0) = true := decide_eq_true h
    go_enter Tryd.func13, Tryd.ntmps13
    go_wp2
    go_ret
    exact ⟨rfl, rfl⟩
  · obtain ⟨Y, rfl⟩ := Int.eq_ofNat_of_zero_le (show 0 ≤ y by omega)
    have hd : decide ((Y : Int) < 0) = false := decide_eq_false h
    have c1 := fun W => long_any Y W (by omega)
    rcases months m with rfl | rfl | rfl | rfl | rfl | rfl | rfl | rfl | rfl | rfl | rfl | rfl | hm
    case inr.inl =>
      have e : daysI (Y : Int) 2 = if M.lng Y then 29 else 28 := daysI_nat Y 2
      rw [e]
      clear e h
      cases hl : M.lng Y
      · rw [hl] at c1
        go_enter Tryd.func13, Tryd.ntmps13
        go_wp2_with fail
        refine (c1 _).mono ?_
        rintro r w' ⟨rfl, rfl⟩
        go_wp2
        go_ret
        exact ⟨rfl, rfl⟩
      · rw [hl] at c1
        go_enter Tryd.func13, Tryd.ntmps13
        go_wp2_with fail
        refine (c1 _).mono ?_
        rintro r w' ⟨rfl, rfl⟩
        go_wp2
        go_ret
        exact ⟨rfl, rfl⟩
    case inr.inr.inr.inr.inr.inr.inr.inr.inr.inr.inr.inr =>
      have e : daysI (Y : Int) m = 0 := by unfold daysI; rw [if_pos (Or.inr hm)]
      rw [e]
      obtain ⟨n1, n2, n3, n4, n5, n6, n7, n8, n9, n10, n11, n12⟩ := none_of hm
      clear e h hm
      go_enter Tryd.func13, Tryd.ntmps13
      go_wp2
      go_ret
      exact ⟨rfl, rfl⟩
    all_goals
      clear h c1
      go_enter Tryd.func13, Tryd.ntmps13
      go_wp2
      go_ret
      exact ⟨by first | exact congrArg (fun n : Nat => Ending.returned (.int .i64 (n : Int))) (daysI_nat Y 1).symm | exact congrArg (fun n : Nat => Ending.returned (.int .i64 (n : Int))) (daysI_nat Y 3).symm | exact congrArg (fun n : Nat => Ending.returned (.int .i64 (n : Int))) (daysI_nat Y 4).symm | exact congrArg (fun n : Nat => Ending.returned (.int .i64 (n : Int))) (daysI_nat Y 5).symm | exact congrArg (fun n : Nat => Ending.returned (.int .i64 (n : Int))) (daysI_nat Y 6).symm | exact congrArg (fun n : Nat => Ending.returned (.int .i64 (n : Int))) (daysI_nat Y 7).symm | exact congrArg (fun n : Nat => Ending.returned (.int .i64 (n : Int))) (daysI_nat Y 8).symm | exact congrArg (fun n : Nat => Ending.returned (.int .i64 (n : Int))) (daysI_nat Y 9).symm | exact congrArg (fun n : Nat => Ending.returned (.int .i64 (n : Int))) (daysI_nat Y 10).symm | exact congrArg (fun n : Nat => Ending.returned (.int .i64 (n : Int))) (daysI_nat Y 11).symm | exact congrArg (fun n : Nat => Ending.returned (.int .i64 (n : Int))) (daysI_nat Y 12).symm, rfl⟩

set_option maxRecDepth 100000 in
set_option maxHeartbeats 2000000 in
theorem rdays_any (y m : Int) (w : World) (hy : y ≤ 9223372036854775807) :
    Calls Tryd.prog 14 #[.int .i64 y, .int .i64 m] w fun e w' => e = .returned (.int .i64 (daysI y m : Nat)) ∧ w = w' := by
  by_cases h : y < 0
  · have e : daysI y m = 0 := by unfold daysI; rw [if_pos (Or.inl h)]
    rw [e]
    have hd : decide (y < 0) = true := decide_eq_true h
    go_enter Tryd.func14, Tryd.ntmps14
    go_wp2
    go_ret
    exact ⟨rfl, rfl⟩
  · obtain ⟨Y, rfl⟩ := Int.eq_ofNat_of_zero_le (show 0 ≤ y by omega)
    have hd : decide ((Y : Int) < 0) = false := decide_eq_false h
    rcases months m with rfl | rfl | rfl | rfl | rfl | rfl | rfl | rfl | rfl | rfl | rfl | rfl | hm
    case inr.inl =>
      have e : daysI (Y : Int) 2 = if M.lng Y then 29 else 28 := daysI_nat Y 2
      rw [e]
      unfold M.lng
      obtain ⟨a, ha⟩ : ∃ a, Y % 4 = a := ⟨_, rfl⟩
      obtain ⟨b, hb⟩ : ∃ b, Y % 100 = b := ⟨_, rfl⟩
      obtain ⟨c, hc⟩ : ∃ c, Y % 400 = c := ⟨_, rfl⟩
      have e1 : Int.tmod (Y : Int) 4 = (a : Int) := by rw [← ha]; exact tm (k := 4) (by omega)
      have e2 : Int.tmod (Y : Int) 100 = (b : Int) := by rw [← hb]; exact tm (k := 100) (by omega)
      have e3 : Int.tmod (Y : Int) 400 = (c : Int) := by rw [← hc]; exact tm (k := 400) (by omega)
      have f1 : (Y : Int) % 4 = (a : Int) := by rw [← ha]; rfl
      have f2 : (Y : Int) % 100 = (b : Int) := by rw [← hb]; rfl
      have f3 : (Y : Int) % 400 = (c : Int) := by rw [← hc]; rfl
      rw [ha, hb, hc]
      clear ha hb hc e h
      by_cases h1 : a = 0
      · subst h1
        by_cases h2 : b = 0
        · subst h2
          by_cases h3 : c = 0
          · subst h3
            go_enter Tryd.func14, Tryd.ntmps14
            go_wp2
            go_ret
            exact ⟨rfl, rfl⟩
          · have g3 : ((c : Int) == 0) = false := beq_eq_false_iff_ne.2 (by omega)
            rw [decide_eq_false h3]
            clear h3
            go_enter Tryd.func14, Tryd.ntmps14
            go_wp2
            go_ret
            exact ⟨rfl, rfl⟩
        · have g2 : ((b : Int) != 0) = true := by simp; omega
          have g2' : ((b : Int) == 0) = false := beq_eq_false_iff_ne.2 (by omega)
          rw [decide_eq_true h2]
          clear h2
          go_enter Tryd.func14, Tryd.ntmps14
          go_wp2
          go_ret
          exact ⟨rfl, rfl⟩
      · have g1 : ((a : Int) == 0) = false := beq_eq_false_iff_ne.2 (by omega)
        rw [decide_eq_false h1]
        clear h1
        go_enter Tryd.func14, Tryd.ntmps14
        go_wp2
        go_ret
        exact ⟨rfl, rfl⟩
    case inr.inr.inr.inr.inr.inr.inr.inr.inr.inr.inr.inr =>
      have e : daysI (Y : Int) m = 0 := by unfold daysI; rw [if_pos (Or.inr hm)]
      rw [e]
      clear e h
      rcases hm with hm | hm
      · have d1 : decide (m < 1) = true := decide_eq_true hm
        clear hm
        go_enter Tryd.func14, Tryd.ntmps14
        go_wp2
        go_ret
        exact ⟨rfl, rfl⟩
      · have d1 : decide (m < 1) = false := decide_eq_false (by omega)
        have d2 : decide (12 < m) = true := decide_eq_true hm
        clear hm
        go_enter Tryd.func14, Tryd.ntmps14
        go_wp2
        go_ret
        exact ⟨rfl, rfl⟩
    all_goals
      clear h
      go_enter Tryd.func14, Tryd.ntmps14
      go_wp2
      go_ret
      exact ⟨by first | exact congrArg (fun n : Nat => Ending.returned (.int .i64 (n : Int))) (daysI_nat Y 1).symm | exact congrArg (fun n : Nat => Ending.returned (.int .i64 (n : Int))) (daysI_nat Y 3).symm | exact congrArg (fun n : Nat => Ending.returned (.int .i64 (n : Int))) (daysI_nat Y 4).symm | exact congrArg (fun n : Nat => Ending.returned (.int .i64 (n : Int))) (daysI_nat Y 5).symm | exact congrArg (fun n : Nat => Ending.returned (.int .i64 (n : Int))) (daysI_nat Y 6).symm | exact congrArg (fun n : Nat => Ending.returned (.int .i64 (n : Int))) (daysI_nat Y 7).symm | exact congrArg (fun n : Nat => Ending.returned (.int .i64 (n : Int))) (daysI_nat Y 8).symm | exact congrArg (fun n : Nat => Ending.returned (.int .i64 (n : Int))) (daysI_nat Y 9).symm | exact congrArg (fun n : Nat => Ending.returned (.int .i64 (n : Int))) (daysI_nat Y 10).symm | exact congrArg (fun n : Nat => Ending.returned (.int .i64 (n : Int))) (daysI_nat Y 11).symm | exact congrArg (fun n : Nat => Ending.returned (.int .i64 (n : Int))) (daysI_nat Y 12).symm, rfl⟩
theorem days_nat (y m : Nat) (w : World) (hy : y ≤ 9223372036854775807) : Calls Tryd.prog 13 #[.int .i64 y, .int .i64 m] w fun e w' => e = .returned (.int .i64 (M.days y m : Nat)) ∧ w = w' := by
  have h := days_any y m w (by omega)
  rwa [daysI_nat] at h
theorem rdays_nat (y m : Nat) (w : World) (hy : y ≤ 9223372036854775807) : Calls Tryd.prog 14 #[.int .i64 y, .int .i64 m] w fun e w' => e = .returned (.int .i64 (M.days y m : Nat)) ∧ w = w' := by
  have h := rdays_any y m w (by omega)
  rwa [daysI_nat] at h
end Go.Proofs.YtoidlgopibnaaaaDoor
