/- Walks: stamp's may. What a text says: bounds of its parts. -/
import Derived.Test.YtoidlgopibnaaaaDoorWc
import Derived.Deep.DeepCutAuto
set_option linter.unusedVariables false
namespace Go.Proofs.YtoidlgopibnaaaaDoor
open Go.RowKit
namespace M

theorem y_cHour {M X : Mo} {l : List UInt8} (h : cHour M l = some X) : X.y = M.y ∧ X.fr = M.fr := by
  unfold cHour at h; split at h
  · cases h
  · split at h
    · unfold cMin at h; split at h
      · rw [fr_cLast h]; exact ⟨rfl, rfl⟩
      · cases h
    · rw [fr_cLast h]; exact ⟨rfl, rfl⟩
theorem y_cBl {M X : Mo} {l : List UInt8} (h : cBl M l = some X) : X.y = M.y ∧ X.fr = M.fr := by
  induction l generalizing M with
  | nil => cases h
  | cons c r ih =>
    rw [cBl] at h
    split at h
    · exact ih h
    · split at h
      · rw [fr_cLast h]; exact ⟨rfl, rfl⟩
      · split at h
        · have := y_cHour h; exact this
        · split at h
          · have := y_cHour h; exact this
          · cases h
theorem y_cClk {M X : Mo} {l : List UInt8} (h : cClk M l = some X) : X.y = M.y ∧ X.fr = M.fr := by
  unfold cClk at h; split at h
  · rw [← Option.some.inj h]; exact ⟨rfl, rfl⟩
  · exact y_cBl h
theorem y_aPl {M X : Mo} {g l : List UInt8} (h : aPl M g l = some X) : X.y = M.y ∧ X.fr.length ≤ g.length + l.length := by
  induction l generalizing g with
  | nil => rw [aPl] at h; obtain ⟨h1, h2⟩ := y_cClk h; exact ⟨h1, by rw [h2]; simp⟩
  | cons c r ih =>
    rw [aPl] at h
    split at h
    · obtain ⟨h1, h2⟩ := ih h; exact ⟨h1, by simp at h2 ⊢; omega⟩
    · obtain ⟨h1, h2⟩ := y_cClk h; exact ⟨h1, by rw [h2]; simp⟩
theorem y_aDay {M X : Mo} {l : List UInt8} (h : aDay M l = some X) : X.y = M.y ∧ X.fr.length ≤ M.fr.length + l.length := by
  unfold aDay at h; split at h
  · cases h
  · split at h
    · unfold aMin at h; split at h
      · split at h
        · unfold aSec at h; split at h
          · split at h
            · obtain ⟨h1, h2⟩ := y_aPl h; refine ⟨h1, ?_⟩; simp only [List.length_drop, List.length_nil] at h2; omega
            · obtain ⟨h1, h2⟩ := y_cClk h; exact ⟨h1, by rw [h2]; show M.fr.length ≤ _; omega⟩
          · cases h
        · cases h
      · cases h
    · cases h
theorem y_rBl {M X : Mo} {l : List UInt8} (h : rBl M l = some X) : X.y = M.y ∧ X.fr.length ≤ M.fr.length + l.length := by
  induction l with
  | nil => exact y_aDay h
  | cons c r ih =>
    rw [rBl] at h; split at h
    · obtain ⟨h1, h2⟩ := ih h; exact ⟨h1, by rw [List.length_cons]; omega⟩
    · exact y_aDay h
theorem y_rd {X : Mo} {l : List UInt8} (h : rd l = some X) : X.y < 10000 ∧ X.fr.length ≤ l.length := by
  unfold rd at h; split at h
  · split at h
    · have hv := nv4_lt l
      have hl : (l.drop 5).length ≤ l.length := by rw [List.length_drop]; omega
      generalize l.drop 5 = l5 at h hl
      unfold rMon at h; split at h
      · cases h
      · split at h
        · have hl2 : (l5.drop (cnt 2 l5 + 1)).length ≤ l5.length := by rw [List.length_drop]; omega
          generalize l5.drop (cnt 2 l5 + 1) = l6 at h hl2
          unfold rDay at h; split at h
          · cases h
          · have hl3 : (l6.drop (cnt 2 l6)).length ≤ l6.length := by rw [List.length_drop]; omega
            generalize l6.drop (cnt 2 l6) = l7 at h hl3
            unfold rTail at h; split at h
            · split at h
              · rw [← Option.some.inj h]; exact ⟨hv, Nat.zero_le _⟩
              · cases h
            · rw [List.length_cons] at hl3
              split at h
              · obtain ⟨h1, h2⟩ := y_aDay h; exact ⟨by rw [h1]; exact hv, by simp [M0] at h2; omega⟩
              · split at h
                · obtain ⟨h1, h2⟩ := y_aDay h; exact ⟨by rw [h1]; exact hv, by simp [M0] at h2; omega⟩
                · split at h
                  · obtain ⟨h1, h2⟩ := y_rBl h; exact ⟨by rw [h1]; exact hv, by simp [M0] at h2; omega⟩
                  · cases h
        · cases h
    · cases h
  · cases h
end M

/-- A world with a block more. -/
theorem boxed (w : World) (X : M.Mo) : ∃ W, w.alloc (.cells (mcs X) 42) = W ∧ MB W w.heap.size X ∧ Below w.heap.size w W :=
  ⟨_, rfl, heap_alloc_new w _, (Below.refl _ _).alloc (Nat.le_refl _) _⟩
theorem MB.drewN {w : World} {g : Nat} {X : M.Mo} (h : MB w g X) (n : Nat) : MB (w.drewN n) g X := h
set_option maxRecDepth 100000 in
set_option maxHeartbeats 4000000 in
theorem may_any (X : M.Mo) (w : World) (hy : X.y < 10000) :
    Calls Tryd.prog 18 #[.agg (mcs X)] w fun e w' => e = .returned (.bool (M.may X)) ∧ Below w.heap.size w w' := by
  obtain ⟨W1, hW1, hm, hb⟩ := boxed w X
  obtain ⟨g, hg⟩ : ∃ g, w.heap.size = g := ⟨_, rfl⟩
  rw [hg] at hm
  have HM := Lib.hid hm
  have HB := Lib.hid hb
  clear hm hb
  go_enter Tryd.func18, Tryd.ntmps18
  go_upto_region 1 with fail
  go_cut [3] (fun v wx => v = .bool (M.mayD X) ∧ ∃ n, wx = W1.drewN n)
  case first =>
    obtain ⟨k0, k1, k2, _⟩ := HM.out.cells
    have hD : M.mayD X = (decide (1 ≤ X.d) && decide (X.d ≤ M.days X.y X.m)) := rfl
    have c1 := fun W => days_nat X.y X.m W (by omega)
    have hl := M.days_le X.y X.m
    generalize M.days X.y X.m = D at *
    by_cases h1 : 1 ≤ X.d
    · have d1 : decide ((1 : Int) ≤ (X.d : Int)) = true := decide_eq_true (by omega)
      by_cases h2 : X.d ≤ D
      · have d2 : decide ((X.d : Int) ≤ (D : Int)) = true := decide_eq_true (by omega)
        have d3 : decide (X.d ≤ D) = true := decide_eq_true h2
        rw [decide_eq_true h1, d3] at hD
        have HD := Lib.hid hD
        clear hD
        go_quiet ((go_at_call 13; exact (c1 _).mono fun _ _ h => ⟨h.1, _, h.2.symm⟩))
        go_wp2_with fail
        go_meet
        exact ⟨by rw [HD.out]; try rfl, _, rfl⟩
      · have d2 : decide ((X.d : Int) ≤ (D : Int)) = false := decide_eq_false (by omega)
        have d3 : decide (X.d ≤ D) = false := decide_eq_false h2
        rw [decide_eq_true h1, d3] at hD
        have HD := Lib.hid hD
        clear hD
        go_quiet ((go_at_call 13; exact (c1 _).mono fun _ _ h => ⟨h.1, _, h.2.symm⟩))
        go_wp2_with fail
        go_meet
        exact ⟨by rw [HD.out]; try rfl, _, rfl⟩
    · have d1 : decide ((1 : Int) ≤ (X.d : Int)) = false := decide_eq_false (by omega)
      rw [decide_eq_false h1] at hD
      have HD := Lib.hid hD
      clear hD
      go_quiet ((go_at_call 13; exact (c1 _).mono fun _ _ h => ⟨h.1, _, h.2.symm⟩))
      go_wp2_with fail
      go_meet
      exact ⟨by rw [HD.out]; try rfl, _, rfl⟩
  case rest =>
    obtain ⟨rfl, n, rfl⟩ := hcut
    have HM2 : Hid (MB (W1.drewN n) g X) := HM.out
    have HB2 : Hid (Below w.heap.size w (W1.drewN n)) := below_dN HB.out n
    obtain ⟨W2, hW2⟩ : ∃ W2, W1.drewN n = W2 := ⟨_, rfl⟩
    rw [hW2] at HM2 HB2 ⊢
    clear hW2 HM HB
    obtain ⟨bD, hbD⟩ : ∃ b, M.mayD X = b := ⟨_, rfl⟩
    rw [hbD]
    have HBD := Lib.hid hbD
    clear hbD
    go_upto_region 2 with fail
    go_cut [4] (fun v wx => v = .bool (M.mayC X) ∧ W2 = wx)
    case first =>
      obtain ⟨_, _, _, _, k4, k5, k6, _, _, k9, k10⟩ := HM2.out.cells
      have hD : M.mayC X = (decide (X.h < 24) && (decide (X.mi < 60) && decide (X.se < 60))) := rfl
      by_cases hh : X.h < 24
      · have dh : decide ((X.h : Int) < 24) = true := decide_eq_true (by omega)
        rw [decide_eq_true hh] at hD
        by_cases hmi : X.mi < 60
        · have dmi : decide ((X.mi : Int) < 60) = true := decide_eq_true (by omega)
          rw [decide_eq_true hmi] at hD
          by_cases hse : X.se < 60
          · have dse : decide ((X.se : Int) < 60) = true := decide_eq_true (by omega)
            rw [decide_eq_true hse] at hD
            have HD := Lib.hid hD
            clear hD
            go_wp2_with fail
            go_meet
            exact ⟨by rw [HD.out]; try rfl, rfl⟩
          · have dse : decide ((X.se : Int) < 60) = false := decide_eq_false (by omega)
            rw [decide_eq_false hse] at hD
            have HD := Lib.hid hD
            clear hD
            go_wp2_with fail
            go_meet
            exact ⟨by rw [HD.out]; try rfl, rfl⟩
        · have dmi : decide ((X.mi : Int) < 60) = false := decide_eq_false (by omega)
          rw [decide_eq_false hmi] at hD
          have HD := Lib.hid hD
          clear hD
          go_wp2_with fail
          go_meet
          exact ⟨by rw [HD.out]; try rfl, rfl⟩
      · have dh : decide ((X.h : Int) < 24) = false := decide_eq_false (by omega)
        rw [decide_eq_false hh] at hD
        have HD := Lib.hid hD
        clear hD
        go_wp2_with fail
        go_meet
        exact ⟨by rw [HD.out]; try rfl, rfl⟩
    case rest =>
      obtain ⟨rfl, rfl⟩ := hcut
      obtain ⟨bC, hbC⟩ : ∃ b, M.mayC X = b := ⟨_, rfl⟩
      rw [hbC]
      have HBC := Lib.hid hbC
      clear hbC
      go_upto_region 3 with fail
      go_cut [5] (fun v wx => v = .bool (M.mayZ X) ∧ W2 = wx)
      case first =>
        obtain ⟨_, _, _, _, k4, k5, k6, _, _, k9, k10⟩ := HM2.out.cells
        have hD : M.mayZ X = (decide (X.zh < 24) && decide (X.zm < 60)) := rfl
        by_cases hzh : X.zh < 24
        · have dzh : decide ((X.zh : Int) < 24) = true := decide_eq_true (by omega)
          rw [decide_eq_true hzh] at hD
          by_cases hzm : X.zm < 60
          · have dzm : decide ((X.zm : Int) < 60) = true := decide_eq_true (by omega)
            rw [decide_eq_true hzm] at hD
            have HD := Lib.hid hD
            clear hD
            go_wp2_with fail
            go_meet
            exact ⟨by rw [HD.out]; try rfl, rfl⟩
          · have dzm : decide ((X.zm : Int) < 60) = false := decide_eq_false (by omega)
            rw [decide_eq_false hzm] at hD
            have HD := Lib.hid hD
            clear hD
            go_wp2_with fail
            go_meet
            exact ⟨by rw [HD.out]; try rfl, rfl⟩
        · have dzh : decide ((X.zh : Int) < 24) = false := decide_eq_false (by omega)
          rw [decide_eq_false hzh] at hD
          have HD := Lib.hid hD
          clear hD
          go_wp2_with fail
          go_meet
          exact ⟨by rw [HD.out]; try rfl, rfl⟩
      case rest =>
        obtain ⟨rfl, rfl⟩ := hcut
        have HR : Hid (M.may X = (M.mayD X && (M.mayC X && M.mayZ X))) := rfl
        obtain ⟨bZ, hbZ⟩ : ∃ b, M.mayZ X = b := ⟨_, rfl⟩
        rw [hbZ]
        have HR2 : Hid (M.may X = (bD && (bC && bZ))) := by show _ = _; rw [HR.out, HBD.out, HBC.out, hbZ]
        clear hbZ
        cases bD <;> cases bC <;> cases bZ
        all_goals
          go_wp2
          go_ret
          exact ⟨ret_bool (by rw [HR2.out]; try rfl), HB2.out⟩
end Go.Proofs.YtoidlgopibnaaaaDoor
