/- Walks: stamp's may. What a text says: bounds of its parts. Walks: stamp's toZ. -/
import Derived.Test.YtipgipgehnhgkaaGreatDoorTb
import Derived.Deep.DeepCutAuto
import Derived.Test.YtipgipgehnhgkaaGreatDoorTf
set_option linter.unusedVariables false
namespace Go.Proofs.YtipgipgehnhgkaaGreatDoor.S10
open Go.RowKit
namespace M

theorem y_cHour {M X : Mo} {l : List UInt8} (h : cHour M l = some X) : X.y = M.y ∧ X.fr = M.fr := by
  unfold cHour at h; split at h
  · cases h
  · split at h
    · unfold cMin at h; split at h
      · rw [fr_cLast h]; exact ⟨rfl, rfl⟩
      · cases h
    · rw [fr_cLast h]; exact ⟨rfl, rfl⟩
theorem y_cBl {M X : Mo} {l : List UInt8} (h : cBl M l = some X) : X.y = M.y ∧ X.fr = M.fr := by
  induction l generalizing M with
  | nil => cases h
  | cons c r ih =>
    rw [cBl] at h
    split at h
    · exact ih h
    · split at h
      · rw [fr_cLast h]; exact ⟨rfl, rfl⟩
      · split at h
        · have := y_cHour h; exact this
        · split at h
          · have := y_cHour h; exact this
          · cases h
theorem y_cClk {M X : Mo} {l : List UInt8} (h : cClk M l = some X) : X.y = M.y ∧ X.fr = M.fr := by
  unfold cClk at h; split at h
  · rw [← Option.some.inj h]; exact ⟨rfl, rfl⟩
  · exact y_cBl h
theorem y_aPl {M X : Mo} {g l : List UInt8} (h : aPl M g l = some X) : X.y = M.y ∧ X.fr.length ≤ g.length + l.length := by
  induction l generalizing g with
  | nil => rw [aPl] at h; obtain ⟨h1, h2⟩ := y_cClk h; exact ⟨h1, by rw [h2]; simp⟩
  | cons c r ih =>
    rw [aPl] at h
    split at h
    · obtain ⟨h1, h2⟩ := ih h; exact ⟨h1, by simp at h2 ⊢; omega⟩
    · obtain ⟨h1, h2⟩ := y_cClk h; exact ⟨h1, by rw [h2]; simp⟩
theorem y_aDay {M X : Mo} {l : List UInt8} (h : aDay M l = some X) : X.y = M.y ∧ X.fr.length ≤ M.fr.length + l.length := by
  unfold aDay at h; split at h
  · cases h
  · split at h
    · unfold aMin at h; split at h
      · split at h
        · unfold aSec at h; split at h
          · split at h
            · obtain ⟨h1, h2⟩ := y_aPl h; refine ⟨h1, ?_⟩; simp only [List.length_drop, List.length_nil] at h2; omega
            · obtain ⟨h1, h2⟩ := y_cClk h; exact ⟨h1, by rw [h2]; show M.fr.length ≤ _; omega⟩
          · cases h
        · cases h
      · cases h
    · cases h
theorem y_rBl {M X : Mo} {l : List UInt8} (h : rBl M l = some X) : X.y = M.y ∧ X.fr.length ≤ M.fr.length + l.length := by
  induction l with
  | nil => exact y_aDay h
  | cons c r ih =>
    rw [rBl] at h; split at h
    · obtain ⟨h1, h2⟩ := ih h; exact ⟨h1, by rw [List.length_cons]; omega⟩
    · exact y_aDay h
theorem y_rd {X : Mo} {l : List UInt8} (h : rd l = some X) : X.y < 10000 ∧ X.fr.length ≤ l.length := by
  unfold rd at h; split at h
  · split at h
    · have hv := nv4_lt l
      have hl : (l.drop 5).length ≤ l.length := by rw [List.length_drop]; omega
      generalize l.drop 5 = l5 at h hl
      unfold rMon at h; split at h
      · cases h
      · split at h
        · have hl2 : (l5.drop (cnt 2 l5 + 1)).length ≤ l5.length := by rw [List.length_drop]; omega
          generalize l5.drop (cnt 2 l5 + 1) = l6 at h hl2
          unfold rDay at h; split at h
          · cases h
          · have hl3 : (l6.drop (cnt 2 l6)).length ≤ l6.length := by rw [List.length_drop]; omega
            generalize l6.drop (cnt 2 l6) = l7 at h hl3
            unfold rTail at h; split at h
            · split at h
              · rw [← Option.some.inj h]; exact ⟨hv, Nat.zero_le _⟩
              · cases h
            · rw [List.length_cons] at hl3
              split at h
              · obtain ⟨h1, h2⟩ := y_aDay h; exact ⟨by rw [h1]; exact hv, by simp [M0] at h2; omega⟩
              · split at h
                · obtain ⟨h1, h2⟩ := y_aDay h; exact ⟨by rw [h1]; exact hv, by simp [M0] at h2; omega⟩
                · split at h
                  · obtain ⟨h1, h2⟩ := y_rBl h; exact ⟨by rw [h1]; exact hv, by simp [M0] at h2; omega⟩
                  · cases h
        · cases h
    · cases h
  · cases h
end M

/-- A world with a block more. -/
theorem boxed (w : World) (X : M.Mo) : ∃ W, w.alloc (.cells (mcs X) 70) = W ∧ MB W w.heap.size X ∧ Below w.heap.size w W :=
  ⟨_, rfl, heap_alloc_new w _, (Below.refl _ _).alloc (Nat.le_refl _) _⟩
theorem MB.drewN {w : World} {g : Nat} {X : M.Mo} (h : MB w g X) (n : Nat) : MB (w.drewN n) g X := h
set_option maxRecDepth 100000 in
set_option maxHeartbeats 4000000 in
theorem may_any (X : M.Mo) (w : World) (hy : X.y < 10000) :
    Calls Tryz.prog 57 #[.agg (mcs X)] w fun e w' => e = .returned (.bool (M.may X)) ∧ Below w.heap.size w w' := by
  obtain ⟨W1, hW1, hm, hb⟩ := boxed w X
  obtain ⟨g, hg⟩ : ∃ g, w.heap.size = g := ⟨_, rfl⟩
  rw [hg] at hm
  have HM := Lib.hid hm
  have HB := Lib.hid hb
  clear hm hb
  go_enter Tryz.func57, Tryz.ntmps57
  go_upto_region 1 with fail
  go_cut [3] (fun v wx => v = .bool (M.mayD X) ∧ ∃ n, wx = W1.drewN n)
  case first =>
    obtain ⟨k0, k1, k2, _⟩ := HM.out.cells
    have hD : M.mayD X = (decide (1 ≤ X.d) && decide (X.d ≤ M.days X.y X.m)) := rfl
    have c1 := fun W => days_nat X.y X.m W (by omega)
    have hl := M.days_le X.y X.m
    generalize M.days X.y X.m = D at *
    by_cases h1 : 1 ≤ X.d
    · have d1 : decide ((1 : Int) ≤ (X.d : Int)) = true := decide_eq_true (by omega)
      by_cases h2 : X.d ≤ D
      · have d2 : decide ((X.d : Int) ≤ (D : Int)) = true := decide_eq_true (by omega)
        have d3 : decide (X.d ≤ D) = true := decide_eq_true h2
        rw [decide_eq_true h1, d3] at hD
        have HD := Lib.hid hD
        clear hD
        go_quiet ((go_at_call 104; exact (c1 _).mono fun _ _ h => ⟨h.1, _, h.2.symm⟩))
        go_wp2_with fail
        go_meet
        exact ⟨by rw [HD.out]; try rfl, _, rfl⟩
      · have d2 : decide ((X.d : Int) ≤ (D : Int)) = false := decide_eq_false (by omega)
        have d3 : decide (X.d ≤ D) = false := decide_eq_false h2
        rw [decide_eq_true h1, d3] at hD
        have HD := Lib.hid hD
        clear hD
        go_quiet ((go_at_call 104; exact (c1 _).mono fun _ _ h => ⟨h.1, _, h.2.symm⟩))
        go_wp2_with fail
        go_meet
        exact ⟨by rw [HD.out]; try rfl, _, rfl⟩
    · have d1 : decide ((1 : Int) ≤ (X.d : Int)) = false := decide_eq_false (by omega)
      rw [decide_eq_false h1] at hD
      have HD := Lib.hid hD
      clear hD
      go_quiet ((go_at_call 104; exact (c1 _).mono fun _ _ h => ⟨h.1, _, h.2.symm⟩))
      go_wp2_with fail
      go_meet
      exact ⟨by rw [HD.out]; try rfl, _, rfl⟩
  case rest =>
    obtain ⟨rfl, n, rfl⟩ := hcut
    have HM2 : Hid (MB (W1.drewN n) g X) := HM.out
    have HB2 : Hid (Below w.heap.size w (W1.drewN n)) := below_dN HB.out n
    obtain ⟨W2, hW2⟩ : ∃ W2, W1.drewN n = W2 := ⟨_, rfl⟩
    rw [hW2] at HM2 HB2 ⊢
    clear hW2 HM HB
    obtain ⟨bD, hbD⟩ : ∃ b, M.mayD X = b := ⟨_, rfl⟩
    rw [hbD]
    have HBD := Lib.hid hbD
    clear hbD
    go_upto_region 2 with fail
    go_cut [4] (fun v wx => v = .bool (M.mayC X) ∧ W2 = wx)
    case first =>
      obtain ⟨_, _, _, _, k4, k5, k6, _, _, k9, k10⟩ := HM2.out.cells
      have hD : M.mayC X = (decide (X.h < 24) && (decide (X.mi < 60) && decide (X.se < 60))) := rfl
      by_cases hh : X.h < 24
      · have dh : decide ((X.h : Int) < 24) = true := decide_eq_true (by omega)
        rw [decide_eq_true hh] at hD
        by_cases hmi : X.mi < 60
        · have dmi : decide ((X.mi : Int) < 60) = true := decide_eq_true (by omega)
          rw [decide_eq_true hmi] at hD
          by_cases hse : X.se < 60
          · have dse : decide ((X.se : Int) < 60) = true := decide_eq_true (by omega)
            rw [decide_eq_true hse] at hD
            have HD := Lib.hid hD
            clear hD
            go_wp2_with fail
            go_meet
            exact ⟨by rw [HD.out]; try rfl, rfl⟩
          · have dse : decide ((X.se : Int) < 60) = false := decide_eq_false (by omega)
            rw [decide_eq_false hse] at hD
            have HD := Lib.hid hD
            clear hD
            go_wp2_with fail
            go_meet
            exact ⟨by rw [HD.out]; try rfl, rfl⟩
        · have dmi : decide ((X.mi : Int) < 60) = false := decide_eq_false (by omega)
          rw [decide_eq_false hmi] at hD
          have HD := Lib.hid hD
          clear hD
          go_wp2_with fail
          go_meet
          exact ⟨by rw [HD.out]; try rfl, rfl⟩
      · have dh : decide ((X.h : Int) < 24) = false := decide_eq_false (by omega)
        rw [decide_eq_false hh] at hD
        have HD := Lib.hid hD
        clear hD
        go_wp2_with fail
        go_meet
        exact ⟨by rw [HD.out]; try rfl, rfl⟩
    case rest =>
      obtain ⟨rfl, rfl⟩ := hcut
      obtain ⟨bC, hbC⟩ : ∃ b, M.mayC X = b := ⟨_, rfl⟩
      rw [hbC]
      have HBC := Lib.hid hbC
      clear hbC
      go_upto_region 3 with fail
      go_cut [5] (fun v wx => v = .bool (M.mayZ X) ∧ W2 = wx)
      case first =>
        obtain ⟨_, _, _, _, k4, k5, k6, _, _, k9, k10⟩ := HM2.out.cells
        have hD : M.mayZ X = (decide (X.zh < 24) && decide (X.zm < 60)) := rfl
        by_cases hzh : X.zh < 24
        · have dzh : decide ((X.zh : Int) < 24) = true := decide_eq_true (by omega)
          rw [decide_eq_true hzh] at hD
          by_cases hzm : X.zm < 60
          · have dzm : decide ((X.zm : Int) < 60) = true := decide_eq_true (by omega)
            rw [decide_eq_true hzm] at hD
            have HD := Lib.hid hD
            clear hD
            go_wp2_with fail
            go_meet
            exact ⟨by rw [HD.out]; try rfl, rfl⟩
          · have dzm : decide ((X.zm : Int) < 60) = false := decide_eq_false (by omega)
            rw [decide_eq_false hzm] at hD
            have HD := Lib.hid hD
            clear hD
            go_wp2_with fail
            go_meet
            exact ⟨by rw [HD.out]; try rfl, rfl⟩
        · have dzh : decide ((X.zh : Int) < 24) = false := decide_eq_false (by omega)
          rw [decide_eq_false hzh] at hD
          have HD := Lib.hid hD
          clear hD
          go_wp2_with fail
          go_meet
          exact ⟨by rw [HD.out]; try rfl, rfl⟩
      case rest =>
        obtain ⟨rfl, rfl⟩ := hcut
        have HR : Hid (M.may X = (M.mayD X && (M.mayC X && M.mayZ X))) := rfl
        obtain ⟨bZ, hbZ⟩ : ∃ b, M.mayZ X = b := ⟨_, rfl⟩
        rw [hbZ]
        have HR2 : Hid (M.may X = (bD && (bC && bZ))) := by show _ = _; rw [HR.out, HBD.out, HBC.out, hbZ]
        clear hbZ
        cases bD <;> cases bC <;> cases bZ
        all_goals
          go_wp2
          go_ret
          exact ⟨ret_bool (by rw [HR2.out]; try rfl), HB2.out⟩
end Go.Proofs.YtipgipgehnhgkaaGreatDoor.S10

namespace Go.Proofs.YtipgipgehnhgkaaGreatDoor.S10
open Go.RowKit

/-- The moment in the zone Z: its year, which may be one too low or too high, and all else. -/
def zY (X : M.Mo) : Int := if M.early X then -1 else ((M.zy X).1 : Int)
def zM (X : M.Mo) : M.Mo := { X with y := (M.zy X).1, m := (M.zy X).2.1, d := (M.zy X).2.2.1, h := (M.zy X).2.2.2 / 60, mi := (M.zy X).2.2.2 % 60, bh := false, zh := 0, zm := 0 }
theorem ret_mo1 {fn : Func} {p : Tmp} {g : Nat} {y : Int} {X : M.Mo} {w : World} (h : fn.results = #[.cell p 70]) (tmps : Array Value) (hp : tmps.getD p undef = .pointer (some ⟨g, 0, none⟩))
    (hB : VB w g y X) : (results fn tmps).run Tryz.prog w = .ok (.agg (vcs y X)) w :=
  results_cell_row h tmps w g 70 (vcs y X) (0, 0) _ hp hB Tryz.underlying70 rfl (by rw [info_mo]; rfl)
/-- The two blocks, the year a whole number. -/
def TwoV (w0 : World) (g : Nat) (y : Int) (X : M.Mo) (w : World) : Prop := VB w g y X ∧ AB w (g + 1) ∧ Below w0.heap.size w0 w ∧ w0.heap.size ≤ g
theorem TwoV.next {w0 w w' : World} {g : Nat} {y : Int} {X : M.Mo} (h : TwoV w0 g y X w) (hb : Below w.heap.size w w') : TwoV w0 g y X w' := ⟨h.1.next hb, h.2.1.next hb, h.2.2.1.trans (hb.mono h.2.2.1.size), h.2.2.2⟩
theorem TwoV.put {w0 w : World} {g : Nat} {y y' : Int} {X Y : M.Mo} (h : TwoV w0 g y X w) (j : Nat) (v : Value) (e : (vcs y X).setIfInBounds j v = vcs y' Y) : TwoV w0 g y' Y (w.setCell ⟨g, j, none⟩ v) := by
  refine ⟨h.1.put j v e, ?_, h.2.2.1.setCell (p := ⟨g, j, none⟩) h.2.2.2 _, h.2.2.2⟩
  obtain ⟨y, Z, hz⟩ := h.2.1
  exact ⟨y, Z, hz.other (by omega) j v⟩
theorem TwoV.ret {w0 w : World} {g : Nat} {y : Int} {X : M.Mo} (h : TwoV w0 g y X w) (y' : Int) (Y : M.Mo) : VB (w.setRow (g + 1) (vcs y' Y)) (g + 1) y' Y ∧ Below w0.heap.size w0 (w.setRow (g + 1) (vcs y' Y)) := by
  obtain ⟨y, Z, hz⟩ := h.2.1
  exact ⟨hz.row y' Y, below_setRow h.2.2.1 (by have := h.2.2.2; omega) _⟩
theorem vcs_set {y : Int} {X Y : M.Mo} (j : Nat) (v : Value) (h : (vcs y X).toList.set j v = (vcs y Y).toList) : (vcs y X).setIfInBounds j v = vcs y Y := by
  apply Array.ext'
  rw [Array.toList_setIfInBounds, h]
/-- What is stored behind the day: hour, minute, and no zone. -/
abbrev zw (w : World) (g N : Nat) : World := ((((w.setCell ⟨g, 4, none⟩ (.int .i64 ((N : Int) / 60))).setCell ⟨g, 5, none⟩ (.int .i64 ((N : Int) % 60))).setCell ⟨g, 8, none⟩ (.bool false)).setCell ⟨g, 9, none⟩ (.int .i64 0)).setCell ⟨g, 10, none⟩ (.int .i64 0)
abbrev dw (w : World) (g : Nat) (y : Int) (m d : Nat) : World := ((w.setCell ⟨g, 0, none⟩ (.int .i64 y)).setCell ⟨g, 1, none⟩ (.int .i64 (m : Int))).setCell ⟨g, 2, none⟩ (.int .i64 (d : Int))
theorem TwoV.zone {w0 w : World} {g : Nat} {y : Int} {X : M.Mo} (h : TwoV w0 g y X w) (N : Nat) :
    TwoV w0 g y { X with h := N / 60, mi := N % 60, bh := false, zh := 0, zm := 0 } (zw w g N) := by
  have h1 := h.put 4 (.int .i64 ((N : Int) / 60)) (y' := y) (Y := { X with h := N / 60 }) rfl
  have h2 := h1.put 5 (.int .i64 ((N : Int) % 60)) (y' := y) (Y := { X with h := N / 60, mi := N % 60 }) rfl
  have h3 := h2.put 8 (.bool false) (y' := y) (Y := { X with h := N / 60, mi := N % 60, bh := false }) rfl
  have h4 := h3.put 9 (.int .i64 0) (y' := y) (Y := { X with h := N / 60, mi := N % 60, bh := false, zh := 0 }) rfl
  exact h4.put 10 (.int .i64 0) (y' := y) (Y := { X with h := N / 60, mi := N % 60, bh := false, zh := 0, zm := 0 }) rfl
theorem TwoV.day {w0 w : World} {g : Nat} {y : Int} {X : M.Mo} (h : TwoV w0 g y X w) (y' : Int) (m d : Nat) :
    TwoV w0 g y' { X with m := m, d := d } (dw w g y' m d) := by
  have h1 := h.put 0 (.int .i64 y') (y' := y') (Y := X) rfl
  have h2 := h1.put 1 (.int .i64 (m : Int)) (y' := y') (Y := { X with m := m }) rfl
  exact h2.put 2 (.int .i64 (d : Int)) (y' := y') (Y := { X with m := m, d := d }) rfl

theorem zy_neg {X : M.Mo} (h : M.mins X < 0) : M.zy X = (let p := M.bef X.y X.m X.d; (p.1, p.2.1, p.2.2, (M.mins X + 1440).toNat)) := by unfold M.zy; rw [if_pos h]
theorem zy_over {X : M.Mo} (h : 1440 ≤ M.mins X) : M.zy X = (let p := M.aft X.y X.m X.d; (p.1, p.2.1, p.2.2, (M.mins X - 1440).toNat)) := by unfold M.zy; rw [if_neg (by omega), if_pos h]
theorem zy_mid {X : M.Mo} (h : 0 ≤ M.mins X) (h2 : M.mins X < 1440) : M.zy X = (X.y, X.m, X.d, (M.mins X).toNat) := by unfold M.zy; rw [if_neg (by omega), if_neg (by omega)]
theorem early_no {X : M.Mo} (h : 0 ≤ M.mins X) : M.early X = false := by unfold M.early; rw [decide_eq_false (by omega)]; rfl
theorem ahead_all (X : M.Mo) (hm : M.may X = true) (hy : X.y < 10000) (hn : M.mins X < 0) (w : World) :
    Calls Tryz.prog 105 #[.agg #[.int .i64 X.y, .int .i64 X.m, .int .i64 X.d]] w fun e w' => e = .returned (.agg #[.int .i64 (zY X), .int .i64 ((zM X).m : Nat), .int .i64 ((zM X).d : Nat)]) ∧ Below w.heap.size w w' := by
  obtain ⟨hd, _⟩ := (M.may_iff X).1 hm
  obtain ⟨m1, m2⟩ := M.month_of hd
  have hl := M.days_le X.y X.m
  have hz := zy_neg hn
  have e1 : zY X = if M.early X then -1 else ((M.bef X.y X.m X.d).1 : Int) := by unfold zY; rw [hz]
  have e2 : (zM X).m = (M.bef X.y X.m X.d).2.1 := by unfold zM; rw [hz]
  have e3 : (zM X).d = (M.bef X.y X.m X.d).2.2 := by unfold zM; rw [hz]
  rw [e1, e2, e3]
  have ee : M.early X = (decide (M.mins X < 0) && (decide (X.y = 0) && (decide (X.m ≤ 1) && decide (X.d ≤ 1)))) := rfl
  rw [decide_eq_true hn, Bool.true_and] at ee
  unfold M.bef
  by_cases h1 : 1 < X.d
  · rw [if_pos h1]
    rw [decide_eq_false (show ¬ X.d ≤ 1 by omega), Bool.and_false, Bool.and_false] at ee
    rw [ee]
    refine (ahead_day X.y X.m X.d w h1 (by omega)).mono fun e w' h => ⟨?_, h.2⟩
    rw [h.1]
    show Ending.returned (.agg #[_, _, .int .i64 ((X.d : Int) - 1)]) = .returned (.agg #[_, _, .int .i64 ((X.d - 1 : Nat) : Int)])
    rw [show ((X.d - 1 : Nat) : Int) = (X.d : Int) - 1 by omega]; rfl
  · rw [if_neg h1]
    by_cases h2 : 1 < X.m
    · rw [if_pos h2]
      rw [decide_eq_false (show ¬ X.m ≤ 1 by omega), Bool.false_and, Bool.and_false] at ee
      rw [ee]
      refine (ahead_month X.y X.m X.d w h1 h2 m2 (by omega)).mono fun e w' h => ⟨?_, h.2⟩
      rw [h.1]
      show Ending.returned (.agg #[_, .int .i64 ((X.m : Int) - 1), _]) = .returned (.agg #[_, .int .i64 ((X.m - 1 : Nat) : Int), _])
      rw [show ((X.m - 1 : Nat) : Int) = (X.m : Int) - 1 by omega]; rfl
    · rw [if_neg h2]
      refine (ahead_year X.y X.m X.d w h1 h2 (by omega)).mono fun e w' h => ⟨?_, h.2⟩
      rw [h.1]
      have e4 : (X.y : Int) - 1 = if M.early X then -1 else ((X.y - 1 : Nat) : Int) := by
        rw [decide_eq_true (show X.m ≤ 1 by omega), decide_eq_true (show X.d ≤ 1 by omega), Bool.and_true, Bool.and_true] at ee
        by_cases h0 : X.y = 0
        · rw [ee, decide_eq_true h0, if_pos rfl, h0]; rfl
        · rw [ee, decide_eq_false h0, if_neg (by decide)]; omega
      rw [e4]; rfl
theorem behind_all (X : M.Mo) (hm : M.may X = true) (hy : X.y < 10000) (hn : 1440 ≤ M.mins X) (w : World) :
    Calls Tryz.prog 106 #[.agg #[.int .i64 X.y, .int .i64 X.m, .int .i64 X.d]] w fun e w' => e = .returned (.agg #[.int .i64 (zY X), .int .i64 ((zM X).m : Nat), .int .i64 ((zM X).d : Nat)]) ∧ Below w.heap.size w w' := by
  obtain ⟨hd, _⟩ := (M.may_iff X).1 hm
  obtain ⟨m1, m2⟩ := M.month_of hd
  have hz := zy_over hn
  have e1 : zY X = ((M.aft X.y X.m X.d).1 : Int) := by unfold zY; rw [hz, early_no (by omega), if_neg (by decide)]
  have e2 : (zM X).m = (M.aft X.y X.m X.d).2.1 := by unfold zM; rw [hz]
  have e3 : (zM X).d = (M.aft X.y X.m X.d).2.2 := by unfold zM; rw [hz]
  rw [e1, e2, e3]
  unfold M.aft
  by_cases h1 : X.d < M.days X.y X.m
  · rw [if_pos h1]
    exact (behind_day X.y X.m X.d w h1 (by omega)).mono fun e w' h => ⟨by rw [h.1]; rfl, h.2⟩
  · rw [if_neg h1]
    by_cases h2 : X.m < 12
    · rw [if_pos h2]
      exact (behind_month X.y X.m X.d w h1 (by omega) h2).mono fun e w' h => ⟨by rw [h.1]; rfl, h.2⟩
    · rw [if_neg h2]
      exact (behind_year X.y X.m X.d w h1 (by omega) h2 m2).mono fun e w' h => ⟨by rw [h.1]; rfl, h.2⟩
set_option maxRecDepth 100000 in
set_option maxHeartbeats 1000000 in
theorem toZ_mid0 (X : M.Mo) (N : Nat) (w : World) (hmay : M.may X = true) (hy : X.y < 10000) (hbh : X.bh = false) (hn : M.mins X = (N : Int)) (hN : N < 1440) :
    Calls Tryz.prog 58 #[.agg (mcs X)] w fun e w' => e = .returned (.agg (vcs (zY X) (zM X))) ∧ Below w.heap.size w w' := by
  obtain ⟨YY, hYY⟩ : ∃ v, zY X = v := ⟨_, rfl⟩
  obtain ⟨ZM, hZM⟩ : ∃ v, zM X = v := ⟨_, rfl⟩
  rw [hYY, hZM]
  have HYY := Lib.hid hYY
  have HZM := Lib.hid hZM
  clear hYY hZM
  obtain ⟨_, ⟨hh, hmi, _⟩, hzh, hzm⟩ := (M.may_iff X).1 hmay
  have hoff : M.off X = ((60 * X.zh + X.zm : Nat) : Int) := by unfold M.off; rw [hbh]; rfl
  have hmin : M.mins X = ((60 * X.h + X.mi : Nat) : Int) - M.off X := rfl
  rw [hoff] at hmin
  have H2 := Two.start w X _ ⟨0, M.M0, zero_mo⟩
  obtain ⟨W1, hW1⟩ : ∃ W1, (w.alloc (.cells (mcs X) 70)).alloc (.cells #[.int .i64 0, .int .i64 0, .int .i64 0, .bool false, .int .i64 0, .int .i64 0, .int .i64 0, .string ⟨#[]⟩, .bool false, .int .i64 0, .int .i64 0] 70) = W1 := ⟨_, rfl⟩
  rw [hW1] at H2
  obtain ⟨g, hg⟩ : ∃ g, w.heap.size = g := ⟨_, rfl⟩
  rw [hg] at H2
  have h0 : TwoV w g X.y X W1 := H2
  obtain ⟨k0, k1, k2, k3, k4, k5, k6, k7, k8, k9, k10⟩ := h0.1.cells
  have f0 := h0.1.frozen 0
  have f1 := h0.1.frozen 1
  have f2 := h0.1.frozen 2
  have f4 := h0.1.frozen 4
  have f5 := h0.1.frozen 5
  have f8 := h0.1.frozen 8
  have f9 := h0.1.frozen 9
  have f10 := h0.1.frozen 10
  rw [hbh] at k8
  have e1 : (X.h : Int) * 60 + (X.mi : Int) - ((X.zh : Int) * 60 + (X.zm : Int)) = (N : Int) := by omega
  have d1 : decide ((N : Int) < 0) = false := decide_eq_false (by omega)
  have d2 : decide ((1440 : Int) ≤ (N : Int)) = false := decide_eq_false (by omega)
  have d3 : decide (1440 ≤ N) = false := decide_eq_false (by omega)
  have hzy := zy_mid (X := X) (by omega) (by omega)
  have hfin := h0.zone N
  have hzz : TwoV w g YY ZM (zw W1 g N) := by
    have e3 : zM X = { X with h := N / 60, mi := N % 60, bh := false, zh := 0, zm := 0 } := by unfold zM; rw [hzy, hn]; rfl
    have e4 : zY X = X.y := by unfold zY; rw [early_no (by omega), hzy]; rfl
    rw [← HYY.out, ← HZM.out, e3, e4]; exact hfin
  have HZ := Lib.hid hzz
  have HN := Lib.hid hN
  clear hfin hzz hoff hmin hn hzy k0 k1 k2 k3 k6 k7 f0 f1 f2 H2 h0 hbh hmay
  go_enter Tryz.func58, Tryz.ntmps58
  obtain ⟨yr, Xr, hr⟩ := HZ.out.2.1
  have hz := HZ.out.ret YY ZM
  have hm := HZ.out.1
  go_upto_region 13 with fail
  go_wp2_with (first | (refine wpList_load_row rfl 70 (.tmp 1) rfl g rfl 70 (vcs YY ZM) (0, 0) _ hm Tryz.underlying70 rfl info_mo ?_; simp only [Act.put, List.setIfInBounds_toArray, List.set_cons_zero, List.set_cons_succ]; refine wpList_store_row rfl 70 (.tmp 2) (.tmp 50) rfl (g + 1) (vcs YY ZM) rfl rfl 70 _ hr info_mo rfl (vcs_one _ _) ?_) | fail)
  exact bodyPost_ret (ret_mo1 Tryz.results58 _ rfl hz.1) rfl ⟨rfl, hz.2⟩
set_option maxRecDepth 100000 in
set_option maxHeartbeats 1000000 in
theorem toZ_mid1 (X : M.Mo) (N : Nat) (w : World) (hmay : M.may X = true) (hy : X.y < 10000) (hbh : X.bh = true) (hn : M.mins X = (N : Int)) (hN : N < 1440) :
    Calls Tryz.prog 58 #[.agg (mcs X)] w fun e w' => e = .returned (.agg (vcs (zY X) (zM X))) ∧ Below w.heap.size w w' := by
  obtain ⟨YY, hYY⟩ : ∃ v, zY X = v := ⟨_, rfl⟩
  obtain ⟨ZM, hZM⟩ : ∃ v, zM X = v := ⟨_, rfl⟩
  rw [hYY, hZM]
  have HYY := Lib.hid hYY
  have HZM := Lib.hid hZM
  clear hYY hZM
  obtain ⟨_, ⟨hh, hmi, _⟩, hzh, hzm⟩ := (M.may_iff X).1 hmay
  have hoff : M.off X = -((60 * X.zh + X.zm : Nat) : Int) := by unfold M.off; rw [hbh]; rfl
  have hmin : M.mins X = ((60 * X.h + X.mi : Nat) : Int) - M.off X := rfl
  rw [hoff] at hmin
  have H2 := Two.start w X _ ⟨0, M.M0, zero_mo⟩
  obtain ⟨W1, hW1⟩ : ∃ W1, (w.alloc (.cells (mcs X) 70)).alloc (.cells #[.int .i64 0, .int .i64 0, .int .i64 0, .bool false, .int .i64 0, .int .i64 0, .int .i64 0, .string ⟨#[]⟩, .bool false, .int .i64 0, .int .i64 0] 70) = W1 := ⟨_, rfl⟩
  rw [hW1] at H2
  obtain ⟨g, hg⟩ : ∃ g, w.heap.size = g := ⟨_, rfl⟩
  rw [hg] at H2
  have h0 : TwoV w g X.y X W1 := H2
  obtain ⟨k0, k1, k2, k3, k4, k5, k6, k7, k8, k9, k10⟩ := h0.1.cells
  have f0 := h0.1.frozen 0
  have f1 := h0.1.frozen 1
  have f2 := h0.1.frozen 2
  have f4 := h0.1.frozen 4
  have f5 := h0.1.frozen 5
  have f8 := h0.1.frozen 8
  have f9 := h0.1.frozen 9
  have f10 := h0.1.frozen 10
  rw [hbh] at k8
  have e1 : (X.h : Int) * 60 + (X.mi : Int) + ((X.zh : Int) * 60 + (X.zm : Int)) = (N : Int) := by omega
  have e2 : (X.h : Int) * 60 + (X.mi : Int) - -((X.zh : Int) * 60 + (X.zm : Int)) = (N : Int) := by omega
  have d1 : decide ((N : Int) < 0) = false := decide_eq_false (by omega)
  have d2 : decide ((1440 : Int) ≤ (N : Int)) = false := decide_eq_false (by omega)
  have d3 : decide (1440 ≤ N) = false := decide_eq_false (by omega)
  have hzy := zy_mid (X := X) (by omega) (by omega)
  have hfin := h0.zone N
  have hzz : TwoV w g YY ZM (zw W1 g N) := by
    have e3 : zM X = { X with h := N / 60, mi := N % 60, bh := false, zh := 0, zm := 0 } := by unfold zM; rw [hzy, hn]; rfl
    have e4 : zY X = X.y := by unfold zY; rw [early_no (by omega), hzy]; rfl
    rw [← HYY.out, ← HZM.out, e3, e4]; exact hfin
  have HZ := Lib.hid hzz
  have HN := Lib.hid hN
  clear hfin hzz hoff hmin hn hzy k0 k1 k2 k3 k6 k7 f0 f1 f2 H2 h0 hbh hmay
  go_enter Tryz.func58, Tryz.ntmps58
  obtain ⟨yr, Xr, hr⟩ := HZ.out.2.1
  have hz := HZ.out.ret YY ZM
  have hm := HZ.out.1
  go_upto_region 13 with fail
  go_wp2_with (first | (refine wpList_load_row rfl 70 (.tmp 1) rfl g rfl 70 (vcs YY ZM) (0, 0) _ hm Tryz.underlying70 rfl info_mo ?_; simp only [Act.put, List.setIfInBounds_toArray, List.set_cons_zero, List.set_cons_succ]; refine wpList_store_row rfl 70 (.tmp 2) (.tmp 50) rfl (g + 1) (vcs YY ZM) rfl rfl 70 _ hr info_mo rfl (vcs_one _ _) ?_) | fail)
  exact bodyPost_ret (ret_mo1 Tryz.results58 _ rfl hz.1) rfl ⟨rfl, hz.2⟩
set_option maxRecDepth 100000 in
set_option maxHeartbeats 1000000 in
theorem toZ_neg0 (X : M.Mo) (N : Nat) (w : World) (hmay : M.may X = true) (hy : X.y < 10000) (hbh : X.bh = false) (hn : M.mins X + 1440 = (N : Int)) (hN : N < 1440) :
    Calls Tryz.prog 58 #[.agg (mcs X)] w fun e w' => e = .returned (.agg (vcs (zY X) (zM X))) ∧ Below w.heap.size w w' := by
  obtain ⟨YY, hYY⟩ : ∃ v, zY X = v := ⟨_, rfl⟩
  obtain ⟨ZM, hZM⟩ : ∃ v, zM X = v := ⟨_, rfl⟩
  rw [hYY, hZM]
  have HYY := Lib.hid hYY
  have HZM := Lib.hid hZM
  clear hYY hZM
  obtain ⟨_, ⟨hh, hmi, _⟩, hzh, hzm⟩ := (M.may_iff X).1 hmay
  have hoff : M.off X = ((60 * X.zh + X.zm : Nat) : Int) := by unfold M.off; rw [hbh]; rfl
  have hmin : M.mins X = ((60 * X.h + X.mi : Nat) : Int) - M.off X := rfl
  rw [hoff] at hmin
  have H2 := Two.start w X _ ⟨0, M.M0, zero_mo⟩
  obtain ⟨W1, hW1⟩ : ∃ W1, (w.alloc (.cells (mcs X) 70)).alloc (.cells #[.int .i64 0, .int .i64 0, .int .i64 0, .bool false, .int .i64 0, .int .i64 0, .int .i64 0, .string ⟨#[]⟩, .bool false, .int .i64 0, .int .i64 0] 70) = W1 := ⟨_, rfl⟩
  rw [hW1] at H2
  obtain ⟨g, hg⟩ : ∃ g, w.heap.size = g := ⟨_, rfl⟩
  rw [hg] at H2
  have h0 : TwoV w g X.y X W1 := H2
  obtain ⟨k0, k1, k2, k3, k4, k5, k6, k7, k8, k9, k10⟩ := h0.1.cells
  have f0 := h0.1.frozen 0
  have f1 := h0.1.frozen 1
  have f2 := h0.1.frozen 2
  have f4 := h0.1.frozen 4
  have f5 := h0.1.frozen 5
  have f8 := h0.1.frozen 8
  have f9 := h0.1.frozen 9
  have f10 := h0.1.frozen 10
  rw [hbh] at k8
  obtain ⟨n, hnn⟩ : ∃ n, M.mins X = n := ⟨_, rfl⟩
  have e1 : (X.h : Int) * 60 + (X.mi : Int) - ((X.zh : Int) * 60 + (X.zm : Int)) = n := by omega
  have d1 : decide (n < 0) = true := decide_eq_true (by omega)
  have e5 : n + 1440 = (N : Int) := by omega
  have cA := fun W => ahead_all X hmay hy (by omega) W
  have hzy := zy_neg (X := X) (by omega)
  have e3 : zM X = { X with y := (zM X).y, m := (zM X).m, d := (zM X).d, h := N / 60, mi := N % 60, bh := false, zh := 0, zm := 0 } := by
    unfold zM; rw [hzy]
    have : (M.mins X + 1440).toNat = N := by omega
    dsimp only; rw [this]
  have hb1 : -1440 < n ∧ n < 2880 := by omega
  obtain ⟨hb1, hb2⟩ := hb1
  have H3 := Lib.hid e3
  obtain ⟨yy, hyy⟩ : ∃ yy, zY X = yy := ⟨_, rfl⟩
  obtain ⟨mm, hmm⟩ : ∃ mm, (zM X).m = mm := ⟨_, rfl⟩
  obtain ⟨dd, hdd⟩ : ∃ dd, (zM X).d = dd := ⟨_, rfl⟩
  rw [hyy, hmm, hdd] at cA
  have HY := Lib.hid hyy
  have HM := Lib.hid hmm
  have HD := Lib.hid hdd
  have HN := Lib.hid hN
  have H0 := Lib.hid h0
  clear e3 hyy hmm hdd hoff hmin hn hnn hzy k3 k6 k7 H2 h0 hbh hmay
  go_enter Tryz.func58, Tryz.ntmps58
  go_upto_region 5 with fail
  clear e1
  go_wp2_with fail
  refine (cA _).mono ?_
  rintro r w2 ⟨rfl, hb⟩
  have h2 := H0.out.next hb
  have HZ : Hid (TwoV w g YY ZM (zw (dw w2 g yy mm dd) g N)) := by
    show TwoV _ _ _ _ _
    rw [← HYY.out, ← HZM.out, H3.out, HY.out, HM.out, HD.out]
    exact (h2.day yy mm dd).zone N
  clear H0 H3 HY HM HD k0 k1 k2 k4 k5 k8 k9 k10 f0 f1 f2 f4 f5 f8 f9 f10
  obtain ⟨k0, k1, k2, k3, k4, k5, k6, k7, k8, k9, k10⟩ := h2.1.cells
  have f0 := h2.1.frozen 0
  have f1 := h2.1.frozen 1
  have f2 := h2.1.frozen 2
  have f4 := h2.1.frozen 4
  have f5 := h2.1.frozen 5
  have f8 := h2.1.frozen 8
  have f9 := h2.1.frozen 9
  have f10 := h2.1.frozen 10
  clear hb h2
  obtain ⟨yr, Xr, hr⟩ := HZ.out.2.1
  have hz := HZ.out.ret YY ZM
  have hm := HZ.out.1
  go_upto_region 13 with fail
  go_wp2_with (first | (refine wpList_load_row rfl 70 (.tmp 1) rfl g rfl 70 (vcs YY ZM) (0, 0) _ hm Tryz.underlying70 rfl info_mo ?_; simp only [Act.put, List.setIfInBounds_toArray, List.set_cons_zero, List.set_cons_succ]; refine wpList_store_row rfl 70 (.tmp 2) (.tmp 50) rfl (g + 1) (vcs YY ZM) rfl rfl 70 _ hr info_mo rfl (vcs_one _ _) ?_) | fail)
  exact bodyPost_ret (ret_mo1 Tryz.results58 _ rfl hz.1) rfl ⟨rfl, hz.2⟩
set_option maxRecDepth 100000 in
set_option maxHeartbeats 1000000 in
theorem toZ_over1 (X : M.Mo) (N : Nat) (w : World) (hmay : M.may X = true) (hy : X.y < 10000) (hbh : X.bh = true) (hn : M.mins X = (N : Int) + 1440) (hN : N < 1440) :
    Calls Tryz.prog 58 #[.agg (mcs X)] w fun e w' => e = .returned (.agg (vcs (zY X) (zM X))) ∧ Below w.heap.size w w' := by
  obtain ⟨YY, hYY⟩ : ∃ v, zY X = v := ⟨_, rfl⟩
  obtain ⟨ZM, hZM⟩ : ∃ v, zM X = v := ⟨_, rfl⟩
  rw [hYY, hZM]
  have HYY := Lib.hid hYY
  have HZM := Lib.hid hZM
  clear hYY hZM
  obtain ⟨_, ⟨hh, hmi, _⟩, hzh, hzm⟩ := (M.may_iff X).1 hmay
  have hoff : M.off X = -((60 * X.zh + X.zm : Nat) : Int) := by unfold M.off; rw [hbh]; rfl
  have hmin : M.mins X = ((60 * X.h + X.mi : Nat) : Int) - M.off X := rfl
  rw [hoff] at hmin
  have H2 := Two.start w X _ ⟨0, M.M0, zero_mo⟩
  obtain ⟨W1, hW1⟩ : ∃ W1, (w.alloc (.cells (mcs X) 70)).alloc (.cells #[.int .i64 0, .int .i64 0, .int .i64 0, .bool false, .int .i64 0, .int .i64 0, .int .i64 0, .string ⟨#[]⟩, .bool false, .int .i64 0, .int .i64 0] 70) = W1 := ⟨_, rfl⟩
  rw [hW1] at H2
  obtain ⟨g, hg⟩ : ∃ g, w.heap.size = g := ⟨_, rfl⟩
  rw [hg] at H2
  have h0 : TwoV w g X.y X W1 := H2
  obtain ⟨k0, k1, k2, k3, k4, k5, k6, k7, k8, k9, k10⟩ := h0.1.cells
  have f0 := h0.1.frozen 0
  have f1 := h0.1.frozen 1
  have f2 := h0.1.frozen 2
  have f4 := h0.1.frozen 4
  have f5 := h0.1.frozen 5
  have f8 := h0.1.frozen 8
  have f9 := h0.1.frozen 9
  have f10 := h0.1.frozen 10
  rw [hbh] at k8
  obtain ⟨n, hnn⟩ : ∃ n, M.mins X = n := ⟨_, rfl⟩
  have e1 : (X.h : Int) * 60 + (X.mi : Int) + ((X.zh : Int) * 60 + (X.zm : Int)) = n := by omega
  have d1 : decide (n < 0) = false := decide_eq_false (by omega)
  have d2 : decide ((1440 : Int) ≤ n) = true := decide_eq_true (by omega)
  have e5 : n - 1440 = (N : Int) := by omega
  have cA := fun W => behind_all X hmay hy (by omega) W
  have hzy := zy_over (X := X) (by omega)
  have e3 : zM X = { X with y := (zM X).y, m := (zM X).m, d := (zM X).d, h := N / 60, mi := N % 60, bh := false, zh := 0, zm := 0 } := by
    unfold zM; rw [hzy]
    have : (M.mins X - 1440).toNat = N := by omega
    dsimp only; rw [this]
  have hb1 : -1440 < n ∧ n < 2880 := by omega
  obtain ⟨hb1, hb2⟩ := hb1
  have H3 := Lib.hid e3
  obtain ⟨yy, hyy⟩ : ∃ yy, zY X = yy := ⟨_, rfl⟩
  obtain ⟨mm, hmm⟩ : ∃ mm, (zM X).m = mm := ⟨_, rfl⟩
  obtain ⟨dd, hdd⟩ : ∃ dd, (zM X).d = dd := ⟨_, rfl⟩
  rw [hyy, hmm, hdd] at cA
  have HY := Lib.hid hyy
  have HM := Lib.hid hmm
  have HD := Lib.hid hdd
  have HN := Lib.hid hN
  have H0 := Lib.hid h0
  clear e3 hyy hmm hdd hoff hmin hn hnn hzy k3 k6 k7 H2 h0 hbh hmay
  go_enter Tryz.func58, Tryz.ntmps58
  go_upto_region 5 with fail
  clear e1
  go_wp2_with fail
  refine (cA _).mono ?_
  rintro r w2 ⟨rfl, hb⟩
  have h2 := H0.out.next hb
  have HZ : Hid (TwoV w g YY ZM (zw (dw w2 g yy mm dd) g N)) := by
    show TwoV _ _ _ _ _
    rw [← HYY.out, ← HZM.out, H3.out, HY.out, HM.out, HD.out]
    exact (h2.day yy mm dd).zone N
  clear H0 H3 HY HM HD k0 k1 k2 k4 k5 k8 k9 k10 f0 f1 f2 f4 f5 f8 f9 f10
  obtain ⟨k0, k1, k2, k3, k4, k5, k6, k7, k8, k9, k10⟩ := h2.1.cells
  have f0 := h2.1.frozen 0
  have f1 := h2.1.frozen 1
  have f2 := h2.1.frozen 2
  have f4 := h2.1.frozen 4
  have f5 := h2.1.frozen 5
  have f8 := h2.1.frozen 8
  have f9 := h2.1.frozen 9
  have f10 := h2.1.frozen 10
  clear hb h2
  obtain ⟨yr, Xr, hr⟩ := HZ.out.2.1
  have hz := HZ.out.ret YY ZM
  have hm := HZ.out.1
  go_upto_region 13 with fail
  go_wp2_with (first | (refine wpList_load_row rfl 70 (.tmp 1) rfl g rfl 70 (vcs YY ZM) (0, 0) _ hm Tryz.underlying70 rfl info_mo ?_; simp only [Act.put, List.setIfInBounds_toArray, List.set_cons_zero, List.set_cons_succ]; refine wpList_store_row rfl 70 (.tmp 2) (.tmp 50) rfl (g + 1) (vcs YY ZM) rfl rfl 70 _ hr info_mo rfl (vcs_one _ _) ?_) | fail)
  exact bodyPost_ret (ret_mo1 Tryz.results58 _ rfl hz.1) rfl ⟨rfl, hz.2⟩
theorem toZ_any (X : M.Mo) (w : World) (hmay : M.may X = true) (hy : X.y < 10000) :
    Calls Tryz.prog 58 #[.agg (mcs X)] w fun e w' => e = .returned (.agg (vcs (zY X) (zM X))) ∧ Below w.heap.size w w' := by
  obtain ⟨_, ⟨hh, hmi, _⟩, hzh, hzm⟩ := (M.may_iff X).1 hmay
  have hmin : M.mins X = ((60 * X.h + X.mi : Nat) : Int) - M.off X := rfl
  cases hb : X.bh
  · have hoff : M.off X = ((60 * X.zh + X.zm : Nat) : Int) := by unfold M.off; rw [hb]; rfl
    rw [hoff] at hmin
    by_cases h0 : M.mins X < 0
    · obtain ⟨N, hN⟩ := Int.eq_ofNat_of_zero_le (show 0 ≤ M.mins X + 1440 by omega)
      exact toZ_neg0 X N w hmay hy hb hN (by omega)
    · obtain ⟨N, hN⟩ := Int.eq_ofNat_of_zero_le (show 0 ≤ M.mins X by omega)
      exact toZ_mid0 X N w hmay hy hb hN (by omega)
  · have hoff : M.off X = -((60 * X.zh + X.zm : Nat) : Int) := by unfold M.off; rw [hb]; rfl
    rw [hoff] at hmin
    by_cases h0 : 1440 ≤ M.mins X
    · obtain ⟨N, hN⟩ := Int.eq_ofNat_of_zero_le (show 0 ≤ M.mins X - 1440 by omega)
      exact toZ_over1 X N w hmay hy hb (by omega) (by omega)
    · obtain ⟨N, hN⟩ := Int.eq_ofNat_of_zero_le (show 0 ≤ M.mins X by omega)
      exact toZ_mid1 X N w hmay hy hb hN (by omega)
end Go.Proofs.YtipgipgehnhgkaaGreatDoor.S10
