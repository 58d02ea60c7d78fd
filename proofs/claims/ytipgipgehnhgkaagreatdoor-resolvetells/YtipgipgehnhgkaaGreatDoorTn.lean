/- targumref10's Of: facts. Walks: targumref10's Of (g/grj.py). -/
import Derived.Test.YtipgipgehnhgkaaGreatDoorTl
import Derived.Test.YtipgipgehnhgkaaGreatDoorTm
set_option linter.unusedVariables false
namespace Go.Proofs.YtipgipgehnhgkaaGreatDoor.S10
open Go.RowKit

namespace M
def KD (A Y : Mo) : Prop := Y.y = A.y ∧ Y.m = A.m ∧ Y.d = A.d
theorem kd_clk {A Y : Mo} {l : List UInt8} (h : cClk A l = some Y) : KD A Y ∧ Y.td = A.td := by
  obtain ⟨⟨k1, k2, k3, k4⟩, -⟩ := kept_clk h
  exact ⟨⟨k1, k2, k3⟩, k4⟩
theorem kd_sec {A Y : Mo} {l : List UInt8} (h : aSec A l = some Y) : KD A Y ∧ Y.td = A.td := by
  unfold aSec at h
  split at h
  · split at h
    · obtain ⟨f, r, e⟩ := apl_clk { A with se := nv 2 0 l } [] (l.drop 3)
      rw [e] at h
      have q := kd_clk h; exact q
    · have q := kd_clk h; exact q
  · cases h
theorem kd_min {A Y : Mo} {l : List UInt8} (h : aMin A l = some Y) : KD A Y ∧ Y.td = A.td := by
  unfold aMin at h
  split at h
  · split at h
    · have q := kd_sec h; exact q
    · cases h
  · cases h
theorem kd_day {A Y : Mo} {l : List UInt8} (h : aDay A l = some Y) : KD A Y ∧ Y.td = true := by
  unfold aDay at h
  split at h
  · cases h
  · split at h
    · have q := kd_min h; exact q
    · cases h
theorem kd_bl {A Y : Mo} {l : List UInt8} (h : rBl A l = some Y) : KD A Y ∧ Y.td = true := by
  induction l with
  | nil => exact kd_day h
  | cons c r ih =>
    rw [rBl] at h; split at h
    · exact ih h
    · exact kd_day h
theorem kd_tail {n : Nat} {A Y : Mo} {l : List UInt8} (h : rTail n A l = some Y) : KD A Y ∧ (l ≠ [] → Y.td = true) := by
  cases l with
  | nil =>
    rw [rTail] at h; split at h
    · cases h; exact ⟨⟨rfl, rfl, rfl⟩, fun q => absurd rfl q⟩
    · cases h
  | cons c r =>
    rw [rTail] at h
    split at h
    · exact ⟨(kd_day h).1, fun _ => (kd_day h).2⟩
    · split at h
      · exact ⟨(kd_day h).1, fun _ => (kd_day h).2⟩
      · split at h
        · exact ⟨(kd_bl h).1, fun _ => (kd_bl h).2⟩
        · cases h
theorem mayD_kd {A Y : Mo} (h : KD A Y) : mayD Y = mayD A := by unfold mayD; rw [h.1, h.2.1, h.2.2]
end M
theorem of_bad {n : Nat} {A : M.Mo} {l r : List UInt8} (h : M.rd l = M.rTail n A r) (hm : M.mayD A = false) : ofV (M.ofS l) = noT := by
  cases hT : M.rTail n A r with
  | none => rw [ofS_none (by rw [h, hT])]; rfl
  | some Y =>
    rw [ofS_not (by rw [h, hT]) (by unfold M.may; rw [M.mayD_kd (M.kd_tail hT).1, hm]; rfl)]; rfl
theorem of_clV {n : Nat} {A : M.Mo} {l r : List UInt8} (h : M.rd l = M.rTail n A r) (hr : r ≠ []) (hm : M.mayD A = true) : ofV (M.ofS l) = clV (M.rTail n A r) := by
  cases hT : M.rTail n A r with
  | none => rw [ofS_none (by rw [h, hT])]; rfl
  | some Y =>
    have kd := M.kd_tail hT
    have hD := M.mayD_kd kd.1
    rw [hm] at hD
    unfold clV; simp only
    by_cases hc : M.mayC Y = true ∧ M.mayZ Y = true
    · rw [if_pos hc, ofS_time (by rw [h, hT]) (by unfold M.may; rw [hD, hc.1, hc.2]; rfl) (kd.2 hr)]
    · rw [if_neg hc, ofS_not (by rw [h, hT]) (by
        unfold M.may; rw [hD]
        cases h1 : M.mayC Y
        · rfl
        · cases h2 : M.mayZ Y
          · rfl
          · exact absurd ⟨h1, h2⟩ hc)]; rfl
theorem rd_no (s : ByteArray) (h : ¬ M.cnt 4 s.data.toList = 4) : M.rd s.data.toList = none := by unfold M.rd; rw [if_neg h]
theorem rd_bad (s : ByteArray) (h : M.cnt 4 s.data.toList = 4) (hb : ∀ hl : 4 < s.size, s[4] ≠ 45) : M.rd s.data.toList = none := by
  unfold M.rd; rw [if_pos h, if_neg (rhead_not s 4 45 hb)]
theorem rd_go (s : ByteArray) (h : M.cnt 4 s.data.toList = 4) (hl : 4 < s.size) (hb : s[4] = 45) :
    M.rd s.data.toList = M.rMon s.size { M.M0 with y := M.nv 4 0 s.data.toList } (s.data.toList.drop 5) := by
  unfold M.rd; rw [if_pos h, rhead_in s 4 hl, hb, if_pos rfl, sz_list]
theorem rmon_no (n : Nat) (X : M.Mo) (l : List UInt8) (h : M.cnt 2 l = 0) : M.rMon n X l = none := by unfold M.rMon; rw [if_pos h]
theorem rmon_bad (s : ByteArray) (n : Nat) (X : M.Mo) (k : Nat) (h : ¬ M.cnt 2 (s.data.toList.drop k) = 0) (hb : ∀ hl : k + M.cnt 2 (s.data.toList.drop k) < s.size, s[k + M.cnt 2 (s.data.toList.drop k)] ≠ 45) : M.rMon n X (s.data.toList.drop k) = none := by
  unfold M.rMon; rw [if_neg h, List.drop_drop, if_neg (rhead_not s _ _ hb)]
theorem rmon_go (s : ByteArray) (n : Nat) (X : M.Mo) (k : Nat) (h : ¬ M.cnt 2 (s.data.toList.drop k) = 0) (hl : k + M.cnt 2 (s.data.toList.drop k) < s.size) (hb : s[k + M.cnt 2 (s.data.toList.drop k)] = 45) :
    M.rMon n X (s.data.toList.drop k) = M.rDay n { X with m := M.nv 2 0 (s.data.toList.drop k) } (s.data.toList.drop (k + M.cnt 2 (s.data.toList.drop k) + 1)) := by
  unfold M.rMon; rw [if_neg h, List.drop_drop, rhead_in s _ hl, hb, if_pos rfl, List.drop_drop]; rfl
theorem rday_no (n : Nat) (X : M.Mo) (l : List UInt8) (h : M.cnt 2 l = 0) : M.rDay n X l = none := by unfold M.rDay; rw [if_pos h]
theorem rday_go (s : ByteArray) (n : Nat) (X : M.Mo) (k : Nat) (h : ¬ M.cnt 2 (s.data.toList.drop k) = 0) :
    M.rDay n X (s.data.toList.drop k) = M.rTail n { X with d := M.nv 2 0 (s.data.toList.drop k) } (s.data.toList.drop (k + M.cnt 2 (s.data.toList.drop k))) := by
  unfold M.rDay; rw [if_neg h, List.drop_drop]
theorem rbl_in (s : ByteArray) (X : M.Mo) (k : Nat) (hl : k < s.size) (hb : M.bB s[k] = true) : M.rBl X (s.data.toList.drop k) = M.rBl X (s.data.toList.drop (k + 1)) := by
  rw [drop_cons s k hl, M.rBl, if_pos hb]
theorem rbl_out (s : ByteArray) (X : M.Mo) (k : Nat) (hb : ∀ hl : k < s.size, M.bB s[k] = false) : M.rBl X (s.data.toList.drop k) = M.aDay X (s.data.toList.drop k) := by
  by_cases hl : k < s.size
  · rw [drop_cons s k hl, M.rBl, if_neg (by rw [hb hl]; decide)]
  · rw [drop_nil s k (by omega), M.rBl]
end Go.Proofs.YtipgipgehnhgkaaGreatDoor.S10

namespace Go.Proofs.YtipgipgehnhgkaaGreatDoor.S10
open Go.RowKit

/-- The blanks behind a date: where the walk stands. -/
def LP (s : ByteArray) (X : M.Mo) (R : Value) (k : Int) (j : Nat) : Prop :=
  (k = -1 ∧ ∃ h : j < s.size, M.bB s[j] = true ∧ clV (M.rBl X (s.data.toList.drop (j + 1))) = R) ∨
  (k = -1 ∧ ∃ h : j < s.size, M.bB s[j] = false ∧ R = noT) ∨
  (∃ k' : Nat, k = (k' : Int) ∧ k' ≤ s.size ∧ clV (M.aDay X (s.data.toList.drop k')) = R)
set_option maxRecDepth 100000 in
set_option maxHeartbeats 4000000 in
theorem rof_any (s : ByteArray) (w : World) (hs : s.size ≤ 1000) :
    Calls Tryz.prog 36 #[.string s] w fun e w' => e = .returned (ofV (M.ofS s.data.toList)) ∧ Below w.heap.size w w' := by
  obtain ⟨R, hR⟩ : ∃ R, ofV (M.ofS s.data.toList) = R := ⟨_, rfl⟩
  rw [hR]
  have hs5 : s.size ≤ 100000 := by omega
  have c1 : ∀ W, Calls Tryz.prog 75 #[.string s, .int .i64 0, .int .i64 4, .int .i64 4] W fun e w' => e = .returned (dgV s 0 4 4) ∧ W = w' := fun W => rdigits_any s 0 4 4 W hs5 (by omega) (by omega) (by omega)
  by_cases h4 : M.cnt 4 s.data.toList = 4
  rotate_left
  · have hR2 : R = .tuple #[.string ⟨#[]⟩, .bool false] := by rw [← hR, ofS_none (rd_no s h4)]; rfl
    rw [dgV_few s 0 4 4 (by have := M.cnt_le 4 s.data.toList; rw [List.drop_zero]; omega)] at c1
    unfold noV at c1
    clear hR h4
    subst hR2
    go_enter Tryz.func36, Tryz.ntmps36
    go_wp2_with fail
    refine (c1 _).mono ?_
    rintro r w1 ⟨rfl, rfl⟩
    go_wp2
    go_ret2
    exact ⟨rfl, Below.refl _ _⟩
  · have h40 : M.cnt 4 (s.data.toList.drop 0) = 4 := h4
    have h4s : 4 ≤ s.size := by rw [← h4, sz_list]; exact M.cnt_len _ _
    rw [dgV_some s 0 4 4 (by omega), h40] at c1
    rw [List.drop_zero] at c1
    clear h40
    obtain ⟨y, hyy⟩ : ∃ y, M.nv 4 0 s.data.toList = y := ⟨_, rfl⟩
    have hy : y < 10000 := by rw [← hyy]; exact M.nv4_lt _
    rw [hyy] at c1
    have c1 : ∀ W, Calls Tryz.prog 75 #[.string s, .int .i64 0, .int .i64 4, .int .i64 4] W fun e w' => e = .returned (.tuple #[.int .i64 (y : Nat), .int .i64 4]) ∧ W = w' := c1
    by_cases h45 : ∃ hl : 4 < s.size, s[4] = 45
    rotate_left
    · have hb : ∀ hl : 4 < s.size, s[4] ≠ 45 := fun hl q => h45 ⟨hl, q⟩
      have hR2 : R = .tuple #[.string ⟨#[]⟩, .bool false] := by rw [← hR, ofS_none (rd_bad s h4 hb)]; rfl
      have c2 : ∀ W, Calls Tryz.prog 76 #[.string s, .int .i64 4, .string ⟨#[45]⟩, .int .i64 1, .int .i64 2] W fun e w' => e = .returned noV ∧ Below W.heap.size W w' := fun W => part_no s ⟨#[45]⟩ 4 1 2 W hs5 (by decide) h4s (by intro hl q; exact hb hl (by simpa using q))
      unfold noV at c2
      clear hR h4 h45 hb hyy
      subst hR2
      go_enter Tryz.func36, Tryz.ntmps36
      go_wp2_with fail
      refine (c1 _).mono ?_
      rintro r w1 ⟨rfl, rfl⟩
      go_wp2_with fail
      refine (c2 _).mono ?_
      rintro r w2 ⟨rfl, hb⟩
      go_wp2
      go_ret2
      exact ⟨rfl, hb⟩
    · obtain ⟨hl4, h45⟩ := h45
      have e1 := rd_go s h4 hl4 h45
      rw [hyy] at e1
      have c2 : ∀ W, Calls Tryz.prog 76 #[.string s, .int .i64 4, .string ⟨#[45]⟩, .int .i64 1, .int .i64 2] W fun e w' => e = .returned (dgV s 5 1 2) ∧ Below W.heap.size W w' := fun W => part_yes s ⟨#[45]⟩ 4 1 2 W hs5 (by decide) hl4 (by rw [h45]; decide) (by omega) (by omega)
      clear h4 h45 hyy
      obtain ⟨C, hC⟩ : ∃ C, M.cnt 2 (s.data.toList.drop 5) = C := ⟨_, rfl⟩
      obtain ⟨m, hm⟩ : ∃ m, M.nv 2 0 (s.data.toList.drop 5) = m := ⟨_, rfl⟩
      have hm9 : m < 100 := by rw [← hm]; exact M.nv2_lt _
      have hCl : 5 + C ≤ s.size := by
        have := M.cnt_len 2 (s.data.toList.drop 5)
        rw [List.length_drop, ← sz_list, hC] at this; omega
      by_cases hC0 : C = 0
      · have hR2 : R = .tuple #[.string ⟨#[]⟩, .bool false] := by rw [← hR, ofS_none (by rw [e1, rmon_no _ _ _ (by rw [hC, hC0])])]; rfl
        rw [dgV_few s _ 1 2 (by omega)] at c2
        unfold noV at c2
        clear hR hC hm hC0 hCl e1
        subst hR2
        go_enter Tryz.func36, Tryz.ntmps36
        go_wp2_with fail
        refine (c1 _).mono ?_
        rintro r w1 ⟨rfl, rfl⟩
        go_wp2_with fail
        refine (c2 _).mono ?_
        rintro r w2 ⟨rfl, hb⟩
        go_wp2
        go_ret2
        exact ⟨rfl, hb⟩
      · rw [dgV_some s _ 1 2 (by omega), hm, hC] at c2
        by_cases h45 : ∃ hl : 5 + C < s.size, s[5 + C] = 45
        rotate_left
        · have hb : ∀ hl : 5 + C < s.size, s[5 + C] ≠ 45 := fun hl q => h45 ⟨hl, q⟩
          have hR2 : R = .tuple #[.string ⟨#[]⟩, .bool false] := by
            subst hC
            rw [← hR, ofS_none (by rw [e1, rmon_bad s _ _ 5 hC0 hb])]; rfl
          have c3 : ∀ W, Calls Tryz.prog 76 #[.string s, .int .i64 ((5 + C : Nat) : Int), .string ⟨#[45]⟩, .int .i64 1, .int .i64 2] W fun e w' => e = .returned noV ∧ Below W.heap.size W w' := fun W => part_no s ⟨#[45]⟩ (5 + C) 1 2 W hs5 (by decide) hCl (by intro hl q; exact hb hl (by simpa using q))
          unfold noV at c3
          clear hR hC hm hC0 e1 h45 hb
          generalize 5 + C = a at *
          have z0 : decide ((a : Int) < 0) = false := decide_eq_false (by omega)
          subst hR2
          go_enter Tryz.func36, Tryz.ntmps36
          go_wp2_with fail
          refine (c1 _).mono ?_
          rintro r w1 ⟨rfl, rfl⟩
          go_wp2_with fail
          refine (c2 _).mono ?_
          rintro r w2 ⟨rfl, hb⟩
          go_wp2_with fail
          refine (c3 _).mono ?_
          rintro r w3 ⟨rfl, hb2⟩
          have hb3 := hb.trans (hb2.mono hb.size)
          clear hb hb2 c1 c2 c3
          go_wp2
          go_ret2
          exact ⟨rfl, hb3⟩
        · obtain ⟨hl5, h45⟩ := h45
          have e2 : M.rd s.data.toList = M.rDay s.size { M.M0 with y := y, m := m } (s.data.toList.drop (5 + C + 1)) := by
            subst hC hm
            rw [e1, rmon_go s _ _ 5 hC0 hl5 h45]
          have c3 : ∀ W, Calls Tryz.prog 76 #[.string s, .int .i64 ((5 + C : Nat) : Int), .string ⟨#[45]⟩, .int .i64 1, .int .i64 2] W fun e w' => e = .returned (dgV s (5 + C + 1) 1 2) ∧ Below W.heap.size W w' := fun W => part_yes s ⟨#[45]⟩ (5 + C) 1 2 W hs5 (by decide) hl5 (by rw [h45]; decide) (by omega) (by omega)
          clear e1 hC hm hC0 h45
          generalize 5 + C = a at *
          have z0 : decide ((a : Int) < 0) = false := decide_eq_false (by omega)
          obtain ⟨D, hD⟩ : ∃ D, M.cnt 2 (s.data.toList.drop (a + 1)) = D := ⟨_, rfl⟩
          obtain ⟨d, hd⟩ : ∃ d, M.nv 2 0 (s.data.toList.drop (a + 1)) = d := ⟨_, rfl⟩
          have hd9 : d < 100 := by rw [← hd]; exact M.nv2_lt _
          have hDl : a + 1 + D ≤ s.size := by
            have := M.cnt_len 2 (s.data.toList.drop (a + 1))
            rw [List.length_drop, ← sz_list, hD] at this; omega
          by_cases hD0 : D = 0
          · have hR2 : R = .tuple #[.string ⟨#[]⟩, .bool false] := by rw [← hR, ofS_none (by rw [e2, rday_no _ _ _ (by rw [hD, hD0])])]; rfl
            rw [dgV_few s _ 1 2 (by omega)] at c3
            unfold noV at c3
            clear hR hD hd hD0 hDl e2
            subst hR2
            go_enter Tryz.func36, Tryz.ntmps36
            go_wp2_with fail
            refine (c1 _).mono ?_
            rintro r w1 ⟨rfl, rfl⟩
            go_wp2_with fail
            refine (c2 _).mono ?_
            rintro r w2 ⟨rfl, hb⟩
            go_wp2_with fail
            refine (c3 _).mono ?_
            rintro r w3 ⟨rfl, hb2⟩
            have hb3 := hb.trans (hb2.mono hb.size)
            clear hb hb2 c1 c2 c3
            go_wp2
            go_ret2
            exact ⟨rfl, hb3⟩
          · rw [dgV_some s _ 1 2 (by omega), hd, hD] at c3
            have e3 : M.rd s.data.toList = M.rTail s.size { M.M0 with y := y, m := m, d := d } (s.data.toList.drop (a + 1 + D)) := by
              subst hD hd
              rw [e2, rday_go s _ _ (a + 1) hD0]
            clear e2 hD hd hD0
            generalize a + 1 + D = b at *
            have z1 : decide ((b : Int) < 0) = false := decide_eq_false (by omega)
            obtain ⟨X, hX⟩ : ∃ X : M.Mo, X = { M.M0 with y := y, m := m, d := d } := ⟨_, rfl⟩
            rw [← hX] at e3
            have hXy : X.y = y := by rw [hX]
            have hXm : X.m = m := by rw [hX]
            have hXd : X.d = d := by rw [hX]
            have hX0 : X.bh = false ∧ X.zh = 0 ∧ X.zm = 0 ∧ X.fr = [] := by rw [hX]; exact ⟨rfl, rfl, rfl, rfl⟩
            have hXt : X.td = false ∧ X.h = 0 ∧ X.mi = 0 ∧ X.se = 0 := by rw [hX]; exact ⟨rfl, rfl, rfl, rfl⟩
            clear hX
            have cY := fun W => rdays_nat y m W (by omega)
            by_cases hd0 : d < 1
            · have k1 : decide ((d : Int) < 1) = true := decide_eq_true (by omega)
              have hR2 : R = .tuple #[.string ⟨#[]⟩, .bool false] := by
                rw [← hR, of_bad e3 (by unfold M.mayD; rw [hXd, decide_eq_false (by omega)]; rfl)]; rfl
              clear hR e3 hXy hXm hXd hX0 hXt
              subst hR2
              go_enter Tryz.func36, Tryz.ntmps36
              go_wp2_with fail
              refine (c1 _).mono ?_
              rintro r w1 ⟨rfl, rfl⟩
              go_wp2_with fail
              refine (c2 _).mono ?_
              rintro r w2 ⟨rfl, hb⟩
              go_wp2_with fail
              refine (c3 _).mono ?_
              rintro r w3 ⟨rfl, hb2⟩
              have hb3 := hb.trans (hb2.mono hb.size)
              clear hb hb2 c1 c2 c3
              go_wp2
              go_ret2
              exact ⟨rfl, hb3⟩
            · have k1 : decide ((d : Int) < 1) = false := decide_eq_false (by omega)
              obtain ⟨T, hT⟩ : ∃ T, M.days y m = T := ⟨_, rfl⟩
              have hT31 := M.days_le y m
              rw [hT] at cY hT31
              by_cases hdT : T < d
              · have k2 : decide ((T : Int) < (d : Int)) = true := decide_eq_true (by omega)
                have k3 : decide (T < d) = true := decide_eq_true hdT
                have hR2 : R = .tuple #[.string ⟨#[]⟩, .bool false] := by
                  rw [← hR, of_bad e3 (by unfold M.mayD; rw [hXd, hXy, hXm, hT, decide_eq_false (show ¬ d ≤ T by omega)]; simp)]; rfl
                clear hR e3 hXy hXm hXd hX0 hXt hT
                subst hR2
                go_enter Tryz.func36, Tryz.ntmps36
                go_wp2_with fail
                refine (c1 _).mono ?_
                rintro r w1 ⟨rfl, rfl⟩
                go_wp2_with fail
                refine (c2 _).mono ?_
                rintro r w2 ⟨rfl, hb⟩
                go_wp2_with fail
                refine (c3 _).mono ?_
                rintro r w3 ⟨rfl, hb2⟩
                have hb3 := hb.trans (hb2.mono hb.size)
                clear hb hb2 c1 c2 c3
                go_wp2_with fail
                refine (cY _).mono ?_
                rintro r w4 ⟨rfl, rfl⟩
                go_wp2
                go_ret2
                exact ⟨rfl, hb3⟩
              · have k2 : decide ((T : Int) < (d : Int)) = false := decide_eq_false (by omega)
                have k3 : decide (T < d) = false := decide_eq_false hdT
                have hmd : M.mayD X = true := by unfold M.mayD; rw [hXd, hXy, hXm, hT]; simp; omega
                by_cases hbs : b = s.size
                · have q1 : ((b : Int) == (s.size : Int)) = true := by simp; omega
                  rw [hbs, drop_nil s _ (Nat.le_refl _), M.rTail] at e3
                  by_cases hb10 : b = 10
                  · have q2 : ((b : Int) == 10) = true := by simp; omega
                    have q3 : ((b : Int) != 10) = false := by simp; omega
                    rw [if_pos (by omega)] at e3
                    have hR2 : R = .tuple #[.string s, .bool true] := by
                      rw [← hR, ofS_date e3 (by unfold M.may M.mayC M.mayZ; rw [hmd, hXt.2.1, hXt.2.2.1, hXt.2.2.2, hX0.2.1, hX0.2.2.1]; rfl) hXt.1]
                      unfold ofV; simp only; rw [bA_of]
                    clear hR e3 hXy hXm hXd hX0 hXt hT hmd
                    subst hR2
                    go_enter Tryz.func36, Tryz.ntmps36
                    go_wp2_with fail
                    refine (c1 _).mono ?_
                    rintro r w1 ⟨rfl, rfl⟩
                    go_wp2_with fail
                    refine (c2 _).mono ?_
                    rintro r w2 ⟨rfl, hb⟩
                    go_wp2_with fail
                    refine (c3 _).mono ?_
                    rintro r w3 ⟨rfl, hb2⟩
                    have hb3 := hb.trans (hb2.mono hb.size)
                    clear hb hb2 c1 c2 c3
                    go_wp2_with fail
                    refine (cY _).mono ?_
                    rintro r w4 ⟨rfl, rfl⟩
                    go_wp2
                    go_ret2
                    exact ⟨rfl, hb3⟩
                  · have q2 : ((b : Int) == 10) = false := by simp; omega
                    have q3 : ((b : Int) != 10) = true := by simp; omega
                    rw [if_neg (by omega)] at e3
                    have hR2 : R = .tuple #[.string ⟨#[]⟩, .bool false] := by rw [← hR, ofS_none e3]; rfl
                    clear hR e3 hXy hXm hXd hX0 hXt hT hmd
                    subst hR2
                    go_enter Tryz.func36, Tryz.ntmps36
                    go_wp2_with fail
                    refine (c1 _).mono ?_
                    rintro r w1 ⟨rfl, rfl⟩
                    go_wp2_with fail
                    refine (c2 _).mono ?_
                    rintro r w2 ⟨rfl, hb⟩
                    go_wp2_with fail
                    refine (c3 _).mono ?_
                    rintro r w3 ⟨rfl, hb2⟩
                    have hb3 := hb.trans (hb2.mono hb.size)
                    clear hb hb2 c1 c2 c3
                    go_wp2_with fail
                    refine (cY _).mono ?_
                    rintro r w4 ⟨rfl, rfl⟩
                    go_wp2
                    go_ret2
                    exact ⟨rfl, hb3⟩
                · have hbl : b < s.size := by omega
                  have q1 : ((b : Int) == (s.size : Int)) = false := by simp; omega
                  have hdc := drop_cons s b hbl
                  have e4 := of_clV e3 (by rw [hdc]; simp) hmd
                  rw [hR, hdc, M.rTail] at e4
                  have cK : ∀ k, k ≤ s.size → ∀ W, Calls Tryz.prog 79 #[.string s, .int .i64 (k : Nat), .int .i64 (y : Nat), .int .i64 (m : Nat), .int .i64 (d : Nat)] W fun e w' => e = .returned (clV (M.aDay X (s.data.toList.drop k))) ∧ Below W.heap.size W w' := by
                    intro k hk W
                    have := rclock_any s k X W hs hk (by rw [hXy]; exact hy) hmd hX0
                    rw [hXy, hXm, hXd] at this
                    exact this
                  obtain ⟨k, hk1, hk2, c4, hlp⟩ : ∃ k : Int, -1 ≤ k ∧ k ≤ s.size ∧ (∀ W, Calls Tryz.prog 78 #[.string s, .int .i64 b, .string ⟨#[84, 116]⟩] W fun e w' => e = .returned (.int .i64 k) ∧ Below W.heap.size W w') ∧ LP s X R k b := by
                    by_cases hTt : s[b] = 84 ∨ s[b] = 116
                    · refine ⟨((b + 1 : Nat) : Int), by omega, by omega, fun W => ?_, .inr (.inr ⟨b + 1, rfl, by omega, ?_⟩)⟩
                      · have := sign_in s ⟨#[84, 116]⟩ b W hs5 hbl (by decide)
                        rw [if_pos (by rcases hTt with h | h <;> rw [h] <;> decide)] at this
                        exact this
                      · rcases hTt with h | h
                        · rw [if_pos h] at e4; exact e4.symm
                        · rw [if_neg (by rw [h]; decide), if_pos h] at e4; exact e4.symm
                    · have n1 : ¬ s[b] = 84 := fun h => hTt (.inl h)
                      have n2 : ¬ s[b] = 116 := fun h => hTt (.inr h)
                      rw [if_neg n1, if_neg n2] at e4
                      refine ⟨-1, by omega, by omega, fun W => ?_, ?_⟩
                      · have := sign_in s ⟨#[84, 116]⟩ b W hs5 hbl (by decide)
                        rw [if_neg (by intro q; simp at q; exact hTt q)] at this
                        exact this
                      · cases hbb : M.bB s[b]
                        · rw [if_neg (by rw [hbb]; decide)] at e4
                          exact .inr (.inl ⟨rfl, hbl, hbb, e4⟩)
                        · rw [if_pos hbb] at e4
                          exact .inl ⟨rfl, hbl, hbb, e4.symm⟩
                  have HL := Lib.hid hlp
                  clear hlp e4 hdc e3 hR hXy hXm hXd hX0 hXt hT hmd
                  go_enter Tryz.func36, Tryz.ntmps36
                  go_wp2_with fail
                  refine (c1 _).mono ?_
                  rintro r w1 ⟨rfl, rfl⟩
                  go_wp2_with fail
                  refine (c2 _).mono ?_
                  rintro r w2 ⟨rfl, hb⟩
                  go_wp2_with fail
                  refine (c3 _).mono ?_
                  rintro r w3 ⟨rfl, hb2⟩
                  have hb3 := hb.trans (hb2.mono hb.size)
                  clear hb hb2 c1 c2 c3
                  go_wp2_with fail
                  refine (cY _).mono ?_
                  rintro r w4 ⟨rfl, rfl⟩
                  clear cY
                  go_wp2_with fail
                  refine (c4 _).mono ?_
                  rintro r w5 ⟨rfl, hb4⟩
                  have BB := hb3.trans (hb4.mono hb3.size)
                  clear hb3 hb4 c4
                  go_wp2_with fail
                  go_loop [9, 10] (fun bv kv => ∃ (k : Int) (j : Nat), kv = .int .i64 k ∧ bv = .int .i64 j ∧ -1 ≤ k ∧ k ≤ s.size ∧ j ≤ s.size ∧ Hid (LP s X R k j)) (fun bv _ => s.size - (intOf bv).toNat)
                  case atStart => exact ⟨k, b, rfl, rfl, hk1, hk2, by omega, HL⟩
                  case round =>
                    clear HL hk1 hk2 hbl hbs q1 z1 k1 k2 k3
                    obtain ⟨k, j, rfl, rfl, hk1, hk2, hj, hst⟩ := hrel
                    rcases hst.out with ⟨rfl, hjl, hbb, e⟩ | ⟨rfl, hjl, hbb, e⟩ | ⟨k', rfl, hk', e⟩
                    · have l1 : decide (j < s.size) = true := decide_eq_true hjl
                      clear hst
                      have hb2 := s[j].toNat_lt
                      have hbb2 : s[j].toNat = 32 ∨ s[j].toNat = 9 := by simpa [M.bB] using hbb
                      clear hbb
                      have hq : (((j : Int) + 1 == (s.size : Int)) = true ∧ ((((j + 1 : Nat) : Int)) == (s.size : Int)) = true ∧ LP s X R ((j + 1 : Nat) : Int) (j + 1)) ∨ (∃ hn : j + 1 < s.size, ((j : Int) + 1 == (s.size : Int)) = false ∧ ((((j + 1 : Nat) : Int)) == (s.size : Int)) = false ∧ M.bB s[j + 1] = true ∧ LP s X R (-1) (j + 1)) ∨ (∃ hn : j + 1 < s.size, ((j : Int) + 1 == (s.size : Int)) = false ∧ ((((j + 1 : Nat) : Int)) == (s.size : Int)) = false ∧ M.bB s[j + 1] = false ∧ LP s X R ((j + 1 : Nat) : Int) (j + 1)) := by
                        by_cases hn : j + 1 < s.size
                        · refine .inr ?_
                          have p1 : ((j : Int) + 1 == (s.size : Int)) = false := by simp; omega
                          have p2 : ((((j + 1 : Nat) : Int)) == (s.size : Int)) = false := by simp; omega
                          cases hb3 : M.bB s[j + 1]
                          · exact .inr ⟨hn, p1, p2, hb3, .inr (.inr ⟨j + 1, rfl, by omega, by rw [← e, rbl_out s X (j + 1) (fun _ => hb3)]⟩)⟩
                          · exact .inl ⟨hn, p1, p2, hb3, .inl ⟨rfl, hn, hb3, by rw [← e, rbl_in s X (j + 1) hn hb3]⟩⟩
                        · exact .inl ⟨by simp; omega, by simp; omega, .inr (.inr ⟨j + 1, rfl, by omega, by rw [← e, rbl_out s X (j + 1) (fun q => absurd q hn)]⟩)⟩
                      have HQ := Lib.hid hq
                      clear hq e
                      rcases hbb2 with h32 | h9
                      · have e32 : ((s[j].toNat : Int) == 32) = true := beq_iff_eq.2 (by omega)
                        rcases HQ.out with ⟨p1, p2, hL⟩ | ⟨hn, p1, p2, hb3, hL⟩ | ⟨hn, p1, p2, hb3, hL⟩
                        · have HL := Lib.hid hL
                          clear HQ hL h32
                          go_wp2_with fail
                          go_round
                          case rel => exact ⟨_, j + 1, rfl, by go_num, by omega, by omega, by omega, HL⟩
                          case measure => simp [intOf]; omega
                        · have HL := Lib.hid hL
                          have l2 : decide (j + 1 < s.size) = true := decide_eq_true hn
                          have hb5 := s[j + 1].toNat_lt
                          have hbb2 : s[j + 1].toNat = 32 ∨ s[j + 1].toNat = 9 := by simpa [M.bB] using hb3
                          clear HQ hL h32 hb3
                          rcases hbb2 with h5 | h5
                          · have r1 : ((s[j + 1].toNat : Int) == 32) = true := beq_iff_eq.2 (by omega)
                            have r2 : ((s[j + 1].toNat : Int) != 32) = false := by simp; omega
                            clear h5
                            go_wp2_with fail
                            go_round
                            case rel => exact ⟨_, j + 1, rfl, by go_num, by omega, by omega, by omega, HL⟩
                            case measure => simp [intOf]; omega
                          · have r1 : ((s[j + 1].toNat : Int) == 32) = false := beq_eq_false_iff_ne.2 (by omega)
                            have r2 : ((s[j + 1].toNat : Int) != 32) = true := by simp; omega
                            have r3 : ((s[j + 1].toNat : Int) == 9) = true := beq_iff_eq.2 (by omega)
                            have r4 : ((s[j + 1].toNat : Int) != 9) = false := by simp; omega
                            clear h5
                            go_wp2_with fail
                            go_round
                            case rel => exact ⟨_, j + 1, rfl, by go_num, by omega, by omega, by omega, HL⟩
                            case measure => simp [intOf]; omega
                        · have HL := Lib.hid hL
                          have l2 : decide (j + 1 < s.size) = true := decide_eq_true hn
                          have hb5 := s[j + 1].toNat_lt
                          have hbb2 : s[j + 1].toNat ≠ 32 ∧ s[j + 1].toNat ≠ 9 := by simpa [M.bB] using hb3
                          have r1 : ((s[j + 1].toNat : Int) == 32) = false := beq_eq_false_iff_ne.2 (by omega)
                          have r2 : ((s[j + 1].toNat : Int) != 32) = true := by simp; omega
                          have r3 : ((s[j + 1].toNat : Int) == 9) = false := beq_eq_false_iff_ne.2 (by omega)
                          have r4 : ((s[j + 1].toNat : Int) != 9) = true := by simp; omega
                          clear HQ hL h32 hb3 hbb2
                          go_wp2_with fail
                          go_round
                          case rel => exact ⟨_, j + 1, rfl, by go_num, by omega, by omega, by omega, HL⟩
                          case measure => simp [intOf]; omega
                      · have e32 : ((s[j].toNat : Int) == 32) = false := beq_eq_false_iff_ne.2 (by omega)
                        have e9 : ((s[j].toNat : Int) == 9) = true := beq_iff_eq.2 (by omega)
                        rcases HQ.out with ⟨p1, p2, hL⟩ | ⟨hn, p1, p2, hb3, hL⟩ | ⟨hn, p1, p2, hb3, hL⟩
                        · have HL := Lib.hid hL
                          clear HQ hL h9
                          go_wp2_with fail
                          go_round
                          case rel => exact ⟨_, j + 1, rfl, by go_num, by omega, by omega, by omega, HL⟩
                          case measure => simp [intOf]; omega
                        · have HL := Lib.hid hL
                          have l2 : decide (j + 1 < s.size) = true := decide_eq_true hn
                          have hb5 := s[j + 1].toNat_lt
                          have hbb2 : s[j + 1].toNat = 32 ∨ s[j + 1].toNat = 9 := by simpa [M.bB] using hb3
                          clear HQ hL h9 hb3
                          rcases hbb2 with h5 | h5
                          · have r1 : ((s[j + 1].toNat : Int) == 32) = true := beq_iff_eq.2 (by omega)
                            have r2 : ((s[j + 1].toNat : Int) != 32) = false := by simp; omega
                            clear h5
                            go_wp2_with fail
                            go_round
                            case rel => exact ⟨_, j + 1, rfl, by go_num, by omega, by omega, by omega, HL⟩
                            case measure => simp [intOf]; omega
                          · have r1 : ((s[j + 1].toNat : Int) == 32) = false := beq_eq_false_iff_ne.2 (by omega)
                            have r2 : ((s[j + 1].toNat : Int) != 32) = true := by simp; omega
                            have r3 : ((s[j + 1].toNat : Int) == 9) = true := beq_iff_eq.2 (by omega)
                            have r4 : ((s[j + 1].toNat : Int) != 9) = false := by simp; omega
                            clear h5
                            go_wp2_with fail
                            go_round
                            case rel => exact ⟨_, j + 1, rfl, by go_num, by omega, by omega, by omega, HL⟩
                            case measure => simp [intOf]; omega
                        · have HL := Lib.hid hL
                          have l2 : decide (j + 1 < s.size) = true := decide_eq_true hn
                          have hb5 := s[j + 1].toNat_lt
                          have hbb2 : s[j + 1].toNat ≠ 32 ∧ s[j + 1].toNat ≠ 9 := by simpa [M.bB] using hb3
                          have r1 : ((s[j + 1].toNat : Int) == 32) = false := beq_eq_false_iff_ne.2 (by omega)
                          have r2 : ((s[j + 1].toNat : Int) != 32) = true := by simp; omega
                          have r3 : ((s[j + 1].toNat : Int) == 9) = false := beq_eq_false_iff_ne.2 (by omega)
                          have r4 : ((s[j + 1].toNat : Int) != 9) = true := by simp; omega
                          clear HQ hL h9 hb3 hbb2
                          go_wp2_with fail
                          go_round
                          case rel => exact ⟨_, j + 1, rfl, by go_num, by omega, by omega, by omega, HL⟩
                          case measure => simp [intOf]; omega
                    · have l1 : decide (j < s.size) = true := decide_eq_true hjl
                      have hb2 := s[j].toNat_lt
                      have hbb2 : s[j].toNat ≠ 32 ∧ s[j].toNat ≠ 9 := by simpa [M.bB] using hbb
                      have e32 : ((s[j].toNat : Int) == 32) = false := beq_eq_false_iff_ne.2 (by omega)
                      have e9 : ((s[j].toNat : Int) == 9) = false := beq_eq_false_iff_ne.2 (by omega)
                      clear hst hbb hbb2
                      have hR2 : R = .tuple #[.string ⟨#[]⟩, .bool false] := e
                      clear e
                      subst hR2
                      go_wp2
                      go_ret2
                      exact ⟨rfl, BB⟩
                    · have c5 := fun W => cK k' hk' W
                      rw [e] at c5
                      have k0 : decide ((k' : Int) < 0) = false := decide_eq_false (by omega)
                      have hR3 : ∃ a o, R = .tuple #[a, o] := by
                        rw [← e]
                        cases M.aDay X (s.data.toList.drop k') with
                        | none => exact ⟨_, _, rfl⟩
                        | some Y =>
                          unfold clV; simp only; split
                          · cases M.zt Y <;> exact ⟨_, _, rfl⟩
                          · exact ⟨_, _, rfl⟩
                      obtain ⟨va, vo, hR3⟩ := hR3
                      rw [hR3] at c5
                      clear hst e cK
                      subst hR3
                      go_wp2_with fail
                      refine (c5 _).mono ?_
                      rintro r w6 ⟨rfl, hb6⟩
                      have hb7 := BB.trans (hb6.mono BB.size)
                      clear hb6 BB
                      go_wp2
                      go_ret2
                      exact ⟨rfl, hb7⟩
end Go.Proofs.YtipgipgehnhgkaaGreatDoor.S10
