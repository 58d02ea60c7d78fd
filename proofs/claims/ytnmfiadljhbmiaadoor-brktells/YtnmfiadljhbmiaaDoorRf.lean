/- Walks of the document's isLine, IsBlank, Indent, Blank, Marker (targumref1). -/
import Derived.Test.YtnmfiadljhbmiaaDoorWj
set_option linter.unusedVariables false
namespace Go.Proofs.YtnmfiadljhbmiaaDoor
open Go.RowKit

set_option maxRecDepth 100000 in
set_option maxHeartbeats 1000000 in
theorem isLine_any (s : ByteArray) (a e x : Int) (w : World) :
    Calls Tryd.prog 35 #[.string s, .agg #[.int .i64 a, .int .i64 e, .int .i64 x]] w fun r w' => r = .returned (.bool (inL s.size a e x)) ∧ Below w.heap.size w w' := by
  have hb := (Below.refl w.heap.size w).alloc (Nat.le_refl _) (.cells #[.int .i64 a, .int .i64 e, .int .i64 x] 23)
  have HB := Lib.hid hb
  clear hb
  by_cases g0 : 0 ≤ a
  · have d0 : decide (0 ≤ a) = true := by simpa using g0
    by_cases g1 : a ≤ e
    · have d1 : decide (a ≤ e) = true := by simpa using g1
      by_cases g2 : e ≤ x
      · have d2 : decide (e ≤ x) = true := by simpa using g2
        by_cases g3 : x ≤ (s.size : Int)
        · have d3 : decide (x ≤ (s.size : Int)) = true := by simpa using g3
          rw [show inL s.size a e x = true by rw [inL_iff]; exact ⟨g0, g1, g2, g3⟩]
          clear g0 g1 g2 g3
          go_enter Tryd.func35, Tryd.ntmps35
          go_wp2
          go_ret
          exact ⟨rfl, HB.out⟩
        · have d3 : decide (x ≤ (s.size : Int)) = false := by simpa using g3
          rw [show inL s.size a e x = false by unfold inL; rw [decide_eq_false_iff_not]; omega]
          clear g0 g1 g2 g3
          go_enter Tryd.func35, Tryd.ntmps35
          go_wp2
          go_ret
          exact ⟨rfl, HB.out⟩
      · have d2 : decide (e ≤ x) = false := by simpa using g2
        rw [show inL s.size a e x = false by unfold inL; rw [decide_eq_false_iff_not]; omega]
        clear g0 g1 g2
        go_enter Tryd.func35, Tryd.ntmps35
        go_wp2
        go_ret
        exact ⟨rfl, HB.out⟩
    · have d1 : decide (a ≤ e) = false := by simpa using g1
      rw [show inL s.size a e x = false by unfold inL; rw [decide_eq_false_iff_not]; omega]
      clear g0 g1
      go_enter Tryd.func35, Tryd.ntmps35
      go_wp2
      go_ret
      exact ⟨rfl, HB.out⟩
  · have d0 : decide (0 ≤ a) = false := by simpa using g0
    rw [show inL s.size a e x = false by unfold inL; rw [decide_eq_false_iff_not]; omega]
    clear g0
    go_enter Tryd.func35, Tryd.ntmps35
    go_wp2
    go_ret
    exact ⟨rfl, HB.out⟩

set_option maxRecDepth 100000 in
set_option maxHeartbeats 1000000 in
theorem isBlank_in (s : ByteArray) (i : Nat) (w : World) (hi : i < s.size) :
    Calls Tryd.prog 37 #[.string s, .int .i64 i] w fun r w' => r = .returned (.bool (blB (M.by8 s.data.toList i))) ∧ w = w' := by
  have g0 := getB s i hi
  have e0 : decide ((0 : Int) ≤ (i : Int)) = true := by simp
  have e1 : decide (i < s.size) = true := by simpa using hi
  rw [← g0]
  clear g0
  by_cases h1 : (s[i]'hi).toNat = 32
  · have d1 : (((s[i]'hi).toNat : Int) == 32) = true := by simp; omega
    rw [show blB (s[i]'hi).toNat = true by rw [h1]; rfl]
    clear h1
    go_enter Tryd.func37, Tryd.ntmps37
    go_wp2
    go_ret
    exact ⟨rfl, rfl⟩
  · have d1 : (((s[i]'hi).toNat : Int) == 32) = false := by simp; omega
    by_cases h2 : (s[i]'hi).toNat = 9
    · have d2 : (((s[i]'hi).toNat : Int) == 9) = true := by simp; omega
      rw [show blB (s[i]'hi).toNat = true by rw [h2]; rfl]
      clear h1 h2
      go_enter Tryd.func37, Tryd.ntmps37
      go_wp2
      go_ret
      exact ⟨rfl, rfl⟩
    · have d2 : (((s[i]'hi).toNat : Int) == 9) = false := by simp; omega
      rw [show blB (s[i]'hi).toNat = false by unfold blB; simp; omega]
      clear h1 h2
      go_enter Tryd.func37, Tryd.ntmps37
      go_wp2
      go_ret
      exact ⟨rfl, rfl⟩

theorem by8_beq (b : UInt8) (n : Nat) (hn : n < 256) : (b == UInt8.ofNat n) = decide (b.toNat = n) := by
  rw [Bool.eq_iff_iff, beq_iff_eq, decide_eq_true_eq, ← UInt8.toNat_inj, UInt8.toNat_ofNat']
  omega
theorem ind_of (n : Nat) : ∀ C : List UInt8, n ≤ C.length → (∀ j, j < n → M.by8 C j = 32) → (n = C.length ∨ M.by8 C n ≠ 32) → indL C = n := by
  induction n with
  | zero =>
    intro C h1 h2 h3
    cases C with
    | nil => rfl
    | cons b r =>
      unfold indL
      rcases h3 with h | h
      · simp at h
      · rw [M.by8_0] at h
        rw [List.takeWhile_cons_of_neg (by rw [show (32 : UInt8) = UInt8.ofNat 32 from rfl, by8_beq b 32 (by omega)]; simpa using h)]
        rfl
  | succ n ih =>
    intro C h1 h2 h3
    cases C with
    | nil => simp at h1
    | cons b r =>
      have h0 := h2 0 (by omega)
      rw [M.by8_0] at h0
      have hs : ∀ j, M.by8 (b :: r) (j + 1) = M.by8 r j := by intro j; simp [M.by8]
      have q := ih r (by simpa using h1) (fun j hj => by rw [← hs]; exact h2 (j + 1) (by omega)) (by
        rcases h3 with h | h
        · left; simpa using h
        · right; rw [← hs]; exact h)
      unfold indL at q ⊢
      rw [List.takeWhile_cons_of_pos (by rw [show (32 : UInt8) = UInt8.ofNat 32 from rfl, by8_beq b 32 (by omega)]; simpa using h0), List.length_cons, q]
theorem blL_iff (C : List UInt8) : blL C = true ↔ ∀ j, j < C.length → blB (M.by8 C j) = true := by
  unfold blL
  rw [List.all_eq_true]
  have key : ∀ b : UInt8, (b == 32 || b == 9) = blB b.toNat := by
    intro b
    rw [show (32 : UInt8) = UInt8.ofNat 32 from rfl, show (9 : UInt8) = UInt8.ofNat 9 from rfl, by8_beq b 32 (by omega), by8_beq b 9 (by omega)]
    rfl
  constructor
  · intro h j hj
    have := h C[j] (List.getElem_mem hj)
    rw [key] at this
    unfold M.by8
    rw [List.getD_eq_getElem?_getD, List.getElem?_eq_getElem hj, Option.getD_some]
    exact this
  · intro h b hb
    obtain ⟨j, hj, rfl⟩ := List.getElem_of_mem hb
    have := h j hj
    unfold M.by8 at this
    rw [List.getD_eq_getElem?_getD, List.getElem?_eq_getElem hj, Option.getD_some] at this
    rw [key]; exact this

set_option maxRecDepth 100000 in
set_option maxHeartbeats 1000000 in
theorem rindent_in (s : ByteArray) (a e x : Nat) (w : World) (h1 : a ≤ e) (h2 : e ≤ x) (h3 : x ≤ s.size) (hs : s.size ≤ 100000) :
    Calls Tryd.prog 17 #[.string s, .agg #[.int .i64 a, .int .i64 e, .int .i64 x]] w fun r w' => r = .returned (.int .i64 (indL (cont s.data.toList a e) : Nat)) ∧ Below w.heap.size w w' := by
  have c1 := fun w => isLine_any s a e x w
  simp only [show inL s.size a e x = true by rw [inL_iff]; omega] at c1
  have hL := cont_length s.data.toList a e (by rw [← sz_list]; omega)
  have HL := Lib.hid hL
  have HBY := Lib.hid (fun j h => cont_by8 s.data.toList a e j h)
  obtain ⟨R, hR⟩ : ∃ R, indL (cont s.data.toList a e) = R := ⟨_, rfl⟩
  rw [hR]
  have HR := Lib.hid hR
  clear hR hL
  have he : e ≤ s.size := by omega
  clear h2 h3
  go_enter Tryd.func17, Tryd.ntmps17
  go_wp2_with fail
  refine (c1 _).mono ?_
  rintro r w2 ⟨rfl, b2⟩
  have y0 : w2.cell? ⟨w.heap.size, 0, none⟩ = some (.int .i64 a) := (b2.cell (p := ⟨w.heap.size, 0, none⟩) (by simp)).trans (by simp)
  have y1 : w2.cell? ⟨w.heap.size, 1, none⟩ = some (.int .i64 e) := (b2.cell (p := ⟨w.heap.size, 1, none⟩) (by simp)).trans (by simp)
  have B2 : Below w.heap.size w w2 := ((Below.refl w.heap.size w).alloc (Nat.le_refl _) _).trans (b2.mono (by simp))
  clear b2 c1
  go_wp2_with fail
  go_loop [5] (fun v => ∃ n : Nat, v = .int .i64 n ∧ a + n ≤ e ∧ Hid (∀ j, j < n → M.by8 (cont s.data.toList a e) j = 32)) (fun v => e - a - (intOf v).toNat)
  case atStart => exact ⟨0, rfl, by omega, (fun j hj => absurd hj (by omega))⟩
  case round =>
    obtain ⟨n, rfl, hn, HN⟩ := hrel
    by_cases hlt : a + n < e
    · have d1 : decide (a + n < e) = true := by simpa using hlt
      have hi : a + n < s.size := by omega
      have g := getB s (a + n) hi
      have hby := HBY.out n hlt
      by_cases h32 : M.by8 s.data.toList (a + n) = 32
      · have d2 : (((s[a + n]'hi).toNat : Int) == 32) = true := by simp; omega
        have H32 := Lib.hid (hby.trans h32)
        clear g hby h32
        go_wp2
        go_round
        case rel => exact ⟨n + 1, by go_num, by omega, (fun j hj => by
          by_cases hjn : j = n
          · rw [hjn]; exact H32.out
          · exact HN.out j (by omega))⟩
        case measure => simp [intOf]; omega
      · have d2 : (((s[a + n]'hi).toNat : Int) == 32) = false := by simp; omega
        have hfin := ind_of n (cont s.data.toList a e) (by rw [HL.out]; omega) HN.out (Or.inr (by rw [hby]; exact h32))
        rw [HR.out] at hfin
        subst hfin
        clear g hby h32
        go_wp2
        go_ret
        exact ⟨rfl, B2⟩
    · have d1 : decide ((a : Int) + (n : Int) < (e : Int)) = false := by simp; omega
      have d0 : e ≤ a + n := by omega
      have hfin := ind_of n (cont s.data.toList a e) (by rw [HL.out]; omega) HN.out (Or.inl (by rw [HL.out]; omega))
      rw [HR.out] at hfin
      subst hfin
      clear hlt
      go_wp2
      go_ret
      exact ⟨rfl, B2⟩

set_option maxRecDepth 100000 in
set_option maxHeartbeats 1000000 in
theorem rindent_out (s : ByteArray) (a e x : Int) (w : World) (h : inL s.size a e x = false) :
    Calls Tryd.prog 17 #[.string s, .agg #[.int .i64 a, .int .i64 e, .int .i64 x]] w fun r w' => r = .returned (.int .i64 0) ∧ Below w.heap.size w w' := by
  have c1 := fun w => isLine_any s a e x w
  simp only [h] at c1
  clear h
  go_enter Tryd.func17, Tryd.ntmps17
  go_wp2_with fail
  refine (c1 _).mono ?_
  rintro r w2 ⟨rfl, b2⟩
  go_wp2
  go_ret
  exact ⟨rfl, ((Below.refl w.heap.size w).alloc (Nat.le_refl _) _).trans (b2.mono (by simp))⟩
theorem rindent_any (s : ByteArray) (a e x : Int) (w : World) (hs : s.size ≤ 100000) :
    Calls Tryd.prog 17 #[.string s, .agg #[.int .i64 a, .int .i64 e, .int .i64 x]] w fun r w' => r = .returned (.int .i64 (indZ s.data.toList a e x)) ∧ Below w.heap.size w w' := by
  unfold indZ
  rw [← sz_list]
  by_cases h : inL s.size a e x = true
  · rw [if_pos h]
    have k := (inL_iff _ _ _ _).1 h
    obtain ⟨a, rfl⟩ := Int.eq_ofNat_of_zero_le (show 0 ≤ a by omega)
    obtain ⟨e, rfl⟩ := Int.eq_ofNat_of_zero_le (show 0 ≤ e by omega)
    obtain ⟨x, rfl⟩ := Int.eq_ofNat_of_zero_le (show 0 ≤ x by omega)
    exact rindent_in s a e x w (by omega) (by omega) (by omega) hs
  · rw [if_neg h]
    exact rindent_out s a e x w (by simpa using h)

set_option maxRecDepth 100000 in
set_option maxHeartbeats 1000000 in
theorem rblank_in (s : ByteArray) (a e x : Nat) (w : World) (h1 : a ≤ e) (h2 : e ≤ x) (h3 : x ≤ s.size) (hs : s.size ≤ 100000) :
    Calls Tryd.prog 19 #[.string s, .agg #[.int .i64 a, .int .i64 e, .int .i64 x]] w fun r w' => r = .returned (.bool (blL (cont s.data.toList a e))) ∧ Below w.heap.size w w' := by
  have c1 := fun w => isLine_any s a e x w
  simp only [show inL s.size a e x = true by rw [inL_iff]; omega] at c1
  have hL := cont_length s.data.toList a e (by rw [← sz_list]; omega)
  have HL := Lib.hid hL
  have HBY := Lib.hid (fun j h => cont_by8 s.data.toList a e j h)
  obtain ⟨R, hR⟩ : ∃ R, blL (cont s.data.toList a e) = R := ⟨_, rfl⟩
  rw [hR]
  have HR := Lib.hid hR
  clear hR hL
  have he : e ≤ s.size := by omega
  clear h2 h3
  go_enter Tryd.func19, Tryd.ntmps19
  go_wp2_with fail
  refine (c1 _).mono ?_
  rintro r w2 ⟨rfl, b2⟩
  have y0 : w2.cell? ⟨w.heap.size, 0, none⟩ = some (.int .i64 a) := (b2.cell (p := ⟨w.heap.size, 0, none⟩) (by simp)).trans (by simp)
  have y1 : w2.cell? ⟨w.heap.size, 1, none⟩ = some (.int .i64 e) := (b2.cell (p := ⟨w.heap.size, 1, none⟩) (by simp)).trans (by simp)
  have B2 : Below w.heap.size w w2 := ((Below.refl w.heap.size w).alloc (Nat.le_refl _) _).trans (b2.mono (by simp))
  clear b2 c1
  go_wp2_with fail
  go_loop [5] (fun v => ∃ i : Nat, v = .int .i64 i ∧ a ≤ i ∧ i ≤ e ∧ Hid (∀ j, a + j < i → blB (M.by8 (cont s.data.toList a e) j) = true)) (fun v => e - (intOf v).toNat)
  case atStart => exact ⟨a, rfl, by omega, by omega, (fun j hj => absurd hj (by omega))⟩
  case round =>
    obtain ⟨i, rfl, hi1, hi2, HN⟩ := hrel
    by_cases hlt : i < e
    · have d1 : decide (i < e) = true := by simpa using hlt
      have hi : i < s.size := by omega
      have c2 := isBlank_in s i w2 hi
      have hby := HBY.out (i - a) (by omega)
      rw [show a + (i - a) = i by omega] at hby
      rw [← hby] at c2
      cases hb : blB (M.by8 (cont s.data.toList a e) (i - a)) with
      | true =>
        rw [hb] at c2
        have HB := Lib.hid hb
        clear hb hby
        go_wp2_with fail
        refine c2.mono ?_
        rintro r w' ⟨rfl, rfl⟩
        go_wp2
        go_round
        case rel => exact ⟨i + 1, by go_num, by omega, by omega, (fun j hj => by
          by_cases hji : j = i - a
          · rw [hji]; exact HB.out
          · exact HN.out j (by omega))⟩
        case measure => simp [intOf]; omega
      | false =>
        rw [hb] at c2
        have hfin : R = false := by
          cases hRR : R with
          | false => rfl
          | true =>
            have := (blL_iff _).1 (HR.out.trans hRR) (i - a) (by rw [HL.out]; omega)
            rw [hb] at this; cases this
        subst hfin
        clear hb hby
        go_wp2_with fail
        refine c2.mono ?_
        rintro r w' ⟨rfl, rfl⟩
        go_wp2
        go_ret
        exact ⟨rfl, B2⟩
    · obtain rfl : i = e := by omega
      have d1 : decide (i < i) = false := by simp
      have hfin : R = true := by
        rw [← HR.out, blL_iff]
        intro j hj
        rw [HL.out] at hj
        exact HN.out j (by omega)
      subst hfin
      clear hlt
      go_wp2
      go_ret
      exact ⟨rfl, B2⟩

set_option maxRecDepth 100000 in
set_option maxHeartbeats 1000000 in
theorem rblank_out (s : ByteArray) (a e x : Int) (w : World) (h : inL s.size a e x = false) :
    Calls Tryd.prog 19 #[.string s, .agg #[.int .i64 a, .int .i64 e, .int .i64 x]] w fun r w' => r = .returned (.bool false) ∧ Below w.heap.size w w' := by
  have c1 := fun w => isLine_any s a e x w
  simp only [h] at c1
  clear h
  go_enter Tryd.func19, Tryd.ntmps19
  go_wp2_with fail
  refine (c1 _).mono ?_
  rintro r w2 ⟨rfl, b2⟩
  go_wp2
  go_ret
  exact ⟨rfl, ((Below.refl w.heap.size w).alloc (Nat.le_refl _) _).trans (b2.mono (by simp))⟩
theorem rblank_any (s : ByteArray) (a e x : Int) (w : World) (hs : s.size ≤ 100000) :
    Calls Tryd.prog 19 #[.string s, .agg #[.int .i64 a, .int .i64 e, .int .i64 x]] w fun r w' => r = .returned (.bool (blZ s.data.toList a e x)) ∧ Below w.heap.size w w' := by
  unfold blZ
  rw [← sz_list]
  by_cases h : inL s.size a e x = true
  · rw [h, Bool.true_and]
    have k := (inL_iff _ _ _ _).1 h
    obtain ⟨a, rfl⟩ := Int.eq_ofNat_of_zero_le (show 0 ≤ a by omega)
    obtain ⟨e, rfl⟩ := Int.eq_ofNat_of_zero_le (show 0 ≤ e by omega)
    obtain ⟨x, rfl⟩ := Int.eq_ofNat_of_zero_le (show 0 ≤ x by omega)
    exact rblank_in s a e x w (by omega) (by omega) (by omega) hs
  · rw [show inL s.size a e x = false by simpa using h, Bool.false_and]
    exact rblank_out s a e x w (by simpa using h)

end Go.Proofs.YtnmfiadljhbmiaaDoor
