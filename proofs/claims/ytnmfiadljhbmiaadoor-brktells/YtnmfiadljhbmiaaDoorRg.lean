/- Walk of the document's Marker (targumref1). -/
import Derived.Test.YtnmfiadljhbmiaaDoorRf
set_option linter.unusedVariables false
namespace Go.Proofs.YtnmfiadljhbmiaaDoor
open Go.RowKit

set_option maxRecDepth 100000 in
set_option maxHeartbeats 1000000 in
theorem rmarker_in (s : ByteArray) (a e x : Nat) (w : World) (h1 : a ≤ e) (h2 : e ≤ x) (h3 : x ≤ s.size) (hs : s.size ≤ 100000) :
    Calls Tryd.prog 21 #[.string s, .agg #[.int .i64 a, .int .i64 e, .int .i64 x]] w fun r w' => r = .returned (.int .i64 (mkL (cont s.data.toList a e))) ∧ Below w.heap.size w w' := by
  have c1 := fun w => isLine_any s a e x w
  simp only [show inL s.size a e x = true by rw [inL_iff]; omega] at c1
  have hL := cont_length s.data.toList a e (by rw [← sz_list]; omega)
  obtain ⟨R, hR⟩ : ∃ R, mkL (cont s.data.toList a e) = R := ⟨_, rfl⟩
  rw [hR]
  have he : e ≤ s.size := by omega
  clear h2 h3
  by_cases k1 : e - a < 3
  · have d1 : decide ((e : Int) - (a : Int) < 3) = true := by simp; omega
    obtain rfl : R = 0 := by rw [← hR]; unfold mkL; rw [if_pos (Or.inl (by omega))]
    clear hR hL
    go_enter Tryd.func21, Tryd.ntmps21
    go_wp2_with fail
    refine (c1 _).mono ?_
    rintro r w2 ⟨rfl, b2⟩
    have y0 : w2.cell? ⟨w.heap.size, 0, none⟩ = some (.int .i64 a) := (b2.cell (p := ⟨w.heap.size, 0, none⟩) (by simp)).trans (by simp)
    have y1 : w2.cell? ⟨w.heap.size, 1, none⟩ = some (.int .i64 e) := (b2.cell (p := ⟨w.heap.size, 1, none⟩) (by simp)).trans (by simp)
    have B2 : Below w.heap.size w w2 := ((Below.refl w.heap.size w).alloc (Nat.le_refl _) _).trans (b2.mono (by simp))
    clear b2 c1
    go_wp2
    go_ret
    exact ⟨rfl, B2⟩
  · have d1 : decide ((e : Int) - (a : Int) < 3) = false := by simp; omega
    have ha3 : a + 3 ≤ e := by omega
    have hX : (s.extract a (a + 3)).toList = (cont s.data.toList a e).take 3 := by
      rw [Lib.toList_data, Lib.extract_data]
      unfold cont
      rw [List.take_take, show a + 3 - a = 3 by omega, show min 3 (e - a) = 3 by omega]
    by_cases k2 : e - a = 3
    · have d2 : decide ((3 : Int) < (e : Int) - (a : Int)) = false := by simp; omega
      have hne : ¬ ((cont s.data.toList a e).length < 3 ∨ (3 < (cont s.data.toList a e).length ∧ blB (M.by8 (cont s.data.toList a e) 3) = false)) := by omega
      clear hL k1 k2
      by_cases q1 : (cont s.data.toList a e).take 3 = [45, 45, 45]
      · have t1 : ((s.extract a (a + 3)).toList == [45, 45, 45]) = true := by rw [hX, q1]; rfl
        obtain rfl : R = 1 := by rw [← hR]; unfold mkL; rw [if_neg hne, if_pos q1]
        clear hR hne q1 hX
        go_enter Tryd.func21, Tryd.ntmps21
        go_wp2_with fail
        refine (c1 _).mono ?_
        rintro r w2 ⟨rfl, b2⟩
        have y0 : w2.cell? ⟨w.heap.size, 0, none⟩ = some (.int .i64 a) := (b2.cell (p := ⟨w.heap.size, 0, none⟩) (by simp)).trans (by simp)
        have y1 : w2.cell? ⟨w.heap.size, 1, none⟩ = some (.int .i64 e) := (b2.cell (p := ⟨w.heap.size, 1, none⟩) (by simp)).trans (by simp)
        have B2 : Below w.heap.size w w2 := ((Below.refl w.heap.size w).alloc (Nat.le_refl _) _).trans (b2.mono (by simp))
        clear b2 c1
        go_wp2
        go_ret
        exact ⟨rfl, B2⟩
      · have t1 : ((s.extract a (a + 3)).toList == [45, 45, 45]) = false := by rw [hX]; simpa using q1
        by_cases q2 : (cont s.data.toList a e).take 3 = [46, 46, 46]
        · have t2 : ((s.extract a (a + 3)).toList == [46, 46, 46]) = true := by rw [hX, q2]; rfl
          obtain rfl : R = 2 := by rw [← hR]; unfold mkL; rw [if_neg hne, if_neg q1, if_pos q2]
          clear hR hne q1 q2 hX
          go_enter Tryd.func21, Tryd.ntmps21
          go_wp2_with fail
          refine (c1 _).mono ?_
          rintro r w2 ⟨rfl, b2⟩
          have y0 : w2.cell? ⟨w.heap.size, 0, none⟩ = some (.int .i64 a) := (b2.cell (p := ⟨w.heap.size, 0, none⟩) (by simp)).trans (by simp)
          have y1 : w2.cell? ⟨w.heap.size, 1, none⟩ = some (.int .i64 e) := (b2.cell (p := ⟨w.heap.size, 1, none⟩) (by simp)).trans (by simp)
          have B2 : Below w.heap.size w w2 := ((Below.refl w.heap.size w).alloc (Nat.le_refl _) _).trans (b2.mono (by simp))
          clear b2 c1
          go_wp2
          go_ret
          exact ⟨rfl, B2⟩
        · have t2 : ((s.extract a (a + 3)).toList == [46, 46, 46]) = false := by rw [hX]; simpa using q2
          obtain rfl : R = 0 := by rw [← hR]; unfold mkL; rw [if_neg hne, if_neg q1, if_neg q2]
          clear hR hne q1 q2 hX
          go_enter Tryd.func21, Tryd.ntmps21
          go_wp2_with fail
          refine (c1 _).mono ?_
          rintro r w2 ⟨rfl, b2⟩
          have y0 : w2.cell? ⟨w.heap.size, 0, none⟩ = some (.int .i64 a) := (b2.cell (p := ⟨w.heap.size, 0, none⟩) (by simp)).trans (by simp)
          have y1 : w2.cell? ⟨w.heap.size, 1, none⟩ = some (.int .i64 e) := (b2.cell (p := ⟨w.heap.size, 1, none⟩) (by simp)).trans (by simp)
          have B2 : Below w.heap.size w w2 := ((Below.refl w.heap.size w).alloc (Nat.le_refl _) _).trans (b2.mono (by simp))
          clear b2 c1
          go_wp2
          go_ret
          exact ⟨rfl, B2⟩
    · have d2 : decide ((3 : Int) < (e : Int) - (a : Int)) = true := by simp; omega
      have c2 := fun w => isBlank_in s (a + 3) w (by omega)
      have hby := cont_by8 s.data.toList a e 3 (by omega)
      rw [← hby] at c2
      clear hby
      simp only [show (((a + 3 : Nat) : Int)) = (a : Int) + 3 by omega] at c2
      by_cases k3 : blB (M.by8 (cont s.data.toList a e) 3) = true
      · rw [k3] at c2
        have hne : ¬ ((cont s.data.toList a e).length < 3 ∨ (3 < (cont s.data.toList a e).length ∧ blB (M.by8 (cont s.data.toList a e) 3) = false)) := by rw [k3]; simp; omega
        clear hL k1 k2 k3
        by_cases q1 : (cont s.data.toList a e).take 3 = [45, 45, 45]
        · have t1 : ((s.extract a (a + 3)).toList == [45, 45, 45]) = true := by rw [hX, q1]; rfl
          obtain rfl : R = 1 := by rw [← hR]; unfold mkL; rw [if_neg hne, if_pos q1]
          clear hR hne q1 hX
          go_enter Tryd.func21, Tryd.ntmps21
          go_wp2_with fail
          refine (c1 _).mono ?_
          rintro r w2 ⟨rfl, b2⟩
          have y0 : w2.cell? ⟨w.heap.size, 0, none⟩ = some (.int .i64 a) := (b2.cell (p := ⟨w.heap.size, 0, none⟩) (by simp)).trans (by simp)
          have y1 : w2.cell? ⟨w.heap.size, 1, none⟩ = some (.int .i64 e) := (b2.cell (p := ⟨w.heap.size, 1, none⟩) (by simp)).trans (by simp)
          have B2 : Below w.heap.size w w2 := ((Below.refl w.heap.size w).alloc (Nat.le_refl _) _).trans (b2.mono (by simp))
          clear b2 c1
          go_wp2_with fail
          refine (c2 _).mono ?_
          rintro r w' ⟨rfl, rfl⟩
          go_wp2
          go_ret
          exact ⟨rfl, B2⟩
        · have t1 : ((s.extract a (a + 3)).toList == [45, 45, 45]) = false := by rw [hX]; simpa using q1
          by_cases q2 : (cont s.data.toList a e).take 3 = [46, 46, 46]
          · have t2 : ((s.extract a (a + 3)).toList == [46, 46, 46]) = true := by rw [hX, q2]; rfl
            obtain rfl : R = 2 := by rw [← hR]; unfold mkL; rw [if_neg hne, if_neg q1, if_pos q2]
            clear hR hne q1 q2 hX
            go_enter Tryd.func21, Tryd.ntmps21
            go_wp2_with fail
            refine (c1 _).mono ?_
            rintro r w2 ⟨rfl, b2⟩
            have y0 : w2.cell? ⟨w.heap.size, 0, none⟩ = some (.int .i64 a) := (b2.cell (p := ⟨w.heap.size, 0, none⟩) (by simp)).trans (by simp)
            have y1 : w2.cell? ⟨w.heap.size, 1, none⟩ = some (.int .i64 e) := (b2.cell (p := ⟨w.heap.size, 1, none⟩) (by simp)).trans (by simp)
            have B2 : Below w.heap.size w w2 := ((Below.refl w.heap.size w).alloc (Nat.le_refl _) _).trans (b2.mono (by simp))
            clear b2 c1
            go_wp2_with fail
            refine (c2 _).mono ?_
            rintro r w' ⟨rfl, rfl⟩
            go_wp2
            go_ret
            exact ⟨rfl, B2⟩
          · have t2 : ((s.extract a (a + 3)).toList == [46, 46, 46]) = false := by rw [hX]; simpa using q2
            obtain rfl : R = 0 := by rw [← hR]; unfold mkL; rw [if_neg hne, if_neg q1, if_neg q2]
            clear hR hne q1 q2 hX
            go_enter Tryd.func21, Tryd.ntmps21
            go_wp2_with fail
            refine (c1 _).mono ?_
            rintro r w2 ⟨rfl, b2⟩
            have y0 : w2.cell? ⟨w.heap.size, 0, none⟩ = some (.int .i64 a) := (b2.cell (p := ⟨w.heap.size, 0, none⟩) (by simp)).trans (by simp)
            have y1 : w2.cell? ⟨w.heap.size, 1, none⟩ = some (.int .i64 e) := (b2.cell (p := ⟨w.heap.size, 1, none⟩) (by simp)).trans (by simp)
            have B2 : Below w.heap.size w w2 := ((Below.refl w.heap.size w).alloc (Nat.le_refl _) _).trans (b2.mono (by simp))
            clear b2 c1
            go_wp2_with fail
            refine (c2 _).mono ?_
            rintro r w' ⟨rfl, rfl⟩
            go_wp2
            go_ret
            exact ⟨rfl, B2⟩
      · have k4 : blB (M.by8 (cont s.data.toList a e) 3) = false := by simpa using k3
        rw [k4] at c2
        obtain rfl : R = 0 := by rw [← hR]; unfold mkL; rw [if_pos (Or.inr ⟨by omega, k4⟩)]
        clear hR hL k1 k2 k3 k4 hX
        go_enter Tryd.func21, Tryd.ntmps21
        go_wp2_with fail
        refine (c1 _).mono ?_
        rintro r w2 ⟨rfl, b2⟩
        have y0 : w2.cell? ⟨w.heap.size, 0, none⟩ = some (.int .i64 a) := (b2.cell (p := ⟨w.heap.size, 0, none⟩) (by simp)).trans (by simp)
        have y1 : w2.cell? ⟨w.heap.size, 1, none⟩ = some (.int .i64 e) := (b2.cell (p := ⟨w.heap.size, 1, none⟩) (by simp)).trans (by simp)
        have B2 : Below w.heap.size w w2 := ((Below.refl w.heap.size w).alloc (Nat.le_refl _) _).trans (b2.mono (by simp))
        clear b2 c1
        go_wp2_with fail
        refine (c2 _).mono ?_
        rintro r w' ⟨rfl, rfl⟩
        go_wp2
        go_ret
        exact ⟨rfl, B2⟩

set_option maxRecDepth 100000 in
set_option maxHeartbeats 1000000 in
theorem rmarker_out (s : ByteArray) (a e x : Int) (w : World) (h : inL s.size a e x = false) :
    Calls Tryd.prog 21 #[.string s, .agg #[.int .i64 a, .int .i64 e, .int .i64 x]] w fun r w' => r = .returned (.int .i64 0) ∧ Below w.heap.size w w' := by
  have c1 := fun w => isLine_any s a e x w
  simp only [h] at c1
  clear h
  go_enter Tryd.func21, Tryd.ntmps21
  go_wp2_with fail
  refine (c1 _).mono ?_
  rintro r w2 ⟨rfl, b2⟩
  go_wp2
  go_ret
  exact ⟨rfl, ((Below.refl w.heap.size w).alloc (Nat.le_refl _) _).trans (b2.mono (by simp))⟩
theorem rmarker_any (s : ByteArray) (a e x : Int) (w : World) (hs : s.size ≤ 100000) :
    Calls Tryd.prog 21 #[.string s, .agg #[.int .i64 a, .int .i64 e, .int .i64 x]] w fun r w' => r = .returned (.int .i64 (mkZ s.data.toList a e x)) ∧ Below w.heap.size w w' := by
  unfold mkZ
  rw [← sz_list]
  by_cases h : inL s.size a e x = true
  · rw [if_pos h]
    have k := (inL_iff _ _ _ _).1 h
    obtain ⟨a, rfl⟩ := Int.eq_ofNat_of_zero_le (show 0 ≤ a by omega)
    obtain ⟨e, rfl⟩ := Int.eq_ofNat_of_zero_le (show 0 ≤ e by omega)
    obtain ⟨x, rfl⟩ := Int.eq_ofNat_of_zero_le (show 0 ≤ x by omega)
    exact rmarker_in s a e x w (by omega) (by omega) (by omega) hs
  · rw [if_neg h]
    exact rmarker_out s a e x w (by simpa using h)

end Go.Proofs.YtnmfiadljhbmiaaDoor
