/- Walk of targum/brk's Marker. -/
import Derived.Test.YtnmfiadljhbmiaaDoorWe
set_option linter.unusedVariables false
namespace Go.Proofs.YtnmfiadljhbmiaaDoor
open Go.RowKit

theorem ext3 (C : ByteArray) : (C.extract 0 3).toList = C.data.toList.take 3 := by rw [Lib.toList_data, Lib.extract_data]; simp

set_option maxRecDepth 100000 in
set_option maxHeartbeats 1000000 in
theorem marker_in (s : ByteArray) (a e x : Nat) (w : World) (h1 : a ≤ e) (h2 : e ≤ x) (h3 : x ≤ s.size) (hs : s.size ≤ 100000) :
    Calls Tryd.prog 20 #[.string s, .agg #[.int .i64 a, .int .i64 e, .int .i64 x]] w fun r w' => r = .returned (.int .i64 (mkL (cont s.data.toList a e))) ∧ Below w.heap.size w w' := by
  have c1 := fun w => within_in s a e x w h1 h2 h3 hs
  have hC := extract_cont s a e h1
  rw [← hC]
  have hsz : (s.extract a e).size = e - a := by rw [sz_list, hC, cont_length _ _ _ (by rw [← sz_list]; omega)]
  obtain ⟨C, hCe⟩ : ∃ C, s.extract a e = C := ⟨_, rfl⟩
  rw [hCe] at hsz ⊢
  simp only [hCe] at c1
  have hlen := sz_list C
  have hCs : C.size ≤ 100000 := by omega
  clear hC hCe hsz h1 h2 h3 hs
  obtain ⟨R, hR⟩ : ∃ R, mkL C.data.toList = R := ⟨_, rfl⟩
  rw [hR]
  by_cases k1 : C.size < 3
  · have d1 : decide ((C.size : Int) < 3) = true := by simp; omega
    obtain rfl : R = 0 := by rw [← hR]; unfold mkL; rw [if_pos (Or.inl (by omega))]
    clear hR k1 hlen
    go_enter Tryd.func20, Tryd.ntmps20
    go_wp2_with (go_at_call 33; refine (c1 _).mono ?_; rintro r w' ⟨rfl, hb⟩)
    go_ret
    exact ⟨rfl, ((Below.refl w.heap.size w).alloc (Nat.le_refl _) _).trans (hb.mono (by simp))⟩
  · have d1 : decide ((C.size : Int) < 3) = false := by simp; omega
    by_cases k2 : C.size = 3
    · have c2 := fun w => endsOrBlank_end C w
      rw [show ((C.size : Nat) : Int) = 3 by omega] at c2
      have hne : ¬ (C.data.toList.length < 3 ∨ (3 < C.data.toList.length ∧ blB (M.by8 C.data.toList 3) = false)) := by omega
      clear k1
      by_cases q1 : C.data.toList.take 3 = [45, 45, 45]
      · have t1 : ((C.extract 0 3).toList == [45, 45, 45]) = true := by rw [ext3, q1]; rfl
        obtain rfl : R = 1 := by rw [← hR]; unfold mkL; rw [if_neg hne, if_pos q1]
        clear hR hlen hne q1
        go_enter Tryd.func20, Tryd.ntmps20
        go_wp2_with (first | (go_at_call 33; refine (c1 _).mono ?_; rintro r w' ⟨rfl, hb⟩) | (go_at_call 38; refine (c2 _).mono ?_; rintro r w' ⟨rfl, rfl⟩))
        go_ret
        exact ⟨rfl, ((Below.refl w.heap.size w).alloc (Nat.le_refl _) _).trans (hb.mono (by simp))⟩
      · have t1 : ((C.extract 0 3).toList == [45, 45, 45]) = false := by rw [ext3]; simpa using q1
        by_cases q2 : C.data.toList.take 3 = [46, 46, 46]
        · have t2 : ((C.extract 0 3).toList == [46, 46, 46]) = true := by rw [ext3, q2]; rfl
          obtain rfl : R = 2 := by rw [← hR]; unfold mkL; rw [if_neg hne, if_neg q1, if_pos q2]
          clear hR hlen hne q1 q2
          go_enter Tryd.func20, Tryd.ntmps20
          go_wp2_with (first | (go_at_call 33; refine (c1 _).mono ?_; rintro r w' ⟨rfl, hb⟩) | (go_at_call 38; refine (c2 _).mono ?_; rintro r w' ⟨rfl, rfl⟩))
          go_ret
          exact ⟨rfl, ((Below.refl w.heap.size w).alloc (Nat.le_refl _) _).trans (hb.mono (by simp))⟩
        · have t2 : ((C.extract 0 3).toList == [46, 46, 46]) = false := by rw [ext3]; simpa using q2
          obtain rfl : R = 0 := by rw [← hR]; unfold mkL; rw [if_neg hne, if_neg q1, if_neg q2]
          clear hR hlen hne q1 q2
          go_enter Tryd.func20, Tryd.ntmps20
          go_wp2_with (first | (go_at_call 33; refine (c1 _).mono ?_; rintro r w' ⟨rfl, hb⟩) | (go_at_call 38; refine (c2 _).mono ?_; rintro r w' ⟨rfl, rfl⟩))
          go_ret
          exact ⟨rfl, ((Below.refl w.heap.size w).alloc (Nat.le_refl _) _).trans (hb.mono (by simp))⟩
    · have c2 := fun w => endsOrBlank_in C 3 w (by omega)
      have hk3 : 3 < C.size := by omega
      by_cases k3 : blB (M.by8 C.data.toList 3) = true
      · rw [k3] at c2
        have hne : ¬ (C.data.toList.length < 3 ∨ (3 < C.data.toList.length ∧ blB (M.by8 C.data.toList 3) = false)) := by rw [k3]; simp; omega
        clear k1 k2 k3
        by_cases q1 : C.data.toList.take 3 = [45, 45, 45]
        · have t1 : ((C.extract 0 3).toList == [45, 45, 45]) = true := by rw [ext3, q1]; rfl
          obtain rfl : R = 1 := by rw [← hR]; unfold mkL; rw [if_neg hne, if_pos q1]
          clear hR hlen hne q1
          go_enter Tryd.func20, Tryd.ntmps20
          go_wp2_with (first | (go_at_call 33; refine (c1 _).mono ?_; rintro r w' ⟨rfl, hb⟩) | (go_at_call 38; refine (c2 _).mono ?_; rintro r w' ⟨rfl, rfl⟩))
          go_ret
          exact ⟨rfl, ((Below.refl w.heap.size w).alloc (Nat.le_refl _) _).trans (hb.mono (by simp))⟩
        · have t1 : ((C.extract 0 3).toList == [45, 45, 45]) = false := by rw [ext3]; simpa using q1
          by_cases q2 : C.data.toList.take 3 = [46, 46, 46]
          · have t2 : ((C.extract 0 3).toList == [46, 46, 46]) = true := by rw [ext3, q2]; rfl
            obtain rfl : R = 2 := by rw [← hR]; unfold mkL; rw [if_neg hne, if_neg q1, if_pos q2]
            clear hR hlen hne q1 q2
            go_enter Tryd.func20, Tryd.ntmps20
            go_wp2_with (first | (go_at_call 33; refine (c1 _).mono ?_; rintro r w' ⟨rfl, hb⟩) | (go_at_call 38; refine (c2 _).mono ?_; rintro r w' ⟨rfl, rfl⟩))
            go_ret
            exact ⟨rfl, ((Below.refl w.heap.size w).alloc (Nat.le_refl _) _).trans (hb.mono (by simp))⟩
          · have t2 : ((C.extract 0 3).toList == [46, 46, 46]) = false := by rw [ext3]; simpa using q2
            obtain rfl : R = 0 := by rw [← hR]; unfold mkL; rw [if_neg hne, if_neg q1, if_neg q2]
            clear hR hlen hne q1 q2
            go_enter Tryd.func20, Tryd.ntmps20
            go_wp2_with (first | (go_at_call 33; refine (c1 _).mono ?_; rintro r w' ⟨rfl, hb⟩) | (go_at_call 38; refine (c2 _).mono ?_; rintro r w' ⟨rfl, rfl⟩))
            go_ret
            exact ⟨rfl, ((Below.refl w.heap.size w).alloc (Nat.le_refl _) _).trans (hb.mono (by simp))⟩
      · have k4 : blB (M.by8 C.data.toList 3) = false := by simpa using k3
        rw [k4] at c2
        obtain rfl : R = 0 := by rw [← hR]; unfold mkL; rw [if_pos (Or.inr ⟨by omega, k4⟩)]
        clear hR k1 k2 k3 k4 hlen
        go_enter Tryd.func20, Tryd.ntmps20
        go_wp2_with (first | (go_at_call 33; refine (c1 _).mono ?_; rintro r w' ⟨rfl, hb⟩) | (go_at_call 38; refine (c2 _).mono ?_; rintro r w' ⟨rfl, rfl⟩))
        go_ret
        exact ⟨rfl, ((Below.refl w.heap.size w).alloc (Nat.le_refl _) _).trans (hb.mono (by simp))⟩

set_option maxRecDepth 100000 in
set_option maxHeartbeats 1000000 in
theorem marker_out (s : ByteArray) (a e x : Int) (w : World) (h : inL s.size a e x = false) :
    Calls Tryd.prog 20 #[.string s, .agg #[.int .i64 a, .int .i64 e, .int .i64 x]] w fun r w' => r = .returned (.int .i64 0) ∧ Below w.heap.size w w' := by
  have c1 := fun w => within_out s a e x w h
  clear h
  go_enter Tryd.func20, Tryd.ntmps20
  go_wp2_with (go_at_call 33; refine (c1 _).mono ?_; rintro r w' ⟨rfl, hb⟩)
  go_ret
  exact ⟨rfl, ((Below.refl w.heap.size w).alloc (Nat.le_refl _) _).trans (hb.mono (by simp))⟩

theorem marker_any (s : ByteArray) (a e x : Int) (w : World) (hs : s.size ≤ 100000) :
    Calls Tryd.prog 20 #[.string s, .agg #[.int .i64 a, .int .i64 e, .int .i64 x]] w fun r w' => r = .returned (.int .i64 (mkZ s.data.toList a e x)) ∧ Below w.heap.size w w' := by
  unfold mkZ
  rw [← sz_list]
  by_cases h : inL s.size a e x = true
  · rw [if_pos h]
    have k := (inL_iff _ _ _ _).1 h
    obtain ⟨a, rfl⟩ := Int.eq_ofNat_of_zero_le (show 0 ≤ a by omega)
    obtain ⟨e, rfl⟩ := Int.eq_ofNat_of_zero_le (show 0 ≤ e by omega)
    obtain ⟨x, rfl⟩ := Int.eq_ofNat_of_zero_le (show 0 ≤ x by omega)
    exact marker_in s a e x w (by omega) (by omega) (by omega) hs
  · rw [if_neg h]
    exact marker_out s a e x w (by simpa using h)

end Go.Proofs.YtnmfiadljhbmiaaDoor
