/- Walk of the document's Break. -/
import Derived.Test.YthbmppkngaifmaaRc
import Derived.Test.YthbmppkngaifmaaWb
set_option linter.unusedVariables false
namespace Go.Proofs.Ythbmppkngaifmaa
open Go.RowKit

set_option maxRecDepth 100000 in
set_option maxHeartbeats 2000000 in
theorem rbreak_in (v : Int) (s : ByteArray) (i : Nat) (w : World) (hi : i < s.size) (hs : s.size ≤ 100000) :
    Calls Try.prog 21 #[.int .i64 v, .string s, .int .i64 i] w fun e w' => e = .returned (.int .i64 (M.brkN (isOld v) (s.data.toList.drop i) : Nat)) ∧ w = w' := by
  have g0 := getB s i hi
  have i0 : decide ((i : Int) < 0) = false := by simp
  have i1 : decide (s.size ≤ i) = false := by simp; omega
  have b0 : M.by8 (s.data.toList.drop i) 0 = M.by8 s.data.toList i := by rw [M.by8_drop, Nat.add_zero]
  have hbz : ((s[i]'hi).toNat : Int) < 256 := by have := M.by8_lt s.data.toList i; omega
  have b1 : M.by8 (s.data.toList.drop i) 1 = M.by8 s.data.toList (i + 1) := by rw [M.by8_drop]
  have c1 := rnext_any s i w hi hs
  obtain ⟨R, hR⟩ : ∃ R, M.brkN (isOld v) (s.data.toList.drop i) = R := ⟨_, rfl⟩
  rw [hR]
  by_cases h13 : M.by8 s.data.toList i = 13
  · have d13 : (((s[i]'hi).toNat : Int) == 13) = true := by simp; omega
    have d10 : (((s[i]'hi).toNat : Int) == 10) = false := by simp; omega
    by_cases hl : i + 1 < s.size
    · have dl : decide (i + 1 < s.size) = true := by simpa using hl
      have g1 := getB s (i + 1) hl
      by_cases h10 : M.by8 s.data.toList (i + 1) = 10
      · have e10 : (((s[i + 1]'hl).toNat : Int) == 10) = true := by simp; omega
        have hfin : R = 2 := by rw [← hR]; unfold M.brkN; rw [if_pos (by omega)]
        subst hfin
        clear hR b0 b1 g0 g1 h13 h10 hbz c1
        go_enter Try.func21, Try.ntmps21
        go_wp2
        go_ret
        exact ⟨rfl, rfl⟩
      · have e10 : (((s[i + 1]'hl).toNat : Int) == 10) = false := by simp; omega
        have hfin : R = 1 := by rw [← hR]; unfold M.brkN; rw [if_neg (by omega), if_pos (by omega)]
        subst hfin
        clear hR b0 b1 g0 g1 h13 h10 hbz c1
        go_enter Try.func21, Try.ntmps21
        go_wp2
        all_goals
          go_ret
          first | exact ⟨rfl, rfl⟩ | (exfalso; simp_all)
    · have dl : decide ((i : Int) + 1 < (s.size : Int)) = false := by simp; omega
      have dk : s.size ≤ i + 1 := by omega
      have hz := M.by8_out s.data.toList (i + 1) (by rw [← sz_list]; omega)
      have hfin : R = 1 := by rw [← hR]; unfold M.brkN; rw [if_neg (by omega), if_pos (by omega)]
      subst hfin
      clear hR b0 b1 g0 h13 hbz c1 hz hl
      go_enter Try.func21, Try.ntmps21
      go_wp2
      go_ret
      exact ⟨rfl, rfl⟩
  · have d13 : (((s[i]'hi).toNat : Int) == 13) = false := by simp; omega
    by_cases h10 : M.by8 s.data.toList i = 10
    · have d10 : (((s[i]'hi).toNat : Int) == 10) = true := by simp; omega
      have hfin : R = 1 := by rw [← hR]; unfold M.brkN; rw [if_neg (by omega), if_pos (by omega)]
      subst hfin
      clear hR b0 b1 g0 h13 h10 hbz c1
      go_enter Try.func21, Try.ntmps21
      go_wp2
      go_ret
      exact ⟨rfl, rfl⟩
    · have d10 : (((s[i]'hi).toNat : Int) == 10) = false := by simp; omega
      by_cases hv : v = 11
      · subst hv
        have hfin := M.brkN_nx (s.data.toList.drop i) (by omega) (by omega)
        rw [show M.brkN true (s.data.toList.drop i) = R from hR] at hfin
        obtain ⟨⟨c, n⟩, hcn⟩ : ∃ d, M.nx8 (s.data.toList.drop i) = d := ⟨_, rfl⟩
        rw [hcn] at c1 hfin
        simp only at c1 hfin
        clear hR b0 b1 g0 h13 h10 hbz hcn
        by_cases k1 : c = 133
        · have d1 : ((c : Int) == 133) = true := by simp; omega
          rw [if_pos (Or.inl k1)] at hfin
          subst hfin
          clear k1
          go_enter Try.func21, Try.ntmps21
          go_wp2_with (go_at_call 23; refine c1.mono ?_; rintro r w' ⟨rfl, rfl⟩)
          go_ret
          exact ⟨rfl, rfl⟩
        · have d1 : ((c : Int) == 133) = false := by simp; omega
          by_cases k2 : c = 8232
          · have d2 : ((c : Int) == 8232) = true := by simp; omega
            rw [if_pos (Or.inr (Or.inl k2))] at hfin
            subst hfin
            clear k1 k2
            go_enter Try.func21, Try.ntmps21
            go_wp2_with (go_at_call 23; refine c1.mono ?_; rintro r w' ⟨rfl, rfl⟩)
            go_ret
            exact ⟨rfl, rfl⟩
          · have d2 : ((c : Int) == 8232) = false := by simp; omega
            by_cases k3 : c = 8233
            · have d3 : ((c : Int) == 8233) = true := by simp; omega
              rw [if_pos (Or.inr (Or.inr k3))] at hfin
              subst hfin
              clear k1 k2 k3
              go_enter Try.func21, Try.ntmps21
              go_wp2_with (go_at_call 23; refine c1.mono ?_; rintro r w' ⟨rfl, rfl⟩)
              go_ret
              exact ⟨rfl, rfl⟩
            · have d3 : ((c : Int) == 8233) = false := by simp; omega
              rw [if_neg (by omega)] at hfin
              subst hfin
              clear k1 k2 k3
              go_enter Try.func21, Try.ntmps21
              go_wp2_with (go_at_call 23; refine c1.mono ?_; rintro r w' ⟨rfl, rfl⟩)
              go_ret
              exact ⟨rfl, rfl⟩
      · have dv : (v != 11) = true := by simpa using hv
        have hz : R = 0 := by rw [← hR, show isOld v = false by simpa [isOld] using hv]; exact newN_brk _ (by omega) (by omega)
        subst hz
        clear hR b0 b1 g0 h13 h10 hbz c1 hv
        go_enter Try.func21, Try.ntmps21
        go_wp2
        go_ret
        exact ⟨rfl, rfl⟩

set_option maxHeartbeats 400000 in
theorem rbreak_out (v : Int) (s : ByteArray) (i : Int) (w : World) (hi : i < 0 ∨ (s.size : Int) ≤ i) :
    Calls Try.prog 21 #[.int .i64 v, .string s, .int .i64 i] w fun e w' => e = .returned (.int .i64 0) ∧ w = w' := by
  rcases hi with h | h
  · have i0 : decide (i < 0) = true := by simpa using h
    go_enter Try.func21, Try.ntmps21
    go_wp2
    go_ret
    exact ⟨rfl, rfl⟩
  · have i0 : decide (i < 0) = false := by simp; omega
    have i1 : decide ((s.size : Int) ≤ i) = true := by simpa using h
    go_enter Try.func21, Try.ntmps21
    go_wp2
    go_ret
    exact ⟨rfl, rfl⟩
theorem rbreak_any (v : Int) (s : ByteArray) (i : Int) (w : World) (hs : s.size ≤ 100000) :
    Calls Try.prog 21 #[.int .i64 v, .string s, .int .i64 i] w fun e w' => e = .returned (.int .i64 (brkZ (isOld v) s.data.toList i)) ∧ w = w' := by
  by_cases h : i < 0 ∨ (s.size : Int) ≤ i
  · rw [brkZ_out _ _ _ h]; exact rbreak_out v s i w h
  · obtain ⟨n, rfl⟩ := Int.eq_ofNat_of_zero_le (show 0 ≤ i by omega)
    rw [brkZ_nat]; exact rbreak_in v s n w (by omega) hs

end Go.Proofs.Ythbmppkngaifmaa
