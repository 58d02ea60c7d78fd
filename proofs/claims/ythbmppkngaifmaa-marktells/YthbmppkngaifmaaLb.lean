/- The law MarkBack: its walk. -/
import Derived.Test.YthbmppkngaifmaaLa
set_option linter.unusedVariables false
namespace Go.Proofs.Ythbmppkngaifmaa
open Go.RowKit
open Fl (F)

theorem well_take (s : ByteArray) (k : Nat) (w : World) (hs : s.size ≤ 100000) :
    Calls Try.prog 18 #[.string (s.extract 0 k)] w fun e w' => e = .returned (.bool (Lib.validD (s.data.toList.take k))) ∧ w = w' := by
  have c := well_any (s.extract 0 k) w (by rw [sz_list, extract0_list, List.length_take, ← sz_list]; omega)
  rwa [extract0_list] at c

set_option maxRecDepth 100000 in
set_option maxHeartbeats 2000000 in
theorem back_any (s : ByteArray) (old : Bool) (off : Int) (w : World) (hs : s.size ≤ maxLen) :
    Calls Try.prog 5 #[.string s, .bool old, .int .i64 off] w fun e w' => e = .returned (.bool true) ∧ w = w' := by
  unfold maxLen at hs
  go_enter Try.func5, Try.ntmps5
  go_wp2_with fail
  refine (known_any w).mono ?_
  rintro r w' ⟨rfl, rfl⟩
  by_cases h3 : 200 < s.size
  · have d3 : decide ((200 : Int) < (s.size : Int)) = true := by simp; omega
    go_wp2
    go_ret
    exact ⟨rfl, rfl⟩
  have d3 : decide ((200 : Int) < (s.size : Int)) = false := by simp; omega
  have hs3 : s.size ≤ 200 := by omega
  clear h3 hs
  have cW := well_any s w (by omega)
  cases hval : Lib.validD s.data.toList with
  | false =>
    rw [hval] at cW
    clear hval
    go_wp2_with fail
    refine cW.mono ?_
    rintro r w' ⟨rfl, rfl⟩
    go_wp2
    go_ret
    exact ⟨rfl, rfl⟩
  | true =>
  rw [hval] at cW
  have HVAL := Lib.hid hval
  clear hval
  have cV := version_any old w
  obtain ⟨v, hv⟩ : ∃ v : Int, (if old = true then (11 : Int) else 12) = v := ⟨_, rfl⟩
  rw [hv] at cV
  clear hv
  have cA := within_any off s.size w (by omega)
  have hk := within0_le off s.size
  obtain ⟨k, hk'⟩ : ∃ k, within0 off s.size = k := ⟨_, rfl⟩
  rw [hk'] at cA hk
  clear hk'
  have cK := well_take s k w (by omega)
  go_wp2_with fail
  refine cW.mono ?_
  rintro r w' ⟨rfl, rfl⟩
  go_wp2_with fail
  refine cV.mono ?_
  rintro r w' ⟨rfl, rfl⟩
  go_wp2_with fail
  refine cA.mono ?_
  rintro r w' ⟨rfl, rfl⟩
  clear cV cA cW
  cases hvk : Lib.validD (s.data.toList.take k) with
  | false =>
    rw [hvk] at cK
    clear hvk
    go_wp2_with fail
    refine cK.mono ?_
    rintro r w' ⟨rfl, rfl⟩
    go_wp2
    go_ret
    exact ⟨rfl, rfl⟩
  | true =>
  rw [hvk] at cK
  have HVK := Lib.hid hvk
  clear hvk
  have HLl := Lib.hid (sz_list s)
  have hback := M.best_back (isOld v) s.data.toList k HVAL.out HVK.out (by rw [← HLl.out]; exact hk)
  rw [← HLl.out] at hback
  have cO := of_in v s k w (by omega) hk
  have bP := pl_bound (isOld v) s k
  obtain ⟨⟨p1, p2⟩, hp⟩ : ∃ p, M.pl (isOld v) s.data.toList k = p := ⟨_, rfl⟩
  rw [hp] at cO bP hback
  simp only at cO bP hback
  have cF := off_any v s p1 p2 w (by omega) (by omega) (by omega)
  clear hp
  go_wp2_with fail
  refine cK.mono ?_
  rintro r w' ⟨rfl, rfl⟩
  clear cK
  by_cases hk0 : 0 < k
  · have e0 : decide (0 < k) = true := by simpa using hk0
    by_cases hkl : k < s.size
    · have e1 : decide (k < s.size) = true := by simpa using hkl
      have g1 := getB s (k - 1) (by omega)
      have g2 := getB s k hkl
      obtain ⟨m, rfl⟩ : ∃ m, k = m + 1 := ⟨k - 1, by omega⟩
      simp only [Nat.add_sub_cancel] at g1 hback
      obtain ⟨c1, hc1⟩ : ∃ c, M.by8 s.data.toList m = c := ⟨_, rfl⟩
      obtain ⟨c2, hc2⟩ : ∃ c, M.by8 s.data.toList (m + 1) = c := ⟨_, rfl⟩
      rw [hc1] at g1 hback
      rw [hc2] at g2 hback
      clear hc1 hc2
      by_cases h13 : c1 = 13
      · have d13 : ((c1 : Int) == 13) = true := by simp; omega
        by_cases h10 : c2 = 10
        · have d10 : ((c2 : Int) == 10) = true := by simp; omega
          clear hback cO cF h13 h10
          go_wp2
          go_ret
          exact ⟨rfl, rfl⟩
        · have d10 : ((c2 : Int) == 10) = false := by simp; omega
          have hb := hback (by omega)
          rw [hb] at cF
          clear hback hb h13 h10
          go_wp2_with fail
          refine cO.mono ?_
          rintro r w' ⟨rfl, rfl⟩
          go_wp2_with fail
          refine cF.mono ?_
          rintro r w' ⟨rfl, rfl⟩
          go_wp2
          go_ret
          exact ⟨rfl, rfl⟩
      · have d13 : ((c1 : Int) == 13) = false := by simp; omega
        have hb := hback (by omega)
        rw [hb] at cF
        clear hback hb h13
        go_wp2_with fail
        refine cO.mono ?_
        rintro r w' ⟨rfl, rfl⟩
        go_wp2_with fail
        refine cF.mono ?_
        rintro r w' ⟨rfl, rfl⟩
        go_wp2
        go_ret
        exact ⟨rfl, rfl⟩
    · have e1 : decide (k < s.size) = false := by simpa using hkl
      have hb := hback (by omega)
      rw [hb] at cF
      clear hback hb
      go_wp2_with fail
      refine cO.mono ?_
      rintro r w' ⟨rfl, rfl⟩
      go_wp2_with fail
      refine cF.mono ?_
      rintro r w' ⟨rfl, rfl⟩
      go_wp2
      go_ret
      exact ⟨rfl, rfl⟩
  · have e0 : decide (0 < k) = false := by simpa using hk0
    have hb := hback (by omega)
    rw [hb] at cF
    clear hback hb
    go_wp2_with fail
    refine cO.mono ?_
    rintro r w' ⟨rfl, rfl⟩
    go_wp2_with fail
    refine cF.mono ?_
    rintro r w' ⟨rfl, rfl⟩
    go_wp2
    go_ret
    exact ⟨rfl, rfl⟩

end Go.Proofs.Ythbmppkngaifmaa
