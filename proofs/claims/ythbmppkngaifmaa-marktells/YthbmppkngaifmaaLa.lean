/- The law MarkOrder: its walk. -/
import Derived.Test.YthbmppkngaifmaaWg
import Derived.Test.YthbmppkngaifmaaRf
set_option linter.unusedVariables false
namespace Go.Proofs.Ythbmppkngaifmaa
open Go.RowKit
open Fl (F)

theorem pl_bound (o : Bool) (s : ByteArray) (k : Nat) : (M.pl o s.data.toList k).1 ≤ s.size ∧ (M.pl o s.data.toList k).2 ≤ s.size := by
  have := M.way_le o (s.data.toList.take k)
  rw [List.length_take, ← sz_list] at this
  unfold M.pl
  omega
theorem of_in (v : Int) (s : ByteArray) (k : Nat) (w : World) (hs : s.size ≤ 100000) (hk : k ≤ s.size) :
    Calls Try.prog 13 #[.int .i64 v, .string s, .int .i64 k] w fun e w' => e = .returned (plV (M.pl (isOld v) s.data.toList k).1 (M.pl (isOld v) s.data.toList k).2) ∧ w = w' := by
  have c := of_any v s (k : Int) w hs
  rwa [show clampN (k : Int) s.size = k by unfold clampN; omega] at c

set_option maxRecDepth 100000 in
set_option maxHeartbeats 2000000 in
theorem order_any (s : ByteArray) (old : Bool) (a b : Int) (w : World) (hs : s.size ≤ maxLen) :
    Calls Try.prog 6 #[.string s, .bool old, .int .i64 a, .int .i64 b] w fun e w' => e = .returned (.bool true) ∧ w = w' := by
  unfold maxLen at hs
  go_enter Try.func6, Try.ntmps6
  go_wp2_with fail
  refine (known_any w).mono ?_
  rintro r w' ⟨rfl, rfl⟩
  by_cases h3 : 200 < s.size
  · have d3 : decide ((200 : Int) < (s.size : Int)) = true := by simp; omega
    go_wp2
    go_ret
    exact ⟨rfl, rfl⟩
  have d3 : decide ((200 : Int) < (s.size : Int)) = false := by simp; omega
  have hs3 : s.size ≤ 200 := by omega
  clear h3 hs
  have cV := version_any old w
  obtain ⟨v, hv⟩ : ∃ v : Int, (if old = true then (11 : Int) else 12) = v := ⟨_, rfl⟩
  rw [hv] at cV
  clear hv
  have cA := within_any a s.size w (by omega)
  have cB := within_any b s.size w (by omega)
  have hi := within0_le a s.size
  have hk := within0_le b s.size
  obtain ⟨i, hi'⟩ : ∃ i, within0 a s.size = i := ⟨_, rfl⟩
  obtain ⟨k, hk'⟩ : ∃ k, within0 b s.size = k := ⟨_, rfl⟩
  rw [hi'] at cA hi
  rw [hk'] at cB hk
  clear hi' hk'
  go_wp2_with fail
  refine cV.mono ?_
  rintro r w' ⟨rfl, rfl⟩
  go_wp2_with fail
  refine cA.mono ?_
  rintro r w' ⟨rfl, rfl⟩
  go_wp2_with fail
  refine cB.mono ?_
  rintro r w' ⟨rfl, rfl⟩
  clear cV cA cB
  by_cases hik : k < i
  · have dik : decide (k < i) = true := by simpa using hik
    have hmono := M.pl_le (isOld v) s.data.toList k i (by omega)
    have cP := of_in v s k w (by omega) (by omega)
    have cQ := of_in v s i w (by omega) (by omega)
    have bP := pl_bound (isOld v) s k
    have bQ := pl_bound (isOld v) s i
    obtain ⟨⟨p1, p2⟩, hp⟩ : ∃ p, M.pl (isOld v) s.data.toList k = p := ⟨_, rfl⟩
    obtain ⟨⟨q1, q2⟩, hq⟩ : ∃ p, M.pl (isOld v) s.data.toList i = p := ⟨_, rfl⟩
    rw [hp] at cP bP hmono
    rw [hq] at cQ bQ hmono
    unfold M.le2 at hmono
    simp only at cP cQ bP bQ hmono
    clear hp hq hik
    have cL := less_any q1 q2 p1 p2 w (by omega) (by omega) (by omega) (by omega)
    have cM := less_any p1 p2 q1 q2 w (by omega) (by omega) (by omega) (by omega)
    rw [show lessZ q1 q2 p1 p2 = false from decide_eq_false (by omega)] at cL
    have eq := eq_place p1 p2 q1 q2 (by omega) (by omega) (by omega) (by omega)
    go_wp2_with fail
    refine cP.mono ?_
    rintro r w' ⟨rfl, rfl⟩
    go_wp2_with fail
    refine cQ.mono ?_
    rintro r w' ⟨rfl, rfl⟩
    go_wp2_with fail
    refine cL.mono ?_
    rintro r w' ⟨rfl, rfl⟩
    clear cP cQ
    by_cases hlt : (p1 : Int) < q1 ∨ ((p1 : Int) = q1 ∧ (p2 : Int) < q2)
    · rw [show lessZ p1 p2 q1 q2 = true from decide_eq_true hlt] at cM
      clear eq hlt hmono
      go_wp2_with fail
      refine cM.mono ?_
      rintro r w' ⟨rfl, rfl⟩
      go_wp2_with fail
      refine cM.mono ?_
      rintro r w' ⟨rfl, rfl⟩
      go_wp2_with fail
      refine cL.mono ?_
      rintro r w' ⟨rfl, rfl⟩
      go_wp2
      go_ret
      exact ⟨rfl, rfl⟩
    · rw [show lessZ p1 p2 q1 q2 = false from decide_eq_false hlt] at cM
      rw [decide_eq_true (by omega)] at eq
      clear hlt hmono
      go_wp2_with fail
      refine cM.mono ?_
      rintro r w' ⟨rfl, rfl⟩
      go_wp2_with fail
      refine cM.mono ?_
      rintro r w' ⟨rfl, rfl⟩
      go_wp2
      go_ret
      exact ⟨rfl, rfl⟩
  · have dik : decide (k < i) = false := by simpa using hik
    have hmono := M.pl_le (isOld v) s.data.toList i k (by omega)
    have cP := of_in v s i w (by omega) (by omega)
    have cQ := of_in v s k w (by omega) (by omega)
    have bP := pl_bound (isOld v) s i
    have bQ := pl_bound (isOld v) s k
    obtain ⟨⟨p1, p2⟩, hp⟩ : ∃ p, M.pl (isOld v) s.data.toList i = p := ⟨_, rfl⟩
    obtain ⟨⟨q1, q2⟩, hq⟩ : ∃ p, M.pl (isOld v) s.data.toList k = p := ⟨_, rfl⟩
    rw [hp] at cP bP hmono
    rw [hq] at cQ bQ hmono
    unfold M.le2 at hmono
    simp only at cP cQ bP bQ hmono
    clear hp hq hik
    have cL := less_any q1 q2 p1 p2 w (by omega) (by omega) (by omega) (by omega)
    have cM := less_any p1 p2 q1 q2 w (by omega) (by omega) (by omega) (by omega)
    rw [show lessZ q1 q2 p1 p2 = false from decide_eq_false (by omega)] at cL
    have eq := eq_place p1 p2 q1 q2 (by omega) (by omega) (by omega) (by omega)
    go_wp2_with fail
    refine cP.mono ?_
    rintro r w' ⟨rfl, rfl⟩
    go_wp2_with fail
    refine cQ.mono ?_
    rintro r w' ⟨rfl, rfl⟩
    go_wp2_with fail
    refine cL.mono ?_
    rintro r w' ⟨rfl, rfl⟩
    clear cP cQ
    by_cases hlt : (p1 : Int) < q1 ∨ ((p1 : Int) = q1 ∧ (p2 : Int) < q2)
    · rw [show lessZ p1 p2 q1 q2 = true from decide_eq_true hlt] at cM
      clear eq hlt hmono
      go_wp2_with fail
      refine cM.mono ?_
      rintro r w' ⟨rfl, rfl⟩
      go_wp2_with fail
      refine cM.mono ?_
      rintro r w' ⟨rfl, rfl⟩
      go_wp2_with fail
      refine cL.mono ?_
      rintro r w' ⟨rfl, rfl⟩
      go_wp2
      go_ret
      exact ⟨rfl, rfl⟩
    · rw [show lessZ p1 p2 q1 q2 = false from decide_eq_false hlt] at cM
      rw [decide_eq_true (by omega)] at eq
      clear hlt hmono
      go_wp2_with fail
      refine cM.mono ?_
      rintro r w' ⟨rfl, rfl⟩
      go_wp2_with fail
      refine cM.mono ?_
      rintro r w' ⟨rfl, rfl⟩
      go_wp2
      go_ret
      exact ⟨rfl, rfl⟩

end Go.Proofs.Ythbmppkngaifmaa
