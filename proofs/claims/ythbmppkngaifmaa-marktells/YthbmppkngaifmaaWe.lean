/- Walk of targum/mark's Of. -/
import Derived.Test.YthbmppkngaifmaaWd
set_option linter.unusedVariables false
namespace Go.Proofs.Ythbmppkngaifmaa
open Go.RowKit
open Fl (F)

/-- A number brought within a text. -/
def clampN (off : Int) (n : Nat) : Nat := min off.toNat n

theorem extract0_list (s : ByteArray) (k : Nat) : (s.extract 0 k).data.toList = s.data.toList.take k := by simp

set_option maxRecDepth 100000 in
set_option maxHeartbeats 1000000 in
theorem of_any (v : Int) (s : ByteArray) (off : Int) (w : World) (hs : s.size ≤ 100000) :
    Calls Try.prog 13 #[.int .i64 v, .string s, .int .i64 off] w fun e w' => e = .returned (plV (M.pl (isOld v) s.data.toList (clampN off s.size)).1 (M.pl (isOld v) s.data.toList (clampN off s.size)).2) ∧ w = w' := by
  unfold M.pl
  by_cases h0 : off < 0
  · have c1 := way_any v ByteArray.empty w (by decide)
    rw [show ByteArray.empty.data.toList = s.data.toList.take 0 from rfl] at c1
    rw [show clampN off s.size = 0 by unfold clampN; omega]
    have hk : ¬ ((s.size : Int) < 0) := by omega
    generalize M.way (isOld v) (s.data.toList.take 0) = p at *
    go_enter Try.func13, Try.ntmps13
    go_wp2_with (go_at_call 10; refine c1.mono ?_; rintro r w' ⟨rfl, rfl⟩)
    go_ret
    exact ⟨rfl, rfl⟩
  · obtain ⟨k, rfl⟩ := Int.eq_ofNat_of_zero_le (show 0 ≤ off by omega)
    by_cases h1 : s.size < k
    · have c1 := way_any v s w hs
      rw [show clampN (k : Int) s.size = s.size by unfold clampN; omega]
      rw [show s.data.toList.take s.size = s.data.toList by rw [sz_list, List.take_length]]
      generalize M.way (isOld v) s.data.toList = p at *
      clear h0
      go_enter Try.func13, Try.ntmps13
      go_wp2_with (go_at_call 10; refine c1.mono ?_; rintro r w' ⟨rfl, rfl⟩)
      go_ret
      exact ⟨rfl, rfl⟩
    · have c1 := way_any v (s.extract 0 k) w (by rw [sz_list, extract0_list, List.length_take, ← sz_list]; omega)
      rw [extract0_list] at c1
      rw [show clampN (k : Int) s.size = k by unfold clampN; omega]
      have hk : k ≤ s.size := by omega
      generalize M.way (isOld v) (s.data.toList.take k) = p at *
      clear h0
      go_enter Try.func13, Try.ntmps13
      go_wp2_with (go_at_call 10; refine c1.mono ?_; rintro r w' ⟨rfl, rfl⟩)
      go_ret
      exact ⟨rfl, rfl⟩


end Go.Proofs.Ythbmppkngaifmaa
