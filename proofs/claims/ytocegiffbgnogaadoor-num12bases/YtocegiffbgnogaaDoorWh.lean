/- Walks of big.Base, MulAdd. -/
import Derived.Test.YtocegiffbgnogaaDoorWg
set_option linter.unusedVariables false
namespace Go.Proofs.YtocegiffbgnogaaDoor
open Go.RowKit

set_option maxRecDepth 100000 in
set_option maxHeartbeats 1000000 in
theorem base_yes (s : ByteArray) (b : Nat) (w : World) (hb : b = 2 ∨ b = 8 ∨ b = 16) (hs : s.size ≤ 6000) (hd : M.okD b s.data.toList = true) :
    Calls Tryd.prog 19 #[.string s, .int .i64 b] w fun r w' => r = .returned (.string (tx (M.val b s.data.toList : Nat))) ∧ Below w.heap.size w w' := by
  have c1 := digitsOf_any s b w (by omega) (by omega)
  rw [hd] at c1
  have c2 := joined_any s b w hb (by omega) ((M.okD_iff _ _).1 hd).2
  obtain ⟨T, hT⟩ : ∃ T, M.val b s.data.toList = T := ⟨_, rfl⟩
  rw [hT] at c2 ⊢
  clear hd hT
  rcases hb with rfl | rfl | rfl
  all_goals
    go_enter Tryd.func19, Tryd.ntmps19
    go_wp2_with fail
    refine c1.mono ?_
    rintro r w' ⟨rfl, rfl⟩
    go_wp2_with fail
    refine c2.mono ?_
    rintro r w2 ⟨⟨v, ps, rfl, ho, hsm, hpv, hl⟩, hb2⟩
    subst hpv
    clear c1 c2
    go_wp2_with fail
    refine (written_any v ps w.heap.size _ ho hsm (by omega)).mono ?_
    rintro r w3 ⟨rfl, hb3⟩
    go_wp2_with fail
    refine (ends_any false ps _ hsm (by omega)).mono ?_
    rintro r w4 ⟨rfl, hb4⟩
    clear ho
    go_wp2
    go_ret
    exact ⟨rfl, (hb2.trans (hb3.mono hb2.size)).trans (hb4.mono (Nat.le_trans hb2.size hb3.size))⟩
set_option maxRecDepth 100000 in
theorem base_no (s : ByteArray) (b : Nat) (w : World) (hb : b = 2 ∨ b = 8 ∨ b = 16) (hs : s.size ≤ 6000) (hd : M.okD b s.data.toList = false) :
    Calls Tryd.prog 19 #[.string s, .int .i64 b] w fun r w' => r = .returned (.string ⟨#[]⟩) ∧ w = w' := by
  have c1 := digitsOf_any s b w (by omega) (by omega)
  rw [hd] at c1
  clear hd
  rcases hb with rfl | rfl | rfl
  all_goals
    go_enter Tryd.func19, Tryd.ntmps19
    go_wp2_with fail
    refine c1.mono ?_
    rintro r w' ⟨rfl, rfl⟩
    go_wp2
    go_ret
    exact ⟨rfl, rfl⟩
theorem base_other (s : ByteArray) (b : Int) (w : World) (hb : ¬ (b = 2 ∨ b = 8 ∨ b = 16)) :
    Calls Tryd.prog 19 #[.string s, .int .i64 b] w fun r w' => r = .returned (.string ⟨#[]⟩) ∧ w = w' := by
  have h1 : (b == 2) = false := by simp; omega
  have h2 : (b == 8) = false := by simp; omega
  have h3 : (b == 16) = false := by simp; omega
  clear hb
  go_enter Tryd.func19, Tryd.ntmps19
  go_wp2
  go_ret
  exact ⟨rfl, rfl⟩

end Go.Proofs.YtocegiffbgnogaaDoor
