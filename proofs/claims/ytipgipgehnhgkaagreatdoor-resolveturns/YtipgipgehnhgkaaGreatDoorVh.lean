/- Walk: resolve's Alike, out of what Plain tells. -/
import Derived.Test.YtipgipgehnhgkaaGreatDoorVc
set_option linter.unusedVariables false
namespace Go.Proofs.YtipgipgehnhgkaaGreatDoor
open Go.RowKit
open Go

theorem not_nil {T X : ByteArray} (h : T ≠ ⟨#[]⟩) : decide (T = (⟨#[]⟩ : ByteArray) ∧ X = (⟨#[]⟩ : ByteArray)) = false := decide_eq_false fun k => h k.1
section
variable {E : World → Prop}
set_option maxRecDepth 100000 in
theorem alike_any (s : ByteArray) (T X T' X' : ByteArray) (hn : ∀ w w' : World, E w → Below w.heap.size w w' → E w') (w : World) (hE : E w)
    (c1 : ∀ W, E W → Calls Tryz.prog 8 #[.int .i64 11, .string s] W fun e w' => e = .returned (vV T X) ∧ Below W.heap.size W w')
    (c2 : ∀ W, E W → Calls Tryz.prog 8 #[.int .i64 12, .string s] W fun e w' => e = .returned (vV T' X') ∧ Below W.heap.size W w') :
    Calls Tryz.prog 10 #[.string s] w fun e w' => e = .returned (.bool (decide (T = T') && decide (X = X'))) ∧ Below w.heap.size w w' := by
  have eq := eql2
  have gg := eqGv
  go_enter Tryz.func10, Tryz.ntmps10
  go_wp2_with fail
  refine (c1 _ hE).mono ?_
  rintro r w1 ⟨rfl, hb⟩
  have E1 := hn _ _ hE hb
  go_wp2_with fail
  refine (c2 _ E1).mono ?_
  rintro r w2 ⟨rfl, hb2⟩
  go_wp2
  go_ret
  exact ⟨rfl, hb.trans (hb2.mono hb.size)⟩
end
end Go.Proofs.YtipgipgehnhgkaaGreatDoor
