/- What the parts of the code answer of a text. -/
import Derived.Test.YtipgipgehnhgkaaGreatDoorVh
import Derived.Test.YtipgipgehnhgkaaGreatDoorNa
import Derived.Test.YtipgipgehnhgkaaGreatDoorBi
import Derived.Test.YtipgipgehnhgkaaGreatDoorBo
import Derived.Test.YtipgipgehnhgkaaGreatDoorBq
import Derived.Test.YtipgipgehnhgkaaGreatDoorBt
import Derived.Test.YtipgipgehnhgkaaGreatDoorTi
set_option linter.unusedVariables false
namespace Go.Proofs.YtipgipgehnhgkaaGreatDoor
open Go.RowKit
open Go

theorem env_next : ∀ w w' : World, Env w → Below w.heap.size w w' → Env w' := fun _ _ h hb => h.next hb
theorem cl_any (s : ByteArray) (hs : s.size ≤ 1000) : ∀ W, Calls Tryz.prog 17 #[.string s] W fun e w' => e = .returned (.string s) ∧ Below W.heap.size W w' := fun W => S10.clone_any s W (by omega)
theorem nl_any (s : ByteArray) : ∀ W, Calls Tryz.prog 20 #[.string s] W fun e w' => e = .returned (.bool (decide (s.data.toList ∈ M.wN))) ∧ W = w' := fun W => S9.null_any s W
theorem wb_any (v : Int) (s : ByteArray) : ∀ W, Calls Tryz.prog 21 #[.int .i64 v, .string s] W fun e w' => e = .returned (.tuple #[.bool (M.bo (decide (v = 11)) s.data.toList).1, .bool (M.bo (decide (v = 11)) s.data.toList).2]) ∧ W = w' := fun W => S9.bool_any v s W
theorem iof_any (s : ByteArray) (hs : s.size ≤ 990) : ∀ W, Env W → Calls Tryz.prog 22 #[.string s] W fun e w' => e = .returned (.tuple #[.string (if M.form s.data.toList = 0 then ⟨#[]⟩ else tx (zOf s.data.toList)), .bool (decide (0 < M.form s.data.toList))]) ∧ Below W.heap.size W w' := by
  intro W hW
  by_cases h : M.form s.data.toList = 0
  · rw [if_pos h, decide_eq_false (by omega)]
    exact (of_no s W hs h).mono fun e w' k => ⟨k.1, k.2 ▸ Below.refl _ _⟩
  · rw [if_neg h, decide_eq_true (by omega)]
    exact of_yes s W hW hs h
end Go.Proofs.YtipgipgehnhgkaaGreatDoor
