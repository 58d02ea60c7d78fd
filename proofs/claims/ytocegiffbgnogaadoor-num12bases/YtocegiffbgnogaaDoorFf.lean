/- Walks: float11's split, Form, Is. -/
import Derived.Test.YtocegiffbgnogaaDoorFa
import Derived.Test.YtocegiffbgnogaaDoorXe
set_option linter.unusedVariables false
namespace Go.Proofs.YtocegiffbgnogaaDoor
open Go.RowKit

set_option maxRecDepth 100000 in
theorem fsplit_any (s : ByteArray) (w : World) (hs : s.size ≤ 1000000) :
    Calls Tryd.prog 20 #[.string s] w fun e w' => e = .returned (.tuple #[.bool (M.isNeg s.data.toList), .string (bA (M.body s.data.toList))]) ∧ w = w' := by
  have c1 := fun W => cut_any s W hs
  have c2 := fun W => trimP_any s W hs
  by_cases h : M.isNeg s.data.toList = true
  · have hb : M.body s.data.toList = M.unsign s.data.toList := by unfold M.body; rw [if_pos h]
    rw [hb]
    rw [h] at c1 ⊢
    clear h hb
    generalize bA (M.unsign s.data.toList) = U at *
    go_enter Tryd.func20, Tryd.ntmps20
    go_wp2_with fail
    refine (c1 _).mono ?_
    rintro r w' ⟨rfl, rfl⟩
    go_wp2
    go_ret2
    exact ⟨rfl, rfl⟩
  · have hb : M.body s.data.toList = M.unplus s.data.toList := by unfold M.body; rw [if_neg h]
    rw [hb]
    rw [show M.isNeg s.data.toList = false by simpa using h] at c1 ⊢
    clear h hb
    generalize bA (M.unsign s.data.toList) = U at *
    generalize bA (M.unplus s.data.toList) = V at *
    go_enter Tryd.func20, Tryd.ntmps20
    go_wp2_with fail
    refine (c1 _).mono ?_
    rintro r w' ⟨rfl, rfl⟩
    go_wp2_with fail
    refine (c2 _).mono ?_
    rintro r w' ⟨rfl, rfl⟩
    go_wp2
    go_ret2
    exact ⟨rfl, rfl⟩
theorem beq_list {s : ByteArray} {l : List UInt8} (h : s.data.toList ≠ l) : (s.toList == l) = false := by
  rw [ByteArray.toList_eq]; exact beq_eq_false_iff_ne.2 h
theorem ba_of {s : ByteArray} {l : List UInt8} (h : s.data.toList = l) : s = ⟨l.toArray⟩ := eq_bA h
end Go.Proofs.YtocegiffbgnogaaDoor
