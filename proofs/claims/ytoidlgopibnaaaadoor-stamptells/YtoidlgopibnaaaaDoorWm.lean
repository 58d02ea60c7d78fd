/- Walks: targumlaw10's known. -/
import Derived.Test.YtoidlgopibnaaaaDoorWl
set_option linter.unusedVariables false
namespace Go.Proofs.YtoidlgopibnaaaaDoor
open Go.RowKit

theorem kn0 (w : World) (ht : Tab w) : Calls Tryd.prog 10 #[.string ⟨#[50, 48, 48, 49, 45, 49, 45, 49]⟩] w fun e w' => e = .returned (.tuple #[.string ⟨#[]⟩, .bool false]) ∧ Below w.heap.size w w' :=
  kn [50, 48, 48, 49, 45, 49, 45, 49] _ (by rw [show M.ofS [50, 48, 48, 49, 45, 49, 45, 49] = none by decide +kernel]; rfl) w ht (by decide)
theorem kn1 (w : World) (ht : Tab w) : Calls Tryd.prog 10 #[.string ⟨#[50, 48, 48, 49, 45, 48, 49, 45, 48, 49]⟩] w fun e w' => e = .returned (.tuple #[.string ⟨#[50, 48, 48, 49, 45, 48, 49, 45, 48, 49]⟩, .bool true]) ∧ Below w.heap.size w w' :=
  kn [50, 48, 48, 49, 45, 48, 49, 45, 48, 49] _ (by rw [show M.ofS [50, 48, 48, 49, 45, 48, 49, 45, 48, 49] = some [50, 48, 48, 49, 45, 48, 49, 45, 48, 49] by decide +kernel]; rfl) w ht (by decide)
theorem kn2 (w : World) (ht : Tab w) : Calls Tryd.prog 10 #[.string ⟨#[50, 48, 48, 49, 45, 49, 45, 49, 32, 48, 58, 48, 48, 58, 48, 48, 32, 43, 49]⟩] w fun e w' => e = .returned (.tuple #[.string ⟨#[50, 48, 48, 48, 45, 49, 50, 45, 51, 49, 84, 50, 51, 58, 48, 48, 58, 48, 48, 90]⟩, .bool true]) ∧ Below w.heap.size w w' :=
  kn [50, 48, 48, 49, 45, 49, 45, 49, 32, 48, 58, 48, 48, 58, 48, 48, 32, 43, 49] _ (by rw [show M.ofS [50, 48, 48, 49, 45, 49, 45, 49, 32, 48, 58, 48, 48, 58, 48, 48, 32, 43, 49] = some [50, 48, 48, 48, 45, 49, 50, 45, 51, 49, 84, 50, 51, 58, 48, 48, 58, 48, 48, 90] by decide +kernel]; rfl) w ht (by decide)
theorem kn3 (w : World) (ht : Tab w) : Calls Tryd.prog 10 #[.string ⟨#[50, 48, 48, 48, 45, 48, 50, 45, 50, 57, 116, 50, 51, 58, 53, 57, 58, 53, 57, 46, 49, 50, 48, 48, 45, 48, 58, 51, 48]⟩] w fun e w' => e = .returned (.tuple #[.string ⟨#[50, 48, 48, 48, 45, 48, 51, 45, 48, 49, 84, 48, 48, 58, 50, 57, 58, 53, 57, 46, 49, 50, 90]⟩, .bool true]) ∧ Below w.heap.size w w' :=
  kn [50, 48, 48, 48, 45, 48, 50, 45, 50, 57, 116, 50, 51, 58, 53, 57, 58, 53, 57, 46, 49, 50, 48, 48, 45, 48, 58, 51, 48] _ (by rw [show M.ofS [50, 48, 48, 48, 45, 48, 50, 45, 50, 57, 116, 50, 51, 58, 53, 57, 58, 53, 57, 46, 49, 50, 48, 48, 45, 48, 58, 51, 48] = some [50, 48, 48, 48, 45, 48, 51, 45, 48, 49, 84, 48, 48, 58, 50, 57, 58, 53, 57, 46, 49, 50, 90] by decide +kernel]; rfl) w ht (by decide)
theorem kn4 (w : World) (ht : Tab w) : Calls Tryd.prog 10 #[.string ⟨#[49, 57, 48, 48, 45, 48, 50, 45, 50, 57]⟩] w fun e w' => e = .returned (.tuple #[.string ⟨#[]⟩, .bool false]) ∧ Below w.heap.size w w' :=
  kn [49, 57, 48, 48, 45, 48, 50, 45, 50, 57] _ (by rw [show M.ofS [49, 57, 48, 48, 45, 48, 50, 45, 50, 57] = none by decide +kernel]; rfl) w ht (by decide)
theorem kn5 (w : World) (ht : Tab w) : Calls Tryd.prog 10 #[.string ⟨#[48, 48, 48, 48, 45, 48, 49, 45, 48, 49, 32, 48, 58, 48, 48, 58, 48, 48, 32, 43, 48, 58, 48, 49]⟩] w fun e w' => e = .returned (.tuple #[.string ⟨#[]⟩, .bool false]) ∧ Below w.heap.size w w' :=
  kn [48, 48, 48, 48, 45, 48, 49, 45, 48, 49, 32, 48, 58, 48, 48, 58, 48, 48, 32, 43, 48, 58, 48, 49] _ (by rw [show M.ofS [48, 48, 48, 48, 45, 48, 49, 45, 48, 49, 32, 48, 58, 48, 48, 58, 48, 48, 32, 43, 48, 58, 48, 49] = none by decide +kernel]; rfl) w ht (by decide)
theorem kd1 (w : World) : Calls Tryd.prog 13 #[.int .i64 2000, .int .i64 2] w fun e w' => e = .returned (.int .i64 29) ∧ w = w' := days_any 2000 2 w (by omega)
theorem kd2 (w : World) : Calls Tryd.prog 13 #[.int .i64 1, .int .i64 13] w fun e w' => e = .returned (.int .i64 0) ∧ w = w' := days_any 1 13 w (by omega)
set_option maxRecDepth 100000 in
set_option maxHeartbeats 4000000 in
theorem known_any (w : World) (ht : Tab w) : Calls Tryd.prog 8 #[] w fun e w' => e = .returned (.bool true) ∧ Below w.heap.size w w' := by
  go_enter Tryd.func8, Tryd.ntmps8
  go_wp2_with fail
  refine (kn0 _ ht).mono ?_
  rintro r w1 ⟨rfl, hb⟩
  have B1 : Below w.heap.size w w1 := hb
  have T1 : Tab w1 := ht.next B1
  clear hb
  go_wp2_with fail
  refine (kn1 _ T1).mono ?_
  rintro r w2 ⟨rfl, hb⟩
  have B2 : Below w.heap.size w w2 := B1.trans (hb.mono B1.size)
  have T2 : Tab w2 := ht.next B2
  clear hb B1 T1
  go_wp2_with fail
  refine (kn2 _ T2).mono ?_
  rintro r w3 ⟨rfl, hb⟩
  have B3 : Below w.heap.size w w3 := B2.trans (hb.mono B2.size)
  have T3 : Tab w3 := ht.next B3
  clear hb B2 T2
  go_wp2_with fail
  refine (kn3 _ T3).mono ?_
  rintro r w4 ⟨rfl, hb⟩
  have B4 : Below w.heap.size w w4 := B3.trans (hb.mono B3.size)
  have T4 : Tab w4 := ht.next B4
  clear hb B3 T3
  go_wp2_with fail
  refine (kn4 _ T4).mono ?_
  rintro r w5 ⟨rfl, hb⟩
  have B5 : Below w.heap.size w w5 := B4.trans (hb.mono B4.size)
  have T5 : Tab w5 := ht.next B5
  clear hb B4 T4
  go_wp2_with fail
  refine (kn5 _ T5).mono ?_
  rintro r w6 ⟨rfl, hb⟩
  have B6 : Below w.heap.size w w6 := B5.trans (hb.mono B5.size)
  have T6 : Tab w6 := ht.next B6
  clear hb B5 T5
  go_wp2_with fail
  refine (kd1 _).mono ?_
  rintro r w7 ⟨rfl, rfl⟩
  go_wp2_with fail
  refine (kd2 _).mono ?_
  rintro r w7 ⟨rfl, rfl⟩
  go_wp2
  go_ret
  exact ⟨rfl, B6⟩
end Go.Proofs.YtoidlgopibnaaaaDoor
