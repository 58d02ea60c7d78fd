/- A value of two texts: its tag and its text: blocks of memory that hold one, results, comparison. -/
import Derived.Test.YtipgipgehnhgkaaGreatDoorBa
set_option linter.unusedVariables false
namespace Go.Proofs.YtipgipgehnhgkaaGreatDoor
open Go.RowKit
open Go

/-- A value: tag and text. -/
abbrev vV (T X : ByteArray) : Value := .agg #[.string T, .string X]
abbrev vZ : Value := vV ⟨#[]⟩ ⟨#[]⟩
/-- The block g holds a value. -/
def VBk (w : World) (g : Nat) (T X : ByteArray) : Prop := w.heap[g]? = some (.cells #[.string T, .string X] 27 (0, 0))
section
variable {w w' : World} {g B : Nat} {T X : ByteArray}
theorem VBk.lt (h : VBk w g T X) : g < w.heap.size := (Array.getElem?_eq_some_iff.1 h).1
theorem VBk.below (h : VBk w g T X) (hb : Below B w w') (hg : g < B) : VBk w' g T X := (hb.block g hg).trans h
theorem VBk.next (h : VBk w g T X) (hb : Below w.heap.size w w') : VBk w' g T X := h.below hb h.lt
theorem VBk.made (w : World) (T X : ByteArray) : VBk (w.alloc (.cells #[.string T, .string X] 27)) w.heap.size T X := by
  unfold VBk
  show (w.heap.push _)[w.heap.size]? = _
  simp
theorem VBk.cells (h : VBk w g T X) : w.cell? ⟨g, 0, none⟩ = some (.string T) ∧ w.cell? ⟨g, 1, none⟩ = some (.string X) := by
  unfold VBk at h
  refine ⟨?_, ?_⟩ <;> simp [World.cell?, h]
theorem VBk.frozen (h : VBk w g T X) (j : Nat) : w.frozen? ⟨g, j, none⟩ = false := frozen_of_row w g j _ 27 h
theorem VBk.fro (h : VBk w g T X) : w.frozen? ⟨g, 0, none⟩ = false ∧ w.frozen? ⟨g, 1, none⟩ = false := ⟨h.frozen 0, h.frozen 1⟩
/-- A value stored. -/
abbrev set2 (w : World) (g : Nat) (T X : ByteArray) : World := (w.setCell ⟨g, 0, none⟩ (.string T)).setCell ⟨g, 1, none⟩ (.string X)
theorem VBk.set (h : VBk w g T X) (T' X' : ByteArray) : VBk (set2 w g T' X') g T' X' := by
  unfold VBk at h ⊢
  have h0 := Go.heap_setCell_same w g 0 _ 27 (.string T') h
  have h1 := Go.heap_setCell_same _ g 1 _ 27 (.string X') h0
  rw [h1]; rfl
theorem VBk.other (h : VBk w g T X) {k : Nat} (hk : k ≠ g) (T' X' : ByteArray) : VBk (set2 w k T' X') g T X := by
  unfold VBk at h ⊢
  rw [← h]
  exact (Go.heap_setCell_other _ ⟨k, 1, none⟩ g _ (fun e => hk e.symm)).trans (Go.heap_setCell_other w ⟨k, 0, none⟩ g _ (fun e => hk e.symm))
theorem below_set2 {a w : World} (h : Below B a w) {g : Nat} (hg : B ≤ g) (T X : ByteArray) : Below B a (set2 w g T X) :=
  ((h.setCell (p := ⟨g, 0, none⟩) hg _).setCell (p := ⟨g, 1, none⟩) hg _)
theorem load_val (h : VBk w g T X) : (loadVar 27 ⟨g, 0, none⟩).run Tryz.prog w = .ok (vV T X) w := by
  obtain ⟨k0, k1⟩ := h.cells
  simp [go_sem, loadVar, Tryz.isAgg27, Tryz.sizeOf27, k0, k1]
theorem results_cell1 {fn : Func} {p : Tmp} {ty : TypeId} (h : fn.results = #[.cell p ty]) (tmps : Array Value) (P : Program) (w : World) :
    (results fn tmps).run P w = ((asAddr (tmps.getD p undef)).run P w).andThen fun a w₁ => (loadVar ty a).run P w₁ := by
  simp only [results, h]
  simp [Sem.run_bind, Result.andThen]
theorem ret_val {fn : Func} {p : Tmp} (h : fn.results = #[.cell p 27]) (tmps : Array Value) (hp : tmps.getD p undef = .pointer (some ⟨g, 0, none⟩)) (hB : VBk w g T X) :
    (results fn tmps).run Tryz.prog w = .ok (vV T X) w := by
  rw [results_cell1 h, hp]
  have := load_val hB
  simp [asAddr, Result.andThen, this]
end
theorem eqGv (op : BinOp) (x y : Operand) (xs ys : Array Value) (w : World) : (eqGuard op 27 x y (.agg xs) (.agg ys)).run Tryz.prog w = .ok () w := run_eqGuard_agg w op 27 x y xs ys (by kernel_rfl)
theorem beq_bytes2 (a b : ByteArray) : (a.toList == b.toList) = decide (a = b) := by
  rw [Bool.eq_iff_iff, decide_eq_true_eq, beq_iff_eq, ByteArray.toList_eq, ByteArray.toList_eq]
  constructor
  · intro h; rw [← bA_of a, ← bA_of b, h]
  · intro h; rw [h]
theorem toList_iff2 (a b : ByteArray) : a.toList = b.toList ↔ a = b := by
  have := beq_bytes2 a b
  rw [Bool.eq_iff_iff, decide_eq_true_eq, beq_iff_eq] at this
  exact this
theorem eqIn2 (D D' E E' : ByteArray) (w : World) : (Op.equalIn 10000 27 (vV D E) (vV D' E')).run Tryz.prog w = .ok (decide (D = D' ∧ E = E')) w := by
  have u9 := Tryz.underlying9
  have a9 := Tryz.isAgg9
  have z9 := Tryz.sizeOf9
  have hS : Tryz.prog.underlying 27 = some (.struct (Tryz.prog.fieldsOf 27)) := by kernel_rfl
  have hp : Tryz.prog.stoodInHeld 27 = false := by kernel_rfl
  rw [show (10000 : Nat) = 9999 + 1 from rfl, run_equalIn_agg w 9999 27 _ _ hS hp]
  simp only [Program.fieldsOf, Tryz.underlying27]
  go_simp
  simp only [toList_iff2]
  by_cases h3 : D = D' <;> by_cases h4 : E = E' <;> simp [h3, h4]
theorem eql2 (D D' E E' : ByteArray) (w : World) : (binOp .eql 27 (vV D E) (vV D' E')).run Tryz.prog w = .ok (.bool (decide (D = D' ∧ E = E'))) w := by
  rw [run_eql_struct, eqIn2]; rfl
theorem neq2 (D D' E E' : ByteArray) (w : World) : (binOp .neq 27 (vV D E) (vV D' E')).run Tryz.prog w = .ok (.bool (!decide (D = D' ∧ E = E'))) w := by
  rw [run_neq_struct, eqIn2]; rfl
end Go.Proofs.YtipgipgehnhgkaaGreatDoor
