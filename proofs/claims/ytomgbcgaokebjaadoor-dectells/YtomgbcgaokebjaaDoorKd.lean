/- Blocks of memory that hold a decimal. -/
import Derived.Test.YtomgbcgaokebjaaDoorKb
import Derived.Laws.ResultCell
import Derived.Laws.StructEq
set_option linter.unusedVariables false
namespace Go.Proofs.YtomgbcgaokebjaaDoor
open Go.RowKit

/-- A decimal's value. -/
abbrev dV (k : Int) (n : Bool) (D E : ByteArray) : Value := .agg #[.int .i64 k, .bool n, .string D, .string E]
abbrev dZ : Value := dV 0 false ⟨#[]⟩ ⟨#[]⟩
/-- The block g holds a decimal. -/
def Blk (w : World) (g : Nat) (k : Int) (n : Bool) (D E : ByteArray) : Prop := w.heap[g]? = some (.cells #[.int .i64 k, .bool n, .string D, .string E] 23 (0, 0))
theorem Blk.lt {w : World} {g : Nat} {k : Int} {n : Bool} {D E : ByteArray} (h : Blk w g k n D E) : g < w.heap.size := (Array.getElem?_eq_some_iff.1 h).1
theorem Blk.below {w w' : World} {g B : Nat} {k : Int} {n : Bool} {D E : ByteArray} (h : Blk w g k n D E) (hb : Below B w w') (hg : g < B) : Blk w' g k n D E := (hb.block g hg).trans h
theorem Blk.next {w w' : World} {g : Nat} {k : Int} {n : Bool} {D E : ByteArray} (h : Blk w g k n D E) (hb : Below w.heap.size w w') : Blk w' g k n D E := h.below hb h.lt
theorem Blk.made (w : World) (k : Int) (n : Bool) (D E : ByteArray) : Blk (w.alloc (.cells #[.int .i64 k, .bool n, .string D, .string E] 23)) w.heap.size k n D E := by
  unfold Blk
  show (w.heap.push _)[w.heap.size]? = _
  simp
theorem Blk.cells {w : World} {g : Nat} {k : Int} {n : Bool} {D E : ByteArray} (h : Blk w g k n D E) :
    w.cell? ⟨g, 0, none⟩ = some (.int .i64 k) ∧ w.cell? ⟨g, 1, none⟩ = some (.bool n) ∧ w.cell? ⟨g, 2, none⟩ = some (.string D) ∧ w.cell? ⟨g, 3, none⟩ = some (.string E) := by
  unfold Blk at h
  refine ⟨?_, ?_, ?_, ?_⟩ <;> simp [World.cell?, h]
theorem Blk.frozen {w : World} {g : Nat} {k : Int} {n : Bool} {D E : ByteArray} (h : Blk w g k n D E) (j : Nat) : w.frozen? ⟨g, j, none⟩ = false := frozen_of_row w g j _ 23 h
theorem Blk.fro {w : World} {g : Nat} {k : Int} {n : Bool} {D E : ByteArray} (h : Blk w g k n D E) : w.frozen? ⟨g, 0, none⟩ = false ∧ w.frozen? ⟨g, 1, none⟩ = false ∧ w.frozen? ⟨g, 2, none⟩ = false ∧ w.frozen? ⟨g, 3, none⟩ = false := ⟨h.frozen 0, h.frozen 1, h.frozen 2, h.frozen 3⟩
/-- A decimal stored. -/
abbrev set4 (w : World) (g : Nat) (k : Int) (n : Bool) (D E : ByteArray) : World :=
  (((w.setCell ⟨g, 0, none⟩ (.int .i64 k)).setCell ⟨g, 1, none⟩ (.bool n)).setCell ⟨g, 2, none⟩ (.string D)).setCell ⟨g, 3, none⟩ (.string E)
theorem Blk.set {w : World} {g : Nat} {k : Int} {n : Bool} {D E : ByteArray} (h : Blk w g k n D E) (k' : Int) (n' : Bool) (D' E' : ByteArray) : Blk (set4 w g k' n' D' E') g k' n' D' E' := by
  unfold Blk at h ⊢
  have h0 := Go.heap_setCell_same w g 0 _ 23 (.int .i64 k') h
  have h1 := Go.heap_setCell_same _ g 1 _ 23 (.bool n') h0
  have h2 := Go.heap_setCell_same _ g 2 _ 23 (.string D') h1
  have h3 := Go.heap_setCell_same _ g 3 _ 23 (.string E') h2
  rw [h3]; rfl
theorem below_set4 {B : Nat} {a w : World} (h : Below B a w) {g : Nat} (hg : B ≤ g) (k : Int) (n : Bool) (D E : ByteArray) : Below B a (set4 w g k n D E) :=
  ((((h.setCell (p := ⟨g, 0, none⟩) hg _).setCell (p := ⟨g, 1, none⟩) hg _).setCell (p := ⟨g, 2, none⟩) hg _).setCell (p := ⟨g, 3, none⟩) hg _)
theorem load_blk {w : World} {g : Nat} {k : Int} {n : Bool} {D E : ByteArray} (h : Blk w g k n D E) : (loadVar 23 ⟨g, 0, none⟩).run Tryd.prog w = .ok (dV k n D E) w := by
  obtain ⟨k0, k1, k2, k3⟩ := h.cells
  simp [go_sem, loadVar, Tryd.isAgg23, Tryd.sizeOf23, k0, k1, k2, k3]
theorem ret_dec {fn : Func} {p u : Tmp} {g : Nat} {k : Int} {n b : Bool} {D E : ByteArray} {w : World} (h : fn.results = #[.cell p 23, .tmp u]) (tmps : Array Value) (hp : tmps.getD p undef = .pointer (some ⟨g, 0, none⟩)) (hu : tmps.getD u undef = .bool b)
    (hB : Blk w g k n D E) : (results fn tmps).run Tryd.prog w = .ok (.tuple #[dV k n D E, .bool b]) w := by
  rw [results_cell_tmp h, hp, hu]
  have := load_blk hB
  simp [asAddr, Result.andThen, this]
end Go.Proofs.YtomgbcgaokebjaaDoor
