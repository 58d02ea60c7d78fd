/- Walks of the document's sixty at any first digit. -/
import Derived.Test.YtocegiffbgnogaaDoorFk
set_option linter.unusedVariables false
namespace Go.Proofs.YtocegiffbgnogaaDoor
open Go.RowKit

theorem head_cons (c : UInt8) (r : List UInt8) : ∃ h : 0 < (bA (c :: r)).size, (bA (c :: r))[0] = c := by
  have h0 : 0 < (bA (c :: r)).size := by rw [bA_size]; simp
  refine ⟨h0, ?_⟩
  have := get_list (bA (c :: r)) 0 h0
  rw [bA_toList] at this; simpa using this.symm
theorem ret_decI {fn : Func} {p u : Tmp} {g : Nat} {k i : Int} {n : Bool} {D E : ByteArray} {w : World} (h : fn.results = #[.cell p 28, .tmp u]) (tmps : Array Value) (hp : tmps.getD p undef = .pointer (some ⟨g, 0, none⟩)) (hu : tmps.getD u undef = .int .i64 i)
    (hB : Blk w g k n D E) : (results fn tmps).run Tryd.prog w = .ok (.tuple #[dV k n D E, .int .i64 i]) w := by
  rw [results_cell_tmp h, hp, hu]
  have := load_blk hB
  simp [asAddr, Result.andThen, this]
theorem Blk.alloc' {w : World} {g : Nat} {k : Int} {n : Bool} {D E : ByteArray} (h : Blk w g k n D E) (o : Obj) : Blk (w.alloc o) g k n D E := h.next ((Below.refl _ _).alloc (Nat.le_refl _) o)
theorem Blk.over {w w1 : World} {o : Obj} {g : Nat} {k : Int} {n : Bool} {D E : ByteArray} (h : Blk w g k n D E) (hb : Below (w.alloc o).heap.size (w.alloc o) w1) : Blk w1 g k n D E := (h.alloc' o).next hb
theorem below_over {a w w1 : World} {o : Obj} (h : Below a.heap.size a w) (hb : Below (w.alloc o).heap.size (w.alloc o) w1) : Below a.heap.size a w1 := h.trans ((below_new hb).mono h.size)
theorem below_on {a w w1 : World} (h : Below a.heap.size a w) (hb : Below w.heap.size w w1) : Below a.heap.size a w1 := h.trans (hb.mono h.size)
end Go.Proofs.YtocegiffbgnogaaDoor
