/- Rows of bytes that a call has made: known whole, written, turned to strings. -/
import Derived.Test.YthgkmcidlcdjlaaDoorK
import Derived.Lib.BufferWrite
import Derived.Lib.SlBuf
set_option linter.unusedVariables false
namespace Go.Proofs.YthgkmcidlcdjlaaDoor
open Go.RowKit Go.Lib

theorem Tryd.info5 : (Tryd.prog.info? 5).map (fun i => (i.zero, i.size, i.bytes)) = some (some (.int .u8 0), 1, 1) := by kernel_rfl
theorem Tryd.info60 : (Tryd.prog.info? 60).map (fun i => (i.zero, i.size, i.bytes)) = some (some (.int .u64 0), 1, 8) := by kernel_rfl
theorem Tryd.info5s : (Tryd.prog.info? 5).map (·.size) = some 1 := by kernel_rfl

/-- Block g holds just these bytes. -/
def Row (w : World) (g : Nat) (l : List UInt8) : Prop := w.heap[g]? = some (.cells (byteCells l).toArray 5 (0, 0))
theorem byteCells_append (l m : List UInt8) : byteCells (l ++ m) = byteCells l ++ byteCells m := by simp [byteCells]
theorem byteCells_get (l : List UInt8) (j : Nat) : (byteCells l)[j]? = (l[j]?).map fun c => Value.int .u8 (c.toNat : Int) := by simp [byteCells]
theorem Row.cell {w : World} {g : Nat} {l : List UInt8} (h : Row w g l) (j : Nat) (hj : j < l.length) : w.cell? ⟨g, j, none⟩ = some (.int .u8 (l[j].toNat : Int)) := by
  rw [cell_of_row w g j _ 5 (0, 0) h]
  rw [show (byteCells l).toArray[j]? = (byteCells l)[j]? by simp, byteCells_get, List.getElem?_eq_getElem hj]; rfl
theorem Row.frozen {w : World} {g : Nat} {l : List UInt8} (h : Row w g l) (j : Nat) : w.frozen? ⟨g, j, none⟩ = false := frozen_of_row w g j _ 5 h
theorem Row.set {w : World} {g : Nat} {l : List UInt8} (h : Row w g l) (j : Nat) (c : UInt8) : Row (w.setCell ⟨g, j, none⟩ (.int .u8 (c.toNat : Int))) g (l.set j c) := by
  have e := heap_setCell_same w g j _ 5 (.int .u8 (c.toNat : Int)) h
  unfold Row
  rw [e]
  congr 2
  simp [byteCells, List.map_set]
theorem Row.below {w w' : World} {g B : Nat} {l : List UInt8} (h : Row w g l) (hb : Below B w w') (hg : g < B) : Row w' g l := by
  unfold Row; rw [hb.block g hg]; exact h
theorem Row.lt {w : World} {g : Nat} {l : List UInt8} (h : Row w g l) : g < w.heap.size := by
  unfold Row at h
  exact (Array.getElem?_eq_some_iff.1 h).1
theorem Row.made {w : World} {g n B : Nat} (h : w.ownsRow B 5 1 (.slice (some ⟨g, 0, none⟩) n n) n (madeCells (Value.int .u8 0).cells (n * 1)).toList) : Row w g (List.replicate n 0) := by
  rcases h.2 with ⟨h', _⟩ | ⟨g', cap', cur, h', _, hg, _, _, hcs, htake⟩
  · simp at h'
  · simp only [Value.slice.injEq, Option.some.injEq, Addr.mk.injEq, and_true, true_and] at h'
    obtain ⟨rfl, rfl⟩ := h'
    unfold Row
    rw [hg]
    congr 2
    rw [Nat.mul_one] at hcs htake
    rw [List.take_of_length_le (by simp; omega)] at htake
    have e : (madeCells (Value.int .u8 0).cells n).toList = List.replicate n (.int .u8 0) := toList_madeCells_one _ n
    rw [e] at htake
    have : cur = (List.replicate n (Value.int .u8 0)).toArray := by rw [← htake]
    rw [this]
    simp [byteCells]
theorem Row.conv {w : World} {g : Nat} {p l : List UInt8} {q : List UInt8} (h : Row w g (p ++ l ++ q)) (cap : Nat) : (convert 22 9 (.slice (some ⟨g, p.length, none⟩) l.length cap)).run Tryd.prog w = .ok (.string (bA l)) w := by
  refine run_convert_bytes_back w 22 9 5 ⟨g, p.length, none⟩ cap l Tryd.underlying22 Tryd.underlying5 Tryd.underlying9 ?_
  intro j hj
  rw [Addr.add_lit, h.cell (p.length + j) (by simp; omega)]
  congr 3
  simp [hj]
theorem Row.conv0 {w : World} {g : Nat} {l : List UInt8} (h : Row w g l) (cap : Nat) : (convert 22 9 (.slice (some ⟨g, 0, none⟩) l.length cap)).run Tryd.prog w = .ok (.string (bA l)) w := by
  have := Row.conv (p := []) (q := []) (l := l) (by simpa using h) cap
  simpa using this
theorem Row.setRow {w : World} {g : Nat} {l : List UInt8} (h : Row w g l) (m : List UInt8) : Row (w.setRow g (byteCells m).toArray) g m := by
  exact setRow_heap w g _ _ 5 (0, 0) h
theorem set_rep (n : Nat) (c : UInt8) (r : List UInt8) : (List.replicate (n + 1) 0 ++ r).set n c = List.replicate n 0 ++ c :: r := by
  rw [List.replicate_succ', List.append_assoc, List.set_append]
  simp
theorem set_left (l : List UInt8) (n : Nat) (c : UInt8) : (l ++ List.replicate (n + 1) 0).set l.length c = (l ++ [c]) ++ List.replicate n 0 := by
  rw [List.set_append]
  simp [List.replicate_succ]
end Go.Proofs.YthgkmcidlcdjlaaDoor
