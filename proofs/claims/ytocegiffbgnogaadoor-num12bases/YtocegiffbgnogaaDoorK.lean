/- Small things that all walks of this seat use. Rows of bytes that a call has made: known whole, written, turned to strings. Blocks of memory that hold a decimal. -/
import Derived.Test.YtocegiffbgnogaaDoorM
import Derived.Test.YtocegiffbgnogaaDoorRows
import Derived.WalkKit
import Derived.WalkSpells
import Derived.WalkLawsBesides
import Derived.Deep.QuietTactic
import Derived.BigQuiet
import Derived.Lib.Hide
import Derived.Deep.Light
import Derived.LoopTactic
import Derived.Laws.CopyOwn
import Derived.Laws.OwnMore
import Derived.Lib.IndexBytes
import Derived.Lib.BufferWrite
import Derived.Lib.SlBuf
import Derived.Laws.ResultCell
import Derived.Laws.StructEq
set_option linter.unusedVariables false
namespace Go.Proofs.YtocegiffbgnogaaDoor
open Go.RowKit

theorem ret_int {k : IntKind} {a b : Int} (h : a = b) : Ending.returned (.int k a) = .returned (.int k b) := by rw [h]
theorem ret_bool {a b : Bool} (h : a = b) : Ending.returned (.bool a) = .returned (.bool b) := by rw [h]
theorem ret_str {a b : ByteArray} (h : a = b) : Ending.returned (.string a) = .returned (.string b) := by rw [h]
theorem sz_list (s : ByteArray) : s.size = s.data.toList.length := by cases s; simp [ByteArray.size]
theorem append_list (s t : ByteArray) : (s ++ t).data.toList = s.data.toList ++ t.data.toList := by simp
theorem append_sz (s t : ByteArray) : (s ++ t).size = s.size + t.size := by rw [sz_list, append_list, List.length_append, ← sz_list, ← sz_list]

def bA (l : List UInt8) : ByteArray := ⟨l.toArray⟩
theorem bA_size (l : List UInt8) : (bA l).size = l.length := by simp [bA, ByteArray.size]
theorem bA_toList (l : List UInt8) : (bA l).data.toList = l := by simp [bA]
theorem bA_of (s : ByteArray) : bA s.data.toList = s := by cases s; simp [bA]
theorem eq_bA {s : ByteArray} {l : List UInt8} (h : s.data.toList = l) : s = bA l := by rw [← h, bA_of]
theorem bA_append (l m : List UInt8) : bA l ++ bA m = bA (l ++ m) := by
  apply eq_bA; rw [append_list, bA_toList, bA_toList]
theorem bA_inj {l m : List UInt8} : bA l = bA m ↔ l = m := ⟨fun h => by rw [← bA_toList l, h, bA_toList], fun h => by rw [h]⟩
/-- A whole number's text, as a string. -/
def tx (z : Int) : ByteArray := bA (M.txt z)
theorem tx_size (z : Int) : (tx z).size = (M.txt z).length := bA_size _
theorem tx_list (z : Int) : (tx z).data.toList = M.txt z := bA_toList _
theorem get_list (s : ByteArray) (i : Nat) (h : i < s.size) : s.data.toList[i]? = some s[i] := by
  rw [List.getElem?_eq_getElem (by rw [← sz_list]; exact h)]; rfl
theorem take_snoc (s : ByteArray) (k : Nat) (h : k < s.size) : s.data.toList.take (k + 1) = s.data.toList.take k ++ [s[k]] := by
  rw [List.take_succ_eq_append_getElem (by simpa using h)]; rfl
theorem take_all (s : ByteArray) : s.data.toList.take s.size = s.data.toList := List.take_of_length_le (by rw [← sz_list]; exact Nat.le_refl _)
theorem drop_cons (s : ByteArray) (k : Nat) (h : k < s.size) : s.data.toList.drop k = s[k] :: s.data.toList.drop (k + 1) := by
  rw [List.drop_eq_getElem_cons (by rw [← sz_list]; exact h)]; rfl
theorem below_dN {B : Nat} {a w : World} (h : Below B a w) (n : Nat) : Below B a (w.drewN n) := h.trans ⟨rfl, rfl, rfl, Nat.le_refl _, fun _ _ => rfl⟩
end Go.Proofs.YtocegiffbgnogaaDoor

namespace Go.Proofs.YtocegiffbgnogaaDoor
open Go.RowKit Go.Lib

theorem Tryd.info5 : (Tryd.prog.info? 5).map (fun i => (i.zero, i.size, i.bytes)) = some (some (.int .u8 0), 1, 1) := by kernel_rfl
theorem Tryd.info63 : (Tryd.prog.info? 63).map (fun i => (i.zero, i.size, i.bytes)) = some (some (.int .u64 0), 1, 8) := by kernel_rfl
theorem Tryd.info5s : (Tryd.prog.info? 5).map (·.size) = some 1 := by kernel_rfl

/-- Block g holds just these bytes. -/
def Row (w : World) (g : Nat) (l : List UInt8) : Prop := w.heap[g]? = some (.cells (byteCells l).toArray 5 (0, 0))
theorem byteCells_append (l m : List UInt8) : byteCells (l ++ m) = byteCells l ++ byteCells m := by simp [byteCells]
theorem byteCells_get (l : List UInt8) (j : Nat) : (byteCells l)[j]? = (l[j]?).map fun c => Value.int .u8 (c.toNat : Int) := by simp [byteCells]
theorem Row.cell {w : World} {g : Nat} {l : List UInt8} (h : Row w g l) (j : Nat) (hj : j < l.length) : w.cell? ⟨g, j, none⟩ = some (.int .u8 (l[j].toNat : Int)) := by
  rw [cell_of_row w g j _ 5 (0, 0) h]
  rw [show (byteCells l).toArray[j]? = (byteCells l)[j]? by simp, byteCells_get, List.getElem?_eq_getElem hj]; rfl
theorem Row.frozen {w : World} {g : Nat} {l : List UInt8} (h : Row w g l) (j : Nat) : w.frozen? ⟨g, j, none⟩ = false := frozen_of_row w g j _ 5 h
theorem Row.set {w : World} {g : Nat} {l : List UInt8} (h : Row w g l) (j : Nat) (c : UInt8) : Row (w.setCell ⟨g, j, none⟩ (.int .u8 (c.toNat : Int))) g (l.set j c) := by
  have e := heap_setCell_same w g j _ 5 (.int .u8 (c.toNat : Int)) h
  unfold Row
  rw [e]
  congr 2
  simp [byteCells, List.map_set]
theorem Row.below {w w' : World} {g B : Nat} {l : List UInt8} (h : Row w g l) (hb : Below B w w') (hg : g < B) : Row w' g l := by
  unfold Row; rw [hb.block g hg]; exact h
theorem Row.lt {w : World} {g : Nat} {l : List UInt8} (h : Row w g l) : g < w.heap.size := by
  unfold Row at h
  exact (Array.getElem?_eq_some_iff.1 h).1
theorem Row.made {w : World} {g n B : Nat} (h : w.ownsRow B 5 1 (.slice (some ⟨g, 0, none⟩) n n) n (madeCells (Value.int .u8 0).cells (n * 1)).toList) : Row w g (List.replicate n 0) := by
  rcases h.2 with ⟨h', _⟩ | ⟨g', cap', cur, h', _, hg, _, _, hcs, htake⟩
  · simp at h'
  · simp only [Value.slice.injEq, Option.some.injEq, Addr.mk.injEq, and_true, true_and] at h'
    obtain ⟨rfl, rfl⟩ := h'
    unfold Row
    rw [hg]
    congr 2
    rw [Nat.mul_one] at hcs htake
    rw [List.take_of_length_le (by simp; omega)] at htake
    have e : (madeCells (Value.int .u8 0).cells n).toList = List.replicate n (.int .u8 0) := toList_madeCells_one _ n
    rw [e] at htake
    have : cur = (List.replicate n (Value.int .u8 0)).toArray := by rw [← htake]
    rw [this]
    simp [byteCells]
theorem Row.conv {w : World} {g : Nat} {p l : List UInt8} {q : List UInt8} (h : Row w g (p ++ l ++ q)) (cap : Nat) : (convert 22 9 (.slice (some ⟨g, p.length, none⟩) l.length cap)).run Tryd.prog w = .ok (.string (bA l)) w := by
  refine run_convert_bytes_back w 22 9 5 ⟨g, p.length, none⟩ cap l Tryd.underlying22 Tryd.underlying5 Tryd.underlying9 ?_
  intro j hj
  rw [Addr.add_lit, h.cell (p.length + j) (by simp; omega)]
  congr 3
  simp [hj]
theorem Row.conv0 {w : World} {g : Nat} {l : List UInt8} (h : Row w g l) (cap : Nat) : (convert 22 9 (.slice (some ⟨g, 0, none⟩) l.length cap)).run Tryd.prog w = .ok (.string (bA l)) w := by
  have := Row.conv (p := []) (q := []) (l := l) (by simpa using h) cap
  simpa using this
theorem Row.setRow {w : World} {g : Nat} {l : List UInt8} (h : Row w g l) (m : List UInt8) : Row (w.setRow g (byteCells m).toArray) g m := by
  exact setRow_heap w g _ _ 5 (0, 0) h
theorem set_rep (n : Nat) (c : UInt8) (r : List UInt8) : (List.replicate (n + 1) 0 ++ r).set n c = List.replicate n 0 ++ c :: r := by
  rw [List.replicate_succ', List.append_assoc, List.set_append]
  simp
theorem set_left (l : List UInt8) (n : Nat) (c : UInt8) : (l ++ List.replicate (n + 1) 0).set l.length c = (l ++ [c]) ++ List.replicate n 0 := by
  rw [List.set_append]
  simp [List.replicate_succ]
end Go.Proofs.YtocegiffbgnogaaDoor

namespace Go.Proofs.YtocegiffbgnogaaDoor
open Go.RowKit

/-- A decimal's value. -/
abbrev dV (k : Int) (n : Bool) (D E : ByteArray) : Value := .agg #[.int .i64 k, .bool n, .string D, .string E]
abbrev dZ : Value := dV 0 false ⟨#[]⟩ ⟨#[]⟩
/-- The block g holds a decimal. -/
def Blk (w : World) (g : Nat) (k : Int) (n : Bool) (D E : ByteArray) : Prop := w.heap[g]? = some (.cells #[.int .i64 k, .bool n, .string D, .string E] 28 (0, 0))
theorem Blk.lt {w : World} {g : Nat} {k : Int} {n : Bool} {D E : ByteArray} (h : Blk w g k n D E) : g < w.heap.size := (Array.getElem?_eq_some_iff.1 h).1
theorem Blk.below {w w' : World} {g B : Nat} {k : Int} {n : Bool} {D E : ByteArray} (h : Blk w g k n D E) (hb : Below B w w') (hg : g < B) : Blk w' g k n D E := (hb.block g hg).trans h
theorem Blk.next {w w' : World} {g : Nat} {k : Int} {n : Bool} {D E : ByteArray} (h : Blk w g k n D E) (hb : Below w.heap.size w w') : Blk w' g k n D E := h.below hb h.lt
theorem Blk.made (w : World) (k : Int) (n : Bool) (D E : ByteArray) : Blk (w.alloc (.cells #[.int .i64 k, .bool n, .string D, .string E] 28)) w.heap.size k n D E := by
  unfold Blk
  show (w.heap.push _)[w.heap.size]? = _
  simp
theorem Blk.cells {w : World} {g : Nat} {k : Int} {n : Bool} {D E : ByteArray} (h : Blk w g k n D E) :
    w.cell? ⟨g, 0, none⟩ = some (.int .i64 k) ∧ w.cell? ⟨g, 1, none⟩ = some (.bool n) ∧ w.cell? ⟨g, 2, none⟩ = some (.string D) ∧ w.cell? ⟨g, 3, none⟩ = some (.string E) := by
  unfold Blk at h
  refine ⟨?_, ?_, ?_, ?_⟩ <;> simp [World.cell?, h]
theorem Blk.frozen {w : World} {g : Nat} {k : Int} {n : Bool} {D E : ByteArray} (h : Blk w g k n D E) (j : Nat) : w.frozen? ⟨g, j, none⟩ = false := frozen_of_row w g j _ 28 h
theorem Blk.fro {w : World} {g : Nat} {k : Int} {n : Bool} {D E : ByteArray} (h : Blk w g k n D E) : w.frozen? ⟨g, 0, none⟩ = false ∧ w.frozen? ⟨g, 1, none⟩ = false ∧ w.frozen? ⟨g, 2, none⟩ = false ∧ w.frozen? ⟨g, 3, none⟩ = false := ⟨h.frozen 0, h.frozen 1, h.frozen 2, h.frozen 3⟩
/-- A decimal stored. -/
abbrev set4 (w : World) (g : Nat) (k : Int) (n : Bool) (D E : ByteArray) : World :=
  (((w.setCell ⟨g, 0, none⟩ (.int .i64 k)).setCell ⟨g, 1, none⟩ (.bool n)).setCell ⟨g, 2, none⟩ (.string D)).setCell ⟨g, 3, none⟩ (.string E)
theorem Blk.set {w : World} {g : Nat} {k : Int} {n : Bool} {D E : ByteArray} (h : Blk w g k n D E) (k' : Int) (n' : Bool) (D' E' : ByteArray) : Blk (set4 w g k' n' D' E') g k' n' D' E' := by
  unfold Blk at h ⊢
  have h0 := Go.heap_setCell_same w g 0 _ 28 (.int .i64 k') h
  have h1 := Go.heap_setCell_same _ g 1 _ 28 (.bool n') h0
  have h2 := Go.heap_setCell_same _ g 2 _ 28 (.string D') h1
  have h3 := Go.heap_setCell_same _ g 3 _ 28 (.string E') h2
  rw [h3]; rfl
theorem below_set4 {B : Nat} {a w : World} (h : Below B a w) {g : Nat} (hg : B ≤ g) (k : Int) (n : Bool) (D E : ByteArray) : Below B a (set4 w g k n D E) :=
  ((((h.setCell (p := ⟨g, 0, none⟩) hg _).setCell (p := ⟨g, 1, none⟩) hg _).setCell (p := ⟨g, 2, none⟩) hg _).setCell (p := ⟨g, 3, none⟩) hg _)
theorem load_blk {w : World} {g : Nat} {k : Int} {n : Bool} {D E : ByteArray} (h : Blk w g k n D E) : (loadVar 28 ⟨g, 0, none⟩).run Tryd.prog w = .ok (dV k n D E) w := by
  obtain ⟨k0, k1, k2, k3⟩ := h.cells
  simp [go_sem, loadVar, Tryd.isAgg28, Tryd.sizeOf28, k0, k1, k2, k3]
theorem ret_dec {fn : Func} {p u : Tmp} {g : Nat} {k : Int} {n b : Bool} {D E : ByteArray} {w : World} (h : fn.results = #[.cell p 28, .tmp u]) (tmps : Array Value) (hp : tmps.getD p undef = .pointer (some ⟨g, 0, none⟩)) (hu : tmps.getD u undef = .bool b)
    (hB : Blk w g k n D E) : (results fn tmps).run Tryd.prog w = .ok (.tuple #[dV k n D E, .bool b]) w := by
  rw [results_cell_tmp h, hp, hu]
  have := load_blk hB
  simp [asAddr, Result.andThen, this]
end Go.Proofs.YtocegiffbgnogaaDoor
