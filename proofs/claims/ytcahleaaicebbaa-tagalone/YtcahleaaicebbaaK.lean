/- Small things that all walks of this seat use. Blocks of memory that hold a tag. -/
import Derived.Test.YtcahleaaicebbaaMa
import Derived.Test.YtcahleaaicebbaaRows
import Derived.WalkKit
import Derived.WalkSpells
import Derived.WalkLawsBesides
import Derived.WalkMore
import Derived.BigRegion
import Derived.Lib.LaidTab
import Derived.Deep.QuietTactic
import Derived.BigQuiet
import Derived.Lib.Hide
import Derived.Deep.Light
import Derived.LoopTactic
import Derived.Laws.Rows
import Derived.Laws.Tables
import Derived.Laws.CopyOwn
import Derived.Laws.ResultCell
import Derived.Laws.StructEq
import Derived.Deep.WholeRow
import Derived.IntWalk
import Derived.Deep.RegionHeld3
set_option linter.unusedVariables false
namespace Go.Proofs.Ytcahleaaicebbaa
open Go.RowKit
open Go

theorem takeH {P : Program} {md : Region.Mode} {ops : Array Oper} {Q : Exit → Act → World → Prop} {S : World → Prop} {i : Nat} {oi : Oper} {v : Value} {fuel : Nat} {listed : Array Bool} {a : Act} {w : World} (d : Option Tmp) (hd : oi.dst = d) (hi : ops[i]? = some oi)
    (hs : Region.noSelect ops = true) (hf : Region.free md ops listed i = true) (hr : (Region.ready md ops listed).contains i = true)
    (hQ : ∀ c a w, Q (.panic c) (a.put oi.dst v) w → Q (.panic c) a w) (hy : YieldsIf P ops S oi v a) (hS : S w)
    (h : wpAnyH P md ops Q S fuel (listed.setIfInBounds i true) (a.put d v) w) : wpAnyH P md ops Q S (fuel + 1) listed a w := by
  subst hd
  exact wpAnyH_take hi hs hf hr hQ hy hS h

/-- Ten slots of which nothing is known. -/
structure V10 where
  a : Value
  b : Value
  c : Value
  d : Value
  e : Value
  f : Value
  g : Value
  h : Value
  i : Value
  j : Value
theorem ret_int {k : IntKind} {a b : Int} (h : a = b) : Ending.returned (.int k a) = .returned (.int k b) := by rw [h]
theorem ret_bool {a b : Bool} (h : a = b) : Ending.returned (.bool a) = .returned (.bool b) := by rw [h]
theorem ret_str {a b : ByteArray} (h : a = b) : Ending.returned (.string a) = .returned (.string b) := by rw [h]
theorem sz_list (s : ByteArray) : s.size = s.data.toList.length := by cases s; simp [ByteArray.size]
theorem append_list (s t : ByteArray) : (s ++ t).data.toList = s.data.toList ++ t.data.toList := by simp
theorem append_sz (s t : ByteArray) : (s ++ t).size = s.size + t.size := by rw [sz_list, append_list, List.length_append, ← sz_list, ← sz_list]
def bA (l : List UInt8) : ByteArray := ⟨l.toArray⟩
theorem bA_size (l : List UInt8) : (bA l).size = l.length := by simp [bA, ByteArray.size]
theorem bA_toList (l : List UInt8) : (bA l).data.toList = l := by simp [bA]
theorem bA_of (s : ByteArray) : bA s.data.toList = s := by cases s; simp [bA]
theorem eq_bA {s : ByteArray} {l : List UInt8} (h : s.data.toList = l) : s = bA l := by rw [← h, bA_of]
theorem bA_append (l m : List UInt8) : bA l ++ bA m = bA (l ++ m) := by
  apply eq_bA; rw [append_list, bA_toList, bA_toList]
theorem bA_inj {l m : List UInt8} : bA l = bA m ↔ l = m := ⟨fun h => by rw [← bA_toList l, h, bA_toList], fun h => by rw [h]⟩
theorem get_list (s : ByteArray) (i : Nat) (h : i < s.size) : s.data.toList[i]? = some s[i] := by
  rw [List.getElem?_eq_getElem (by rw [← sz_list]; exact h)]; rfl
theorem take_snoc (s : ByteArray) (k : Nat) (h : k < s.size) : s.data.toList.take (k + 1) = s.data.toList.take k ++ [s[k]] := by
  rw [List.take_succ_eq_append_getElem (by simpa using h)]; rfl
theorem take_all (s : ByteArray) : s.data.toList.take s.size = s.data.toList := List.take_of_length_le (by rw [← sz_list]; exact Nat.le_refl _)
theorem drop_cons (s : ByteArray) (k : Nat) (h : k < s.size) : s.data.toList.drop k = s[k] :: s.data.toList.drop (k + 1) := by
  rw [List.drop_eq_getElem_cons (by rw [← sz_list]; exact h)]; rfl
theorem drop_nil (s : ByteArray) (k : Nat) (h : s.size ≤ k) : s.data.toList.drop k = [] := List.drop_of_length_le (by rw [← sz_list]; exact h)
theorem below_dN {B : Nat} {a w : World} (h : Below B a w) (n : Nat) : Below B a (w.drewN n) := h.trans ⟨rfl, rfl, rfl, Nat.le_refl _, fun _ _ => rfl⟩
def intOf : Value → Int | .int _ q => q | _ => 0
theorem neC {c : UInt8} {k : Nat} (hk : k < 256) (h : ¬ c = UInt8.ofNat k) : ((c.toNat : Int) == (k : Int)) = false := by
  refine beq_eq_false_iff_ne.2 fun e => h (UInt8.toNat_inj.1 ?_)
  have : c.toNat = k := by omega
  rw [this]; simp; omega

theorem get_l {s : ByteArray} {k : Nat} {c : UInt8} (h : s.data.toList[k]? = some c) : ∃ hk : k < s.size, s[k] = c := by
  obtain ⟨hk, e⟩ := List.getElem?_eq_some_iff.1 h
  refine ⟨by rw [sz_list]; exact hk, ?_⟩
  rw [← e]; rfl
theorem below_new {w w1 : World} {o : Obj} (h : Below (w.alloc o).heap.size (w.alloc o) w1) : Below w.heap.size w w1 := ((Below.refl _ _).alloc (Nat.le_refl _) _).trans (h.mono (by simp))
theorem extract_list (s : ByteArray) (i j : Nat) (h : i ≤ j) : (s.extract i j).data.toList = M.cut s.data.toList i j := by
  rw [ByteArray.data_extract, Array.toList_extract, List.extract_eq_take_drop]; rfl
theorem extract_bA (s : ByteArray) (i j : Nat) (h : i ≤ j) : s.extract i j = bA (M.cut s.data.toList i j) := eq_bA (extract_list s i j h)

theorem results_cell2 {fn : Func} {p u v : Tmp} {ty : TypeId} (h : fn.results = #[.cell p ty, .tmp u, .tmp v]) (tmps : Array Value) (P : Program) (w : World) :
    (results fn tmps).run P w =
      ((asAddr (tmps.getD p undef)).run P w).andThen fun a w₁ => ((loadVar ty a).run P w₁).andThen fun x w₂ => .ok (.tuple #[x, tmps.getD u undef, tmps.getD v undef]) w₂ := by
  simp only [results, h]
  simp [Sem.run_bind, Result.andThen]

/-- A tag's value. -/
abbrev tV (v : Bool) (H S : ByteArray) : Value := .agg #[.bool v, .string H, .string S]
abbrev tZ : Value := tV false ⟨#[]⟩ ⟨#[]⟩
def tgV (t : M.Tg) : Value := tV t.v (bA t.h) (bA t.s)
/-- The block g holds a tag. -/
def Blk (w : World) (g : Nat) (v : Bool) (H S : ByteArray) : Prop := w.heap[g]? = some (.cells #[.bool v, .string H, .string S] 23 (0, 0))
section
variable {w w' : World} {g B : Nat} {v : Bool} {H S : ByteArray}
theorem Blk.lt (h : Blk w g v H S) : g < w.heap.size := (Array.getElem?_eq_some_iff.1 h).1
theorem Blk.below (h : Blk w g v H S) (hb : Below B w w') (hg : g < B) : Blk w' g v H S := (hb.block g hg).trans h
theorem Blk.next (h : Blk w g v H S) (hb : Below w.heap.size w w') : Blk w' g v H S := h.below hb h.lt
theorem Blk.made (w : World) (v : Bool) (H S : ByteArray) : Blk (w.alloc (.cells #[.bool v, .string H, .string S] 23)) w.heap.size v H S := by
  unfold Blk
  show (w.heap.push _)[w.heap.size]? = _
  simp
theorem Blk.cells (h : Blk w g v H S) : w.cell? ⟨g, 0, none⟩ = some (.bool v) ∧ w.cell? ⟨g, 1, none⟩ = some (.string H) ∧ w.cell? ⟨g, 2, none⟩ = some (.string S) := by
  unfold Blk at h
  refine ⟨?_, ?_, ?_⟩ <;> simp [World.cell?, h]
theorem Blk.frozen (h : Blk w g v H S) (j : Nat) : w.frozen? ⟨g, j, none⟩ = false := frozen_of_row w g j _ 23 h
theorem Blk.fro (h : Blk w g v H S) : w.frozen? ⟨g, 0, none⟩ = false ∧ w.frozen? ⟨g, 1, none⟩ = false ∧ w.frozen? ⟨g, 2, none⟩ = false := ⟨h.frozen 0, h.frozen 1, h.frozen 2⟩
/-- A tag stored. -/
abbrev set3 (w : World) (g : Nat) (v : Bool) (H S : ByteArray) : World :=
  ((w.setCell ⟨g, 0, none⟩ (.bool v)).setCell ⟨g, 1, none⟩ (.string H)).setCell ⟨g, 2, none⟩ (.string S)
theorem Blk.set (h : Blk w g v H S) (v' : Bool) (H' S' : ByteArray) : Blk (set3 w g v' H' S') g v' H' S' := by
  unfold Blk at h ⊢
  have h0 := Go.heap_setCell_same w g 0 _ 23 (.bool v') h
  have h1 := Go.heap_setCell_same _ g 1 _ 23 (.string H') h0
  have h2 := Go.heap_setCell_same _ g 2 _ 23 (.string S') h1
  rw [h2]; rfl
theorem below_set3 {a w : World} (h : Below B a w) {g : Nat} (hg : B ≤ g) (v : Bool) (H S : ByteArray) : Below B a (set3 w g v H S) :=
  (((h.setCell (p := ⟨g, 0, none⟩) hg _).setCell (p := ⟨g, 1, none⟩) hg _).setCell (p := ⟨g, 2, none⟩) hg _)
theorem load_blk (h : Blk w g v H S) : (loadVar 23 ⟨g, 0, none⟩).run Try.prog w = .ok (tV v H S) w := by
  obtain ⟨k0, k1, k2⟩ := h.cells
  simp [go_sem, loadVar, Try.isAgg23, Try.sizeOf23, k0, k1, k2]
theorem ret_tag {fn : Func} {p u x : Tmp} {b : Bool} {n : Int} (h : fn.results = #[.cell p 23, .tmp u, .tmp x]) (tmps : Array Value) (hp : tmps.getD p undef = .pointer (some ⟨g, 0, none⟩)) (hu : tmps.getD u undef = .int .i64 n) (hx : tmps.getD x undef = .bool b)
    (hB : Blk w g v H S) : (results fn tmps).run Try.prog w = .ok (.tuple #[tV v H S, .int .i64 n, .bool b]) w := by
  rw [results_cell2 h, hp, hu, hx]
  have := load_blk hB
  simp [asAddr, Result.andThen, this]
end

theorem eqG (op : BinOp) (x y : Operand) (xs ys : Array Value) (w : World) : (eqGuard op 23 x y (.agg xs) (.agg ys)).run Try.prog w = .ok () w := run_eqGuard_agg w op 23 x y xs ys (by kernel_rfl)
theorem beq_bytes (a b : ByteArray) : (a.toList == b.toList) = decide (a = b) := by
  rw [Bool.eq_iff_iff, decide_eq_true_eq, beq_iff_eq, ByteArray.toList_eq, ByteArray.toList_eq]
  constructor
  · intro h; rw [← bA_of a, ← bA_of b, h]
  · intro h; rw [h]
theorem toList_iff (a b : ByteArray) : a.toList = b.toList ↔ a = b := by
  have := beq_bytes a b
  rw [Bool.eq_iff_iff, decide_eq_true_eq, beq_iff_eq] at this
  exact this
theorem eqIn3 (n n' : Bool) (D D' E E' : ByteArray) (w : World) : (Op.equalIn 10000 23 (tV n D E) (tV n' D' E')).run Try.prog w = .ok (decide (n = n' ∧ D = D' ∧ E = E')) w := by
  have u4 := Try.underlying4
  have a4 := Try.isAgg4
  have z4 := Try.sizeOf4
  have u9 := Try.underlying9
  have a9 := Try.isAgg9
  have z9 := Try.sizeOf9
  have hS : Try.prog.underlying 23 = some (.struct (Try.prog.fieldsOf 23)) := by kernel_rfl
  have hp : Try.prog.stoodInHeld 23 = false := by kernel_rfl
  rw [show (10000 : Nat) = 9999 + 1 from rfl, run_equalIn_agg w 9999 23 _ _ hS hp]
  simp only [Program.fieldsOf, Try.underlying23]
  go_simp
  simp only [toList_iff]
  by_cases h2 : n = n' <;> by_cases h3 : D = D' <;> by_cases h4 : E = E' <;> simp [h2, h3, h4]
theorem eql3 (n n' : Bool) (D D' E E' : ByteArray) (w : World) : (binOp .eql 23 (tV n D E) (tV n' D' E')).run Try.prog w = .ok (.bool (decide (n = n' ∧ D = D' ∧ E = E'))) w := by
  rw [run_eql_struct, eqIn3]; rfl
theorem neq3 (n n' : Bool) (D D' E E' : ByteArray) (w : World) : (binOp .neq 23 (tV n D E) (tV n' D' E')).run Try.prog w = .ok (.bool (!decide (n = n' ∧ D = D' ∧ E = E'))) w := by
  rw [run_neq_struct, eqIn3]; rfl
end Go.Proofs.Ytcahleaaicebbaa
