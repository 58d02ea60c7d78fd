/- Small things that all walks of this seat use. Rows of bytes in memory; the table of signs. -/
import Derived.Test.YthhhmmogefpcgaaDoorMa
import Derived.Test.YthhhmmogefpcgaaDoorRows
import Derived.WalkKit
import Derived.WalkSpells
import Derived.WalkLawsBesides
import Derived.WalkMore
import Derived.BigRegion
import Derived.Lib.LaidTab
import Derived.Deep.QuietTactic
import Derived.BigQuiet
import Derived.Lib.Hide
import Derived.Deep.Light
import Derived.LoopTactic
import Derived.Laws.Rows
import Derived.Laws.Tables
import Derived.Laws.CopyOwn
import Derived.Laws.ResultCell
import Derived.Deep.WholeRow
import Derived.IntWalk
import Derived.Deep.RegionHeld3
set_option linter.unusedVariables false
namespace Go.Proofs.YthhhmmogefpcgaaDoor
open Go.RowKit
open Go

theorem takeH {P : Program} {md : Region.Mode} {ops : Array Oper} {Q : Exit → Act → World → Prop} {S : World → Prop} {i : Nat} {oi : Oper} {v : Value} {fuel : Nat} {listed : Array Bool} {a : Act} {w : World} (d : Option Tmp) (hd : oi.dst = d) (hi : ops[i]? = some oi)
    (hs : Region.noSelect ops = true) (hf : Region.free md ops listed i = true) (hr : (Region.ready md ops listed).contains i = true)
    (hQ : ∀ c a w, Q (.panic c) (a.put oi.dst v) w → Q (.panic c) a w) (hy : YieldsIf P ops S oi v a) (hS : S w)
    (h : wpAnyH P md ops Q S fuel (listed.setIfInBounds i true) (a.put d v) w) : wpAnyH P md ops Q S (fuel + 1) listed a w := by
  subst hd
  exact wpAnyH_take hi hs hf hr hQ hy hS h

/-- Ten slots of which nothing is known. -/
structure V10 where
  a : Value
  b : Value
  c : Value
  d : Value
  e : Value
  f : Value
  g : Value
  h : Value
  i : Value
  j : Value
theorem ret_int {k : IntKind} {a b : Int} (h : a = b) : Ending.returned (.int k a) = .returned (.int k b) := by rw [h]
theorem ret_bool {a b : Bool} (h : a = b) : Ending.returned (.bool a) = .returned (.bool b) := by rw [h]
theorem ret_str {a b : ByteArray} (h : a = b) : Ending.returned (.string a) = .returned (.string b) := by rw [h]
theorem sz_list (s : ByteArray) : s.size = s.data.toList.length := by cases s; simp [ByteArray.size]
theorem append_list (s t : ByteArray) : (s ++ t).data.toList = s.data.toList ++ t.data.toList := by simp
theorem append_sz (s t : ByteArray) : (s ++ t).size = s.size + t.size := by rw [sz_list, append_list, List.length_append, ← sz_list, ← sz_list]
def bA (l : List UInt8) : ByteArray := ⟨l.toArray⟩
theorem bA_size (l : List UInt8) : (bA l).size = l.length := by simp [bA, ByteArray.size]
theorem bA_toList (l : List UInt8) : (bA l).data.toList = l := by simp [bA]
theorem bA_of (s : ByteArray) : bA s.data.toList = s := by cases s; simp [bA]
theorem eq_bA {s : ByteArray} {l : List UInt8} (h : s.data.toList = l) : s = bA l := by rw [← h, bA_of]
theorem bA_append (l m : List UInt8) : bA l ++ bA m = bA (l ++ m) := by
  apply eq_bA; rw [append_list, bA_toList, bA_toList]
theorem bA_inj {l m : List UInt8} : bA l = bA m ↔ l = m := ⟨fun h => by rw [← bA_toList l, h, bA_toList], fun h => by rw [h]⟩
theorem get_list (s : ByteArray) (i : Nat) (h : i < s.size) : s.data.toList[i]? = some s[i] := by
  rw [List.getElem?_eq_getElem (by rw [← sz_list]; exact h)]; rfl
theorem take_snoc (s : ByteArray) (k : Nat) (h : k < s.size) : s.data.toList.take (k + 1) = s.data.toList.take k ++ [s[k]] := by
  rw [List.take_succ_eq_append_getElem (by simpa using h)]; rfl
theorem take_all (s : ByteArray) : s.data.toList.take s.size = s.data.toList := List.take_of_length_le (by rw [← sz_list]; exact Nat.le_refl _)
theorem drop_cons (s : ByteArray) (k : Nat) (h : k < s.size) : s.data.toList.drop k = s[k] :: s.data.toList.drop (k + 1) := by
  rw [List.drop_eq_getElem_cons (by rw [← sz_list]; exact h)]; rfl
theorem drop_nil (s : ByteArray) (k : Nat) (h : s.size ≤ k) : s.data.toList.drop k = [] := List.drop_of_length_le (by rw [← sz_list]; exact h)
theorem below_dN {B : Nat} {a w : World} (h : Below B a w) (n : Nat) : Below B a (w.drewN n) := h.trans ⟨rfl, rfl, rfl, Nat.le_refl _, fun _ _ => rfl⟩
def intOf : Value → Int | .int _ q => q | _ => 0
theorem neC {c : UInt8} {k : Nat} (hk : k < 256) (h : ¬ c = UInt8.ofNat k) : ((c.toNat : Int) == (k : Int)) = false := by
  refine beq_eq_false_iff_ne.2 fun e => h (UInt8.toNat_inj.1 ?_)
  have : c.toNat = k := by omega
  rw [this]; simp; omega


/-- n cells, the byte at j is f j. -/
def rowN (n : Nat) (f : Nat → Nat) : Array Value := ((List.range n).map fun j => Value.int .u8 (f j : Int)).toArray
theorem rowN_size (n : Nat) (f : Nat → Nat) : (rowN n f).size = n := by simp [rowN]
theorem rowN_get (n : Nat) (f : Nat → Nat) (j : Nat) (h : j < n) : (rowN n f)[j]? = some (.int .u8 (f j : Int)) := by simp [rowN, h]
theorem rowN_one (n : Nat) (f : Nat → Nat) : (rowN n f).all (·.oneCell') = true := by simp [rowN, Value.oneCell']
theorem rowN_set (n : Nat) (f : Nat → Nat) (j x : Nat) (h : j < n) : (rowN n f).setIfInBounds j (.int .u8 (x : Int)) = rowN n fun i => if i = j then x else f i := by
  apply Array.ext_getElem?
  intro i
  rw [Array.getElem?_setIfInBounds]
  by_cases hi : i < n
  · rw [rowN_get _ _ _ hi]
    by_cases hj : j = i
    · subst hj; rw [if_pos rfl, if_pos (by rw [rowN_size]; exact h), rowN_get _ _ _ hi, if_pos rfl]
    · rw [if_neg hj, rowN_get _ _ _ hi, if_neg (fun e => hj e.symm)]
  · have e1 : (rowN n fun i => if i = j then x else f i)[i]? = none := Array.getElem?_eq_none (by rw [rowN_size]; omega)
    rw [e1, if_neg (by omega)]
    exact Array.getElem?_eq_none (by rw [rowN_size]; omega)
theorem rowN_congr {n : Nat} {f g : Nat → Nat} (h : ∀ j, j < n → f j = g j) : rowN n f = rowN n g := by
  unfold rowN
  congr 1
  apply List.map_congr_left
  intro j hj
  rw [h j (List.mem_range.1 hj)]
/-- The signs as numbers. -/
def sgI : List Int := [65, 66, 67, 68, 69, 70, 71, 72, 73, 74, 75, 76, 77, 78, 79, 80, 81, 82, 83, 84, 85, 86, 87, 88, 89, 90, 97, 98, 99, 100, 101, 102, 103, 104, 105, 106, 107, 108, 109, 110, 111, 112, 113, 114, 115, 116, 117, 118, 119, 120, 121, 122, 48, 49, 50, 51, 52, 53, 54, 55, 56, 57, 43, 47]
theorem sgI_get : ∀ k, k < 64 → sgI[k]? = some (((M.sg k).toNat : Nat) : Int) := by decide +kernel
def sgRow : Array Value := rowN 64 fun k => (M.sg k).toNat
theorem sgI_row : (sgI.map fun z => Value.int .u8 z).toArray = sgRow := by kernel_rfl
/-- The table of signs lies there. -/
def Tab (w : World) : Prop := Lib.TabIs Tryd.prog w "targum/bin.signs" .u8 sgI
theorem tabG : Tryd.prog.globalNamed "targum/bin.signs" = some 0 := by kernel_rfl
end Go.Proofs.YthhhmmogefpcgaaDoor
