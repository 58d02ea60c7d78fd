/- Small things that all walks of this seat use. -/
import Derived.Test.YthgkmcidlcdjlaaDoorMp
import Derived.Test.YthgkmcidlcdjlaaDoorRows
import Derived.Test.YthgkmcidlcdjlaaDoorM
import Derived.WalkKit
import Derived.WalkSpells
import Derived.WalkLawsBesides
import Derived.Deep.QuietTactic
import Derived.BigQuiet
import Derived.Lib.Hide
import Derived.Deep.Light
import Derived.LoopTactic
import Derived.Laws.CopyOwn
import Derived.Laws.OwnMore
import Derived.Lib.IndexBytes
namespace Go.Proofs.YthgkmcidlcdjlaaDoor
open Go.RowKit

theorem ret_int {k : IntKind} {a b : Int} (h : a = b) : Ending.returned (.int k a) = .returned (.int k b) := by rw [h]
theorem ret_bool {a b : Bool} (h : a = b) : Ending.returned (.bool a) = .returned (.bool b) := by rw [h]
theorem ret_str {a b : ByteArray} (h : a = b) : Ending.returned (.string a) = .returned (.string b) := by rw [h]
theorem sz_list (s : ByteArray) : s.size = s.data.toList.length := by cases s; simp [ByteArray.size]
theorem append_list (s t : ByteArray) : (s ++ t).data.toList = s.data.toList ++ t.data.toList := by simp
theorem append_sz (s t : ByteArray) : (s ++ t).size = s.size + t.size := by rw [sz_list, append_list, List.length_append, ← sz_list, ← sz_list]

def bA (l : List UInt8) : ByteArray := ⟨l.toArray⟩
theorem bA_size (l : List UInt8) : (bA l).size = l.length := by simp [bA, ByteArray.size]
theorem bA_toList (l : List UInt8) : (bA l).data.toList = l := by simp [bA]
theorem bA_of (s : ByteArray) : bA s.data.toList = s := by cases s; simp [bA]
theorem eq_bA {s : ByteArray} {l : List UInt8} (h : s.data.toList = l) : s = bA l := by rw [← h, bA_of]
theorem bA_append (l m : List UInt8) : bA l ++ bA m = bA (l ++ m) := by
  apply eq_bA; rw [append_list, bA_toList, bA_toList]
theorem bA_inj {l m : List UInt8} : bA l = bA m ↔ l = m := ⟨fun h => by rw [← bA_toList l, h, bA_toList], fun h => by rw [h]⟩
/-- A whole number's text, as a string. -/
def tx (z : Int) : ByteArray := bA (M.txt z)
theorem tx_size (z : Int) : (tx z).size = (M.txt z).length := bA_size _
theorem tx_list (z : Int) : (tx z).data.toList = M.txt z := bA_toList _
theorem get_list (s : ByteArray) (i : Nat) (h : i < s.size) : s.data.toList[i]? = some s[i] := by
  rw [List.getElem?_eq_getElem (by rw [← sz_list]; exact h)]; rfl
theorem take_snoc (s : ByteArray) (k : Nat) (h : k < s.size) : s.data.toList.take (k + 1) = s.data.toList.take k ++ [s[k]] := by
  rw [List.take_succ_eq_append_getElem (by simpa using h)]; rfl
theorem take_all (s : ByteArray) : s.data.toList.take s.size = s.data.toList := List.take_of_length_le (by rw [← sz_list]; exact Nat.le_refl _)
theorem drop_cons (s : ByteArray) (k : Nat) (h : k < s.size) : s.data.toList.drop k = s[k] :: s.data.toList.drop (k + 1) := by
  rw [List.drop_eq_getElem_cons (by rw [← sz_list]; exact h)]; rfl
theorem below_dN {B : Nat} {a w : World} (h : Below B a w) (n : Nat) : Below B a (w.drewN n) := h.trans ⟨rfl, rfl, rfl, Nat.le_refl _, fun _ _ => rfl⟩
end Go.Proofs.YthgkmcidlcdjlaaDoor
