/- Lines that are a whole text: Marker, Indent, Blank; what they say of texts that are made so. -/
import Derived.Test.YtnmfiadljhbmiaaDoorWi
import Derived.Test.YtnmfiadljhbmiaaDoorWf
set_option linter.unusedVariables false
namespace Go.Proofs.YtnmfiadljhbmiaaDoor
open Go.RowKit

theorem cont_all (L : List UInt8) : cont L 0 L.length = L := by unfold cont; rw [List.drop_zero, Nat.sub_zero, List.take_length]
theorem mark_whole (s : ByteArray) (w : World) (hs : s.size ≤ 100000) :
    Calls Tryd.prog 20 #[.string s, .agg #[.int .i64 0, .int .i64 (s.size : Nat), .int .i64 (s.size : Nat)]] w fun r w' => r = .returned (.int .i64 (mkL s.data.toList)) ∧ Below w.heap.size w w' := by
  have c := marker_in s 0 s.size s.size w (Nat.zero_le _) (Nat.le_refl _) (Nat.le_refl _) hs
  rw [sz_list, cont_all, ← sz_list] at c
  exact c
theorem indent_whole (s : ByteArray) (w : World) (hs : s.size ≤ 100000) :
    Calls Tryd.prog 16 #[.string s, .agg #[.int .i64 0, .int .i64 (s.size : Nat), .int .i64 (s.size : Nat)]] w fun r w' => r = .returned (.int .i64 (indL s.data.toList : Nat)) ∧ Below w.heap.size w w' := by
  have c := indent_in s 0 s.size s.size w (Nat.zero_le _) (Nat.le_refl _) (Nat.le_refl _) hs
  rw [sz_list, cont_all, ← sz_list] at c
  exact c
theorem blank_whole (s : ByteArray) (w : World) (hs : s.size ≤ 100000) :
    Calls Tryd.prog 18 #[.string s, .agg #[.int .i64 0, .int .i64 (s.size : Nat), .int .i64 (s.size : Nat)]] w fun r w' => r = .returned (.bool (blL s.data.toList)) ∧ Below w.heap.size w w' := by
  have c := blank_in s 0 s.size s.size w (Nat.zero_le _) (Nat.le_refl _) (Nat.le_refl _) hs
  rw [sz_list, cont_all, ← sz_list] at c
  exact c

def mB (p : Bool) : List UInt8 := if p = true then [46, 46, 46] else [45, 45, 45]
def gB (t : Bool) : List UInt8 := if t = true then [9] else [32]
def wZ (p : Bool) : Int := if p = true then 2 else 1
theorem lemA (p t : Bool) (r : List UInt8) : mkL (mB p ++ gB t ++ r) = wZ p := by
  cases p <;> cases t <;> simp [mkL, mB, gB, wZ, blB, M.by8]
theorem lemB (p : Bool) : mkL (mB p) = wZ p := by cases p <;> decide
theorem lemC (p : Bool) (r : List UInt8) : mkL (mB p ++ [120] ++ r) = 0 := by
  cases p <;> simp [mkL, mB, blB, M.by8]
theorem lemD (p t : Bool) (r : List UInt8) : mkL ([32] ++ (mB p ++ gB t ++ r)) = 0 := by
  cases p <;> cases t <;> simp [mkL, mB, gB, blB, M.by8]
theorem lemE (k : Nat) (r : List UInt8) : indL (List.replicate k 32 ++ [120] ++ r) = k := by
  unfold indL
  induction k with
  | zero => simp
  | succ k ih => rw [List.replicate_succ]; simp only [List.cons_append] at ih ⊢; rw [List.takeWhile_cons_of_pos (by decide), List.length_cons, ih]
theorem lemF (k : Nat) (r : List UInt8) : blL (List.replicate k 32 ++ [120] ++ r) = false := by
  unfold blL; simp
theorem lemG (k : Nat) : blL (List.replicate k 32) = true := by
  unfold blL; rw [List.all_eq_true]; intro x hx; rw [List.eq_of_mem_replicate hx]; decide
theorem lemH (k : Nat) (t : Bool) : blL (List.replicate k 32 ++ gB t) = true := by
  have := lemG k
  unfold blL at this ⊢
  rw [List.all_append, this]
  cases t <;> decide
theorem lemI (p t : Bool) (r : List UInt8) : blL (mB p ++ gB t ++ r) = false := by
  cases p <;> simp [blL, mB]

end Go.Proofs.YtnmfiadljhbmiaaDoor
