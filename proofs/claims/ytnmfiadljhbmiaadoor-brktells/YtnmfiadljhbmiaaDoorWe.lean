/- Walks of targum/brk's within, endsOrBlank, Marker. -/
import Derived.Test.YtnmfiadljhbmiaaDoorWa
set_option linter.unusedVariables false
namespace Go.Proofs.YtnmfiadljhbmiaaDoor
open Go.RowKit

/-- May three numbers be a line of a text of so many bytes? -/
def inL (n : Nat) (a e x : Int) : Bool := decide (0 ≤ a ∧ a ≤ e ∧ e ≤ x ∧ x ≤ (n : Int))
theorem inL_iff (n : Nat) (a e x : Int) : inL n a e x = true ↔ 0 ≤ a ∧ a ≤ e ∧ e ≤ x ∧ x ≤ (n : Int) := by unfold inL; rw [decide_eq_true_eq]
/-- What stands between two places. -/
def cont (L : List UInt8) (a e : Nat) : List UInt8 := (L.drop a).take (e - a)
theorem cont_length (L : List UInt8) (a e : Nat) (h : e ≤ L.length) : (cont L a e).length = e - a := by unfold cont; rw [List.length_take, List.length_drop]; omega
theorem cont_by8 (L : List UInt8) (a e j : Nat) (h : a + j < e) : M.by8 (cont L a e) j = M.by8 L (a + j) := by
  unfold cont M.by8
  rw [List.getD_eq_getElem?_getD, List.getD_eq_getElem?_getD, List.getElem?_take_of_lt (by omega), List.getElem?_drop]
theorem extract_cont (s : ByteArray) (a e : Nat) (h : a ≤ e) : (s.extract a e).data.toList = cont s.data.toList a e := by
  unfold cont; rw [Lib.extract_data]

def lineV (a e x : Int) : Value := .agg #[.int .i64 a, .int .i64 e, .int .i64 x]

set_option maxRecDepth 100000 in
set_option maxHeartbeats 1000000 in
theorem within_in (s : ByteArray) (a e x : Nat) (w : World) (h1 : a ≤ e) (h2 : e ≤ x) (h3 : x ≤ s.size) (hs : s.size ≤ 100000) :
    Calls Tryd.prog 33 #[.string s, .agg #[.int .i64 a, .int .i64 e, .int .i64 x]] w fun r w' => r = .returned (.tuple #[.string (s.extract a e), .bool true]) ∧ Below w.heap.size w w' := by
  have d0 : decide ((a : Int) < 0) = false := by simp
  have d1 : decide ((e : Int) < (a : Int)) = false := by simp; omega
  have d2 : decide ((x : Int) < (e : Int)) = false := by simp; omega
  have d3 : decide ((s.size : Int) < (x : Int)) = false := by simp; omega
  have hb := (Below.refl w.heap.size w).alloc (Nat.le_refl _) (.cells #[.int .i64 a, .int .i64 e, .int .i64 x] 23)
  have HB := Lib.hid hb
  clear hb
  go_enter Tryd.func33, Tryd.ntmps33
  go_wp2
  go_ret2
  exact ⟨rfl, HB.out⟩

set_option maxRecDepth 100000 in
set_option maxHeartbeats 1000000 in
theorem within_out (s : ByteArray) (a e x : Int) (w : World) (h : inL s.size a e x = false) :
    Calls Tryd.prog 33 #[.string s, .agg #[.int .i64 a, .int .i64 e, .int .i64 x]] w fun r w' => r = .returned (.tuple #[.string ⟨#[]⟩, .bool false]) ∧ Below w.heap.size w w' := by
  have hb := (Below.refl w.heap.size w).alloc (Nat.le_refl _) (.cells #[.int .i64 a, .int .i64 e, .int .i64 x] 23)
  have HB := Lib.hid hb
  clear hb
  have hn : ¬ (0 ≤ a ∧ a ≤ e ∧ e ≤ x ∧ x ≤ (s.size : Int)) := by rw [← inL_iff, h]; simp
  clear h
  by_cases g0 : a < 0
  · have d0 : decide (a < 0) = true := by simpa using g0
    clear hn g0
    go_enter Tryd.func33, Tryd.ntmps33
    go_wp2
    go_ret2
    exact ⟨rfl, HB.out⟩
  · have d0 : decide (a < 0) = false := by simpa using g0
    by_cases g1 : e < a
    · have d1 : decide (e < a) = true := by simpa using g1
      clear hn g0 g1
      go_enter Tryd.func33, Tryd.ntmps33
      go_wp2
      go_ret2
      exact ⟨rfl, HB.out⟩
    · have d1 : decide (e < a) = false := by simpa using g1
      by_cases g2 : x < e
      · have d2 : decide (x < e) = true := by simpa using g2
        clear hn g0 g1 g2
        go_enter Tryd.func33, Tryd.ntmps33
        go_wp2
        go_ret2
        exact ⟨rfl, HB.out⟩
      · have d2 : decide (x < e) = false := by simpa using g2
        have d3 : decide ((s.size : Int) < x) = true := by simp; omega
        clear hn g0 g1 g2
        go_enter Tryd.func33, Tryd.ntmps33
        go_wp2
        go_ret2
        exact ⟨rfl, HB.out⟩

/-- A space or a tab. -/
def blB (b : Nat) : Bool := b == 32 || b == 9

set_option maxRecDepth 100000 in
set_option maxHeartbeats 1000000 in
theorem endsOrBlank_in (s : ByteArray) (i : Nat) (w : World) (hi : i < s.size) :
    Calls Tryd.prog 38 #[.string s, .int .i64 i] w fun r w' => r = .returned (.bool (blB (M.by8 s.data.toList i))) ∧ w = w' := by
  have g0 := getB s i hi
  have d0 : ((i : Int) == (s.size : Int)) = false := by simp; omega
  rw [← g0]
  clear g0
  by_cases h1 : (s[i]'hi).toNat = 32
  · have d1 : (((s[i]'hi).toNat : Int) == 32) = true := by simp; omega
    rw [show blB (s[i]'hi).toNat = true by rw [h1]; rfl]
    clear h1
    go_enter Tryd.func38, Tryd.ntmps38
    go_wp2
    go_ret
    exact ⟨rfl, rfl⟩
  · have d1 : (((s[i]'hi).toNat : Int) == 32) = false := by simp; omega
    by_cases h2 : (s[i]'hi).toNat = 9
    · have d2 : (((s[i]'hi).toNat : Int) == 9) = true := by simp; omega
      rw [show blB (s[i]'hi).toNat = true by rw [h2]; rfl]
      clear h1 h2
      go_enter Tryd.func38, Tryd.ntmps38
      go_wp2
      go_ret
      exact ⟨rfl, rfl⟩
    · have d2 : (((s[i]'hi).toNat : Int) == 9) = false := by simp; omega
      rw [show blB (s[i]'hi).toNat = false by unfold blB; simp; omega]
      clear h1 h2
      go_enter Tryd.func38, Tryd.ntmps38
      go_wp2
      go_ret
      exact ⟨rfl, rfl⟩
set_option maxHeartbeats 400000 in
theorem endsOrBlank_end (s : ByteArray) (w : World) :
    Calls Tryd.prog 38 #[.string s, .int .i64 (s.size : Nat)] w fun r w' => r = .returned (.bool true) ∧ w = w' := by
  go_enter Tryd.func38, Tryd.ntmps38
  go_wp2
  go_ret
  exact ⟨rfl, rfl⟩

/-- Which marker a line is. -/
def mkL (c : List UInt8) : Int :=
  if c.length < 3 ∨ (3 < c.length ∧ blB (M.by8 c 3) = false) then 0 else if c.take 3 = [45, 45, 45] then 1 else if c.take 3 = [46, 46, 46] then 2 else 0
def mkZ (L : List UInt8) (a e x : Int) : Int := if inL L.length a e x = true then mkL (cont L a.toNat e.toNat) else 0

end Go.Proofs.YtnmfiadljhbmiaaDoor
