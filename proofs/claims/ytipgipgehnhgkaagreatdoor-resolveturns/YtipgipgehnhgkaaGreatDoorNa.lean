/- Plain mathematics of words: lists of words, what they say, plain words. No program in it. Small things that all walks of this seat use. Walks: the code's four lists of words, Null, Merge; letters and signs. Walks: the code's Bool, the document's Bool. -/
import Derived.Lib.Hide
import Derived.Test.YtipgipgehnhgkaaGreatDoorRows
import Derived.WalkKit
import Derived.WalkSpells
import Derived.WalkLawsBesides
import Derived.Deep.QuietTactic
import Derived.BigQuiet
import Derived.Deep.Light
import Derived.LoopTactic
import Derived.Laws.CopyOwn
import Derived.Laws.OwnMore
set_option linter.unusedVariables false
namespace Go.Proofs.YtipgipgehnhgkaaGreatDoor.M

def wT : List (List UInt8) := [[116, 114, 117, 101], [84, 114, 117, 101], [84, 82, 85, 69]]
def wF : List (List UInt8) := [[102, 97, 108, 115, 101], [70, 97, 108, 115, 101], [70, 65, 76, 83, 69]]
def oT : List (List UInt8) := [[121], [89], [121, 101, 115], [89, 101, 115], [89, 69, 83], [111, 110], [79, 110], [79, 78]]
def oF : List (List UInt8) := [[110], [78], [110, 111], [78, 111], [78, 79], [111, 102, 102], [79, 102, 102], [79, 70, 70]]
def wN : List (List UInt8) := [[], [126], [110, 117, 108, 108], [78, 117, 108, 108], [78, 85, 76, 76]]

/-- What a word says, and whether it says anything, out of the four lists' answers. -/
def say (old t ot f of : Bool) : Bool × Bool := if (t || (old && ot)) = true then (true, true) else if (f || (old && of)) = true then (false, true) else (false, false)
/-- What a text says. -/
def bo (old : Bool) (l : List UInt8) : Bool × Bool := say old (decide (l ∈ wT)) (decide (l ∈ oT)) (decide (l ∈ wF)) (decide (l ∈ oF))
/-- Is it a word for nothing? -/
def nu (l : List UInt8) : Bool := decide (l ∈ wN)

def isL (c : UInt8) : Bool := decide (97 ≤ c.toNat ∧ c.toNat ≤ 122) || decide (65 ≤ c.toNat ∧ c.toNat ≤ 90)
def isG (c : UInt8) : Bool := decide (48 ≤ c.toNat ∧ c.toNat ≤ 57)
def mf (c : UInt8) : Bool := isL c || isG c || decide (c.toNat = 95) || decide (c.toNat = 45)
/-- The signs of a plain word, and not too many. -/
def hf (l : List UInt8) : Bool := match l with
  | [] => false
  | c :: r => decide ((c :: r).length ≤ 40) && isL c && (c :: r).all mf
/-- Is it a plain word? -/
def pl (l : List UInt8) : Bool := hf l && !nu l && !(bo true l).2

theorem bo_mono {l : List UInt8} (h : (bo false l).2 = true) : (bo true l).2 = true ∧ (bo true l).1 = (bo false l).1 := by
  unfold bo at h ⊢
  have hd : ¬ (l ∈ wF ∧ l ∈ oT) := by
    rintro ⟨h1, h2⟩
    simp only [wF, List.mem_cons, List.not_mem_nil, or_false] at h1
    rcases h1 with rfl | rfl | rfl <;> exact absurd h2 (by decide)
  have hd2 : decide (l ∈ wF) = true → decide (l ∈ oT) = false := by
    intro k
    exact decide_eq_false fun k2 => hd ⟨of_decide_eq_true k, k2⟩
  revert h hd2
  generalize decide (l ∈ wT) = a
  generalize decide (l ∈ oT) = b
  generalize decide (l ∈ wF) = c
  generalize decide (l ∈ oF) = d
  revert a b c d
  decide
theorem bo_young {l : List UInt8} (h : (bo true l).2 = false) : (bo false l).2 = false := by
  cases hh : (bo false l).2
  · rfl
  · rw [(bo_mono hh).1] at h; exact absurd h (by simp)
theorem bo_nu {l : List UInt8} (h : (bo true l).2 = true) : nu l = false := by
  cases hh : nu l
  · rfl
  · have := of_decide_eq_true hh
    simp only [wN, List.mem_cons, List.not_mem_nil, or_false] at this
    rcases this with rfl | rfl | rfl | rfl | rfl <;> exact absurd h (by decide)
theorem pl_no {l : List UInt8} (h : pl l = true) : (bo true l).2 = false ∧ (bo false l).2 = false ∧ nu l = false ∧ l ≠ [60, 60] := by
  unfold pl at h
  simp only [Bool.and_eq_true, Bool.not_eq_true'] at h
  obtain ⟨⟨h1, h2⟩, h3⟩ := h
  refine ⟨h3, bo_young h3, h2, ?_⟩
  rintro rfl
  exact absurd h1 (by decide)
end Go.Proofs.YtipgipgehnhgkaaGreatDoor.M

namespace Go.Proofs.YtipgipgehnhgkaaGreatDoor.S9
open Go.RowKit

theorem ret_int {k : IntKind} {a b : Int} (h : a = b) : Ending.returned (.int k a) = .returned (.int k b) := by rw [h]
theorem ret_bool {a b : Bool} (h : a = b) : Ending.returned (.bool a) = .returned (.bool b) := by rw [h]
theorem ret_str {a b : ByteArray} (h : a = b) : Ending.returned (.string a) = .returned (.string b) := by rw [h]
theorem sz_list (s : ByteArray) : s.size = s.data.toList.length := by cases s; simp [ByteArray.size]
theorem append_list (s t : ByteArray) : (s ++ t).data.toList = s.data.toList ++ t.data.toList := by simp
theorem append_sz (s t : ByteArray) : (s ++ t).size = s.size + t.size := by rw [sz_list, append_list, List.length_append, ← sz_list, ← sz_list]

def bA (l : List UInt8) : ByteArray := ⟨l.toArray⟩
theorem bA_size (l : List UInt8) : (bA l).size = l.length := by simp [bA, ByteArray.size]
theorem bA_toList (l : List UInt8) : (bA l).data.toList = l := by simp [bA]
theorem bA_of (s : ByteArray) : bA s.data.toList = s := by cases s; simp [bA]
theorem eq_bA {s : ByteArray} {l : List UInt8} (h : s.data.toList = l) : s = bA l := by rw [← h, bA_of]
theorem ba_of {s : ByteArray} {l : List UInt8} (h : s.data.toList = l) : s = ⟨l.toArray⟩ := eq_bA h
theorem beq_list {s : ByteArray} {l : List UInt8} (h : s.data.toList ≠ l) : (s.toList == l) = false := by
  rw [ByteArray.toList_eq]; exact beq_eq_false_iff_ne.2 h
theorem get_list (s : ByteArray) (i : Nat) (h : i < s.size) : s.data.toList[i]? = some s[i] := by
  rw [List.getElem?_eq_getElem (by rw [← sz_list]; exact h)]; rfl
theorem take_snoc (s : ByteArray) (k : Nat) (h : k < s.size) : s.data.toList.take (k + 1) = s.data.toList.take k ++ [s[k]] := by
  rw [List.take_succ_eq_append_getElem (by simpa using h)]; rfl
theorem take_all (s : ByteArray) : s.data.toList.take s.size = s.data.toList := List.take_of_length_le (by rw [← sz_list]; exact Nat.le_refl _)
theorem drop_cons (s : ByteArray) (k : Nat) (h : k < s.size) : s.data.toList.drop k = s[k] :: s.data.toList.drop (k + 1) := by
  rw [List.drop_eq_getElem_cons (by rw [← sz_list]; exact h)]; rfl
theorem below_dN {B : Nat} {a w : World} (h : Below B a w) (n : Nat) : Below B a (w.drewN n) := h.trans ⟨rfl, rfl, rfl, Nat.le_refl _, fun _ _ => rfl⟩
theorem below_on {w0 w w' : World} (h : Below w0.heap.size w0 w) (hb : Below w.heap.size w w') : Below w0.heap.size w0 w' := h.trans (hb.mono h.size)
/-- Two Booleans, as a call answers them. -/
abbrev bV (p : Bool × Bool) : Value := .tuple #[.bool p.1, .bool p.2]
end Go.Proofs.YtipgipgehnhgkaaGreatDoor.S9

namespace Go.Proofs.YtipgipgehnhgkaaGreatDoor.S9
open Go.RowKit

set_option maxRecDepth 100000 in
theorem nT_any (s : ByteArray) (w : World) : Calls Tryz.prog 38 #[.string s] w fun e w' => e = .returned (.bool (decide (s.data.toList ∈ M.wT))) ∧ w = w' := by
  by_cases h : s.data.toList ∈ M.wT
  · rw [decide_eq_true h]
    simp only [M.wT, List.mem_cons, List.not_mem_nil, or_false] at h
    rcases h with h | h | h
    all_goals
      rw [ba_of h]
      clear h
      go_enter Tryz.func38, Tryz.ntmps38
      go_wp2
      go_ret
      exact ⟨rfl, rfl⟩
  · rw [decide_eq_false h]
    simp only [M.wT, List.mem_cons, List.not_mem_nil, or_false, not_or] at h
    have e0 := beq_list h.1
    have e1 := beq_list h.2.1
    have e2 := beq_list h.2.2
    clear h
    go_enter Tryz.func38, Tryz.ntmps38
    go_wp2
    go_ret
    exact ⟨rfl, rfl⟩

set_option maxRecDepth 100000 in
theorem nF_any (s : ByteArray) (w : World) : Calls Tryz.prog 40 #[.string s] w fun e w' => e = .returned (.bool (decide (s.data.toList ∈ M.wF))) ∧ w = w' := by
  by_cases h : s.data.toList ∈ M.wF
  · rw [decide_eq_true h]
    simp only [M.wF, List.mem_cons, List.not_mem_nil, or_false] at h
    rcases h with h | h | h
    all_goals
      rw [ba_of h]
      clear h
      go_enter Tryz.func40, Tryz.ntmps40
      go_wp2
      go_ret
      exact ⟨rfl, rfl⟩
  · rw [decide_eq_false h]
    simp only [M.wF, List.mem_cons, List.not_mem_nil, or_false, not_or] at h
    have e0 := beq_list h.1
    have e1 := beq_list h.2.1
    have e2 := beq_list h.2.2
    clear h
    go_enter Tryz.func40, Tryz.ntmps40
    go_wp2
    go_ret
    exact ⟨rfl, rfl⟩

set_option maxRecDepth 100000 in
theorem oT_any (s : ByteArray) (w : World) : Calls Tryz.prog 39 #[.string s] w fun e w' => e = .returned (.bool (decide (s.data.toList ∈ M.oT))) ∧ w = w' := by
  by_cases h : s.data.toList ∈ M.oT
  · rw [decide_eq_true h]
    simp only [M.oT, List.mem_cons, List.not_mem_nil, or_false] at h
    rcases h with h | h | h | h | h | h | h | h
    all_goals
      rw [ba_of h]
      clear h
      go_enter Tryz.func39, Tryz.ntmps39
      go_wp2
      go_ret
      exact ⟨rfl, rfl⟩
  · rw [decide_eq_false h]
    simp only [M.oT, List.mem_cons, List.not_mem_nil, or_false, not_or] at h
    have e0 := beq_list h.1
    have e1 := beq_list h.2.1
    have e2 := beq_list h.2.2.1
    have e3 := beq_list h.2.2.2.1
    have e4 := beq_list h.2.2.2.2.1
    have e5 := beq_list h.2.2.2.2.2.1
    have e6 := beq_list h.2.2.2.2.2.2.1
    have e7 := beq_list h.2.2.2.2.2.2.2
    clear h
    go_enter Tryz.func39, Tryz.ntmps39
    go_wp2
    go_ret
    exact ⟨rfl, rfl⟩

set_option maxRecDepth 100000 in
theorem oF_any (s : ByteArray) (w : World) : Calls Tryz.prog 41 #[.string s] w fun e w' => e = .returned (.bool (decide (s.data.toList ∈ M.oF))) ∧ w = w' := by
  by_cases h : s.data.toList ∈ M.oF
  · rw [decide_eq_true h]
    simp only [M.oF, List.mem_cons, List.not_mem_nil, or_false] at h
    rcases h with h | h | h | h | h | h | h | h
    all_goals
      rw [ba_of h]
      clear h
      go_enter Tryz.func41, Tryz.ntmps41
      go_wp2
      go_ret
      exact ⟨rfl, rfl⟩
  · rw [decide_eq_false h]
    simp only [M.oF, List.mem_cons, List.not_mem_nil, or_false, not_or] at h
    have e0 := beq_list h.1
    have e1 := beq_list h.2.1
    have e2 := beq_list h.2.2.1
    have e3 := beq_list h.2.2.2.1
    have e4 := beq_list h.2.2.2.2.1
    have e5 := beq_list h.2.2.2.2.2.1
    have e6 := beq_list h.2.2.2.2.2.2.1
    have e7 := beq_list h.2.2.2.2.2.2.2
    clear h
    go_enter Tryz.func41, Tryz.ntmps41
    go_wp2
    go_ret
    exact ⟨rfl, rfl⟩

set_option maxRecDepth 100000 in
theorem null_any (s : ByteArray) (w : World) : Calls Tryz.prog 20 #[.string s] w fun e w' => e = .returned (.bool (decide (s.data.toList ∈ M.wN))) ∧ w = w' := by
  by_cases h : s.data.toList ∈ M.wN
  · rw [decide_eq_true h]
    simp only [M.wN, List.mem_cons, List.not_mem_nil, or_false] at h
    rcases h with h | h | h | h | h
    all_goals
      rw [ba_of h]
      clear h
      go_enter Tryz.func20, Tryz.ntmps20
      go_wp2
      go_ret
      exact ⟨rfl, rfl⟩
  · rw [decide_eq_false h]
    simp only [M.wN, List.mem_cons, List.not_mem_nil, or_false, not_or] at h
    have e0 := beq_list h.1
    have e1 := beq_list h.2.1
    have e2 := beq_list h.2.2.1
    have e3 := beq_list h.2.2.2.1
    have e4 := beq_list h.2.2.2.2
    clear h
    go_enter Tryz.func20, Tryz.ntmps20
    go_wp2
    go_ret
    exact ⟨rfl, rfl⟩

set_option maxRecDepth 100000 in
theorem rnull_any (s : ByteArray) (w : World) : Calls Tryz.prog 18 #[.string s] w fun e w' => e = .returned (.bool (decide (s.data.toList ∈ M.wN))) ∧ w = w' := by
  by_cases h : s.data.toList ∈ M.wN
  · rw [decide_eq_true h]
    simp only [M.wN, List.mem_cons, List.not_mem_nil, or_false] at h
    rcases h with h | h | h | h | h
    all_goals
      rw [ba_of h]
      clear h
      go_enter Tryz.func18, Tryz.ntmps18
      go_wp2
      go_ret
      exact ⟨rfl, rfl⟩
  · rw [decide_eq_false h]
    simp only [M.wN, List.mem_cons, List.not_mem_nil, or_false, not_or] at h
    have e0 := beq_list h.1
    have e1 := beq_list h.2.1
    have e2 := beq_list h.2.2.1
    have e3 := beq_list h.2.2.2.1
    have e4 := beq_list h.2.2.2.2
    clear h
    go_enter Tryz.func18, Tryz.ntmps18
    go_wp2
    go_ret
    exact ⟨rfl, rfl⟩

set_option maxRecDepth 100000 in
theorem risG_any (c : UInt8) (w : World) : Calls Tryz.prog 70 #[.int .u8 (c.toNat : Nat)] w fun e w' => e = .returned (.bool (M.isG c)) ∧ w = w' := by
  have hc : c.toNat < 256 := c.toNat_lt
  unfold M.isG
  generalize c.toNat = n at *
  go_enter Tryz.func70, Tryz.ntmps70
  go_wp2
  all_goals (go_ret; refine ⟨ret_bool ?_, rfl⟩; rw [Bool.eq_iff_iff]; simp; try omega)
end Go.Proofs.YtipgipgehnhgkaaGreatDoor.S9

namespace Go.Proofs.YtipgipgehnhgkaaGreatDoor.S9
open Go.RowKit

set_option maxRecDepth 100000 in
set_option maxHeartbeats 1000000 in
theorem bool_any (v : Int) (s : ByteArray) (w : World) : Calls Tryz.prog 21 #[.int .i64 v, .string s] w fun e w' => e = .returned (bV (M.bo (decide (v = 11)) s.data.toList)) ∧ w = w' := by
  have c1 := fun W => nT_any s W
  have c2 := fun W => oT_any s W
  have c3 := fun W => nF_any s W
  have c4 := fun W => oF_any s W
  unfold M.bo
  have hv : (v == 11) = decide (v = 11) := by rw [Bool.eq_iff_iff]; simp
  generalize decide (s.data.toList ∈ M.wT) = t at *
  generalize decide (s.data.toList ∈ M.oT) = ot at *
  generalize decide (s.data.toList ∈ M.wF) = f at *
  generalize decide (s.data.toList ∈ M.oF) = f2 at *
  have hv2 : decide (v = 11) = true → v = 11 := fun h => of_decide_eq_true h
  generalize decide (v = 11) = old at *
  cases t
  · cases old
    · cases f
      · go_enter Tryz.func21, Tryz.ntmps21
        go_wp2_with fail
        refine (c1 _).mono ?_
        rintro r w' ⟨rfl, rfl⟩
        go_wp2_with fail
        refine (c3 _).mono ?_
        rintro r w' ⟨rfl, rfl⟩
        go_wp2
        go_ret2
        exact ⟨rfl, rfl⟩
      · go_enter Tryz.func21, Tryz.ntmps21
        go_wp2_with fail
        refine (c1 _).mono ?_
        rintro r w' ⟨rfl, rfl⟩
        go_wp2_with fail
        refine (c3 _).mono ?_
        rintro r w' ⟨rfl, rfl⟩
        go_wp2
        go_ret2
        exact ⟨rfl, rfl⟩
    · obtain rfl := hv2 rfl
      clear hv hv2
      cases ot
      · cases f
        · cases f2
          all_goals
            go_enter Tryz.func21, Tryz.ntmps21
            go_wp2_with fail
            refine (c1 _).mono ?_
            rintro r w' ⟨rfl, rfl⟩
            go_wp2_with fail
            refine (c2 _).mono ?_
            rintro r w' ⟨rfl, rfl⟩
            go_wp2_with fail
            refine (c3 _).mono ?_
            rintro r w' ⟨rfl, rfl⟩
            go_wp2_with fail
            refine (c4 _).mono ?_
            rintro r w' ⟨rfl, rfl⟩
            go_wp2
            go_ret2
            exact ⟨rfl, rfl⟩
        · go_enter Tryz.func21, Tryz.ntmps21
          go_wp2_with fail
          refine (c1 _).mono ?_
          rintro r w' ⟨rfl, rfl⟩
          go_wp2_with fail
          refine (c2 _).mono ?_
          rintro r w' ⟨rfl, rfl⟩
          go_wp2_with fail
          refine (c3 _).mono ?_
          rintro r w' ⟨rfl, rfl⟩
          go_wp2
          go_ret2
          exact ⟨rfl, rfl⟩
      · go_enter Tryz.func21, Tryz.ntmps21
        go_wp2_with fail
        refine (c1 _).mono ?_
        rintro r w' ⟨rfl, rfl⟩
        go_wp2_with fail
        refine (c2 _).mono ?_
        rintro r w' ⟨rfl, rfl⟩
        go_wp2
        go_ret2
        exact ⟨rfl, rfl⟩
  · go_enter Tryz.func21, Tryz.ntmps21
    go_wp2_with fail
    refine (c1 _).mono ?_
    rintro r w' ⟨rfl, rfl⟩
    go_wp2
    go_ret2
    exact ⟨rfl, rfl⟩

set_option maxRecDepth 100000 in
set_option maxHeartbeats 1000000 in
theorem rbool_new (v : Int) (s : ByteArray) (w : World) (h : s.data.toList ∈ M.wT ∨ s.data.toList ∈ M.wF) : Calls Tryz.prog 29 #[.int .i64 v, .string s] w fun e w' => e = .returned (bV (M.bo (decide (v = 11)) s.data.toList)) ∧ w = w' := by
  generalize decide (v = 11) = old
  rcases h with h | h
  · simp only [M.wT, List.mem_cons, List.not_mem_nil, or_false] at h
    rcases h with h | h | h
    all_goals
      rw [ba_of h]
      clear h
      cases old
      all_goals
        go_enter Tryz.func29, Tryz.ntmps29
        go_wp2
        go_ret2
        exact ⟨rfl, rfl⟩
  · simp only [M.wF, List.mem_cons, List.not_mem_nil, or_false] at h
    rcases h with h | h | h
    all_goals
      rw [ba_of h]
      clear h
      cases old
      all_goals
        go_enter Tryz.func29, Tryz.ntmps29
        go_wp2
        go_ret2
        exact ⟨rfl, rfl⟩

set_option maxRecDepth 100000 in
set_option maxHeartbeats 1000000 in
theorem rbool_old (s : ByteArray) (w : World) (h : s.data.toList ∈ M.oT ∨ s.data.toList ∈ M.oF) : Calls Tryz.prog 29 #[.int .i64 11, .string s] w fun e w' => e = .returned (bV (M.bo true s.data.toList)) ∧ w = w' := by
  rcases h with h | h
  · simp only [M.oT, List.mem_cons, List.not_mem_nil, or_false] at h
    rcases h with h | h | h | h | h | h | h | h
    all_goals
      rw [ba_of h]
      clear h
      go_enter Tryz.func29, Tryz.ntmps29
      go_wp2
      go_ret2
      exact ⟨rfl, rfl⟩
  · simp only [M.oF, List.mem_cons, List.not_mem_nil, or_false] at h
    rcases h with h | h | h | h | h | h | h | h
    all_goals
      rw [ba_of h]
      clear h
      go_enter Tryz.func29, Tryz.ntmps29
      go_wp2
      go_ret2
      exact ⟨rfl, rfl⟩

set_option maxRecDepth 100000 in
set_option maxHeartbeats 1000000 in
theorem rbool_young (v : Int) (s : ByteArray) (w : World) (hv : v ≠ 11) (h1 : s.data.toList ∉ M.wT) (h2 : s.data.toList ∉ M.wF) : Calls Tryz.prog 29 #[.int .i64 v, .string s] w fun e w' => e = .returned (bV (M.bo (decide (v = 11)) s.data.toList)) ∧ w = w' := by
  have e : M.bo (decide (v = 11)) s.data.toList = (false, false) := by
    unfold M.bo
    rw [decide_eq_false hv, decide_eq_false h1, decide_eq_false h2]
    rfl
  rw [e]
  have q : (v == 11) = false := beq_eq_false_iff_ne.2 hv
  simp only [M.wT, List.mem_cons, List.not_mem_nil, or_false, not_or] at h1
  have a0 := beq_list h1.1
  have a1 := beq_list h1.2.1
  have a2 := beq_list h1.2.2
  simp only [M.wF, List.mem_cons, List.not_mem_nil, or_false, not_or] at h2
  have b0 := beq_list h2.1
  have b1 := beq_list h2.2.1
  have b2 := beq_list h2.2.2
  clear h1 h2 e hv
  go_enter Tryz.func29, Tryz.ntmps29
  go_wp2
  go_ret2
  exact ⟨rfl, rfl⟩

set_option maxRecDepth 100000 in
set_option maxHeartbeats 1000000 in
theorem rbool_none (s : ByteArray) (w : World) (h1 : s.data.toList ∉ M.wT) (h2 : s.data.toList ∉ M.wF) (h3 : s.data.toList ∉ M.oT) (h4 : s.data.toList ∉ M.oF) : Calls Tryz.prog 29 #[.int .i64 11, .string s] w fun e w' => e = .returned (bV (M.bo true s.data.toList)) ∧ w = w' := by
  have e : M.bo true s.data.toList = (false, false) := by
    unfold M.bo
    rw [decide_eq_false h1, decide_eq_false h2, decide_eq_false h3, decide_eq_false h4]
    rfl
  rw [e]
  simp only [M.wT, List.mem_cons, List.not_mem_nil, or_false, not_or] at h1
  have a0 := beq_list h1.1
  have a1 := beq_list h1.2.1
  have a2 := beq_list h1.2.2
  simp only [M.wF, List.mem_cons, List.not_mem_nil, or_false, not_or] at h2
  have b0 := beq_list h2.1
  have b1 := beq_list h2.2.1
  have b2 := beq_list h2.2.2
  simp only [M.oT, List.mem_cons, List.not_mem_nil, or_false, not_or] at h3
  have c0 := beq_list h3.1
  have c1 := beq_list h3.2.1
  have c2 := beq_list h3.2.2.1
  have c3 := beq_list h3.2.2.2.1
  have c4 := beq_list h3.2.2.2.2.1
  have c5 := beq_list h3.2.2.2.2.2.1
  have c6 := beq_list h3.2.2.2.2.2.2.1
  have c7 := beq_list h3.2.2.2.2.2.2.2
  simp only [M.oF, List.mem_cons, List.not_mem_nil, or_false, not_or] at h4
  have d0 := beq_list h4.1
  have d1 := beq_list h4.2.1
  have d2 := beq_list h4.2.2.1
  have d3 := beq_list h4.2.2.2.1
  have d4 := beq_list h4.2.2.2.2.1
  have d5 := beq_list h4.2.2.2.2.2.1
  have d6 := beq_list h4.2.2.2.2.2.2.1
  have d7 := beq_list h4.2.2.2.2.2.2.2
  clear h1 h2 h3 h4 e
  go_enter Tryz.func29, Tryz.ntmps29
  go_wp2
  go_ret2
  exact ⟨rfl, rfl⟩
theorem rbool_any (v : Int) (s : ByteArray) (w : World) : Calls Tryz.prog 29 #[.int .i64 v, .string s] w fun e w' => e = .returned (bV (M.bo (decide (v = 11)) s.data.toList)) ∧ w = w' := by
  by_cases h1 : s.data.toList ∈ M.wT
  · exact rbool_new v s w (Or.inl h1)
  by_cases h2 : s.data.toList ∈ M.wF
  · exact rbool_new v s w (Or.inr h2)
  by_cases hv : v = 11
  · subst hv
    rw [decide_eq_true rfl]
    by_cases h3 : s.data.toList ∈ M.oT
    · exact rbool_old s w (Or.inl h3)
    by_cases h4 : s.data.toList ∈ M.oF
    · exact rbool_old s w (Or.inr h4)
    exact rbool_none s w h1 h2 h3 h4
  · exact rbool_young v s w hv h1 h2

end Go.Proofs.YtipgipgehnhgkaaGreatDoor.S9
