/- Plain mathematics of words: lists of words, what they say, plain words. No program in it. -/
import Derived.Lib.Hide
set_option linter.unusedVariables false
namespace Go.Proofs.Ytlkbgnlmmlchfaa.M

def wT : List (List UInt8) := [[116, 114, 117, 101], [84, 114, 117, 101], [84, 82, 85, 69]]
def wF : List (List UInt8) := [[102, 97, 108, 115, 101], [70, 97, 108, 115, 101], [70, 65, 76, 83, 69]]
def oT : List (List UInt8) := [[121], [89], [121, 101, 115], [89, 101, 115], [89, 69, 83], [111, 110], [79, 110], [79, 78]]
def oF : List (List UInt8) := [[110], [78], [110, 111], [78, 111], [78, 79], [111, 102, 102], [79, 102, 102], [79, 70, 70]]
def wN : List (List UInt8) := [[], [126], [110, 117, 108, 108], [78, 117, 108, 108], [78, 85, 76, 76]]

/-- What a word says, and whether it says anything, out of the four lists' answers. -/
def say (old t ot f of : Bool) : Bool × Bool := if (t || (old && ot)) = true then (true, true) else if (f || (old && of)) = true then (false, true) else (false, false)
/-- What a text says. -/
def bo (old : Bool) (l : List UInt8) : Bool × Bool := say old (decide (l ∈ wT)) (decide (l ∈ oT)) (decide (l ∈ wF)) (decide (l ∈ oF))
/-- Is it a word for nothing? -/
def nu (l : List UInt8) : Bool := decide (l ∈ wN)

def isL (c : UInt8) : Bool := decide (97 ≤ c.toNat ∧ c.toNat ≤ 122) || decide (65 ≤ c.toNat ∧ c.toNat ≤ 90)
def isG (c : UInt8) : Bool := decide (48 ≤ c.toNat ∧ c.toNat ≤ 57)
def mf (c : UInt8) : Bool := isL c || isG c || decide (c.toNat = 95) || decide (c.toNat = 45)
/-- The signs of a plain word, and not too many. -/
def hf (l : List UInt8) : Bool := match l with
  | [] => false
  | c :: r => decide ((c :: r).length ≤ 40) && isL c && (c :: r).all mf
/-- Is it a plain word? -/
def pl (l : List UInt8) : Bool := hf l && !nu l && !(bo true l).2

theorem bo_mono {l : List UInt8} (h : (bo false l).2 = true) : (bo true l).2 = true ∧ (bo true l).1 = (bo false l).1 := by
  unfold bo at h ⊢
  have hd : ¬ (l ∈ wF ∧ l ∈ oT) := by
    rintro ⟨h1, h2⟩
    simp only [wF, List.mem_cons, List.not_mem_nil, or_false] at h1
    rcases h1 with rfl | rfl | rfl <;> exact absurd h2 (by decide)
  have hd2 : decide (l ∈ wF) = true → decide (l ∈ oT) = false := by
    intro k
    exact decide_eq_false fun k2 => hd ⟨of_decide_eq_true k, k2⟩
  revert h hd2
  generalize decide (l ∈ wT) = a
  generalize decide (l ∈ oT) = b
  generalize decide (l ∈ wF) = c
  generalize decide (l ∈ oF) = d
  revert a b c d
  decide
theorem bo_young {l : List UInt8} (h : (bo true l).2 = false) : (bo false l).2 = false := by
  cases hh : (bo false l).2
  · rfl
  · rw [(bo_mono hh).1] at h; exact absurd h (by simp)
theorem bo_nu {l : List UInt8} (h : (bo true l).2 = true) : nu l = false := by
  cases hh : nu l
  · rfl
  · have := of_decide_eq_true hh
    simp only [wN, List.mem_cons, List.not_mem_nil, or_false] at this
    rcases this with rfl | rfl | rfl | rfl | rfl <;> exact absurd h (by decide)
theorem pl_no {l : List UInt8} (h : pl l = true) : (bo true l).2 = false ∧ (bo false l).2 = false ∧ nu l = false ∧ l ≠ [60, 60] := by
  unfold pl at h
  simp only [Bool.and_eq_true, Bool.not_eq_true'] at h
  obtain ⟨⟨h1, h2⟩, h3⟩ := h
  refine ⟨h3, bo_young h3, h2, ?_⟩
  rintro rfl
  exact absurd h1 (by decide)
end Go.Proofs.Ytlkbgnlmmlchfaa.M
