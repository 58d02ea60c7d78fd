/- Plain mathematics of breaks, lines and signs that may be. No program in it. -/
import Derived.Test.YthbmppkngaifmaaMb
set_option linter.unusedVariables false
namespace Go.Proofs.Ythbmppkngaifmaa.M
open Go.Lib

theorem by8_out (l : List UInt8) (i : Nat) (h : l.length ≤ i) : by8 l i = 0 := by
  unfold by8; rw [List.getD_eq_getElem?_getD, List.getElem?_eq_none h]; rfl
theorem by8_in (l : List UInt8) (i : Nat) (h : by8 l i ≠ 0) : i < l.length := by
  rcases Nat.lt_or_ge i l.length with k | k
  · exact k
  · exact absurd (by8_out l i k) h
theorem by8_append_left (l r : List UInt8) (i : Nat) (h : i < l.length) : by8 (l ++ r) i = by8 l i := by
  unfold by8; rw [List.getD_eq_getElem?_getD, List.getD_eq_getElem?_getD, List.getElem?_append_left h]
theorem by8_append_right (l r : List UInt8) (i : Nat) (h : l.length ≤ i) : by8 (l ++ r) i = by8 r (i - l.length) := by
  unfold by8; rw [List.getD_eq_getElem?_getD, List.getD_eq_getElem?_getD, List.getElem?_append_right h]

/-- How many bytes the break has that a text begins with; o tells whether of the old version. -/
def brkN (o : Bool) (l : List UInt8) : Nat :=
  if by8 l 0 = 13 ∧ by8 l 1 = 10 then 2
  else if by8 l 0 = 13 ∨ by8 l 0 = 10 then 1
  else if o = true ∧ by8 l 0 = 194 ∧ by8 l 1 = 133 then 2
  else if o = true ∧ by8 l 0 = 226 ∧ by8 l 1 = 128 ∧ (by8 l 2 = 168 ∨ by8 l 2 = 169) then 3 else 0

theorem brkN_le (o : Bool) (l : List UInt8) : brkN o l ≤ l.length := by
  have h0 := by8_in l 0; have h1 := by8_in l 1; have h2 := by8_in l 2
  unfold brkN
  repeat' split
  all_goals omega
theorem brkN_le3 (o : Bool) (l : List UInt8) : brkN o l ≤ 3 := by
  unfold brkN
  repeat' split
  all_goals omega
theorem brkN_nil (o : Bool) : brkN o [] = 0 := by cases o <;> rfl
/-- Each break of the new version is one of the old one. -/
theorem brkN_new (l : List UInt8) (h : brkN false l ≠ 0) : brkN true l = brkN false l := by
  revert h
  unfold brkN
  by_cases h1 : by8 l 0 = 13 ∧ by8 l 1 = 10
  · rw [if_pos h1, if_pos h1]; intro _; rfl
  · rw [if_neg h1, if_neg h1]
    by_cases h2 : by8 l 0 = 13 ∨ by8 l 0 = 10
    · rw [if_pos h2, if_pos h2]; intro _; rfl
    · rw [if_neg h2, if_neg h2]; simp
theorem brkN_old (l : List UInt8) (h : brkN true l ≠ 0) (h' : brkN false l = 0) : 2 ≤ brkN true l := by
  revert h h'
  unfold brkN
  by_cases h1 : by8 l 0 = 13 ∧ by8 l 1 = 10
  · rw [if_pos h1, if_pos h1]; intro _ h; cases h
  · rw [if_neg h1, if_neg h1]
    by_cases h2 : by8 l 0 = 13 ∨ by8 l 0 = 10
    · rw [if_pos h2, if_pos h2]; intro _ h; cases h
    · rw [if_neg h2, if_neg h2]
      repeat' split
      all_goals omega
/-- Of a break of the new version that has two bytes the second one is one alone. -/
theorem brkN_in (L : List UInt8) (e i : Nat) (h : e < i) (hi : i < e + brkN false (L.drop e)) : brkN false (L.drop i) ≠ 0 := by
  revert hi
  unfold brkN
  by_cases h1 : by8 (L.drop e) 0 = 13 ∧ by8 (L.drop e) 1 = 10
  · rw [if_pos h1]
    intro hi
    obtain rfl : i = e + 1 := by omega
    rw [by8_drop, by8_drop] at h1
    rw [by8_drop, Nat.add_zero]
    rw [if_neg (by omega), if_pos (by omega)]
    omega
  · rw [if_neg h1]
    by_cases h2 : by8 (L.drop e) 0 = 13 ∨ by8 (L.drop e) 0 = 10
    · rw [if_pos h2]; intro hi; omega
    · rw [if_neg h2]; simp; omega

/-- Lines from a place on: first where the line begun begins, then how far it has been read. -/
def linesF (o : Bool) (L : List UInt8) : Nat → Nat → Nat → List (Nat × Nat × Nat)
  | 0, a, _ => if a < L.length then [(a, L.length, L.length)] else []
  | f + 1, a, i => if i < L.length then
      (if brkN o (L.drop i) = 0 then linesF o L f a (i + 1) else (a, i, i + brkN o (L.drop i)) :: linesF o L f (i + brkN o (L.drop i)) (i + brkN o (L.drop i)))
    else if a < L.length then [(a, L.length, L.length)] else []
def lines (o : Bool) (L : List UInt8) : List (Nat × Nat × Nat) := linesF o L L.length 0 0
def rest (o : Bool) (L : List UInt8) (a i : Nat) : List (Nat × Nat × Nat) := linesF o L (L.length - i) a i

theorem linesF_out (o : Bool) (L : List UInt8) (f a i : Nat) (h : L.length ≤ i) : linesF o L f a i = if a < L.length then [(a, L.length, L.length)] else [] := by
  cases f with
  | zero => rfl
  | succ f => rw [linesF, if_neg (by omega)]
theorem linesF_fuel (o : Bool) (L : List UInt8) : ∀ (f g a i : Nat), L.length - i ≤ f → L.length - i ≤ g → linesF o L f a i = linesF o L g a i := by
  intro f
  induction f with
  | zero =>
    intro g a i hf hg
    rw [linesF_out o L 0 a i (by omega), linesF_out o L g a i (by omega)]
  | succ f ih =>
    intro g a i hf hg
    by_cases hi : i < L.length
    · cases g with
      | zero => omega
      | succ g =>
        rw [linesF, linesF, if_pos hi, if_pos hi]
        by_cases hb : brkN o (L.drop i) = 0
        · rw [if_pos hb, if_pos hb]; exact ih g _ _ (by omega) (by omega)
        · rw [if_neg hb, if_neg hb, ih g _ _ (by omega) (by omega)]
    · rw [linesF_out o L _ a i (by omega), linesF_out o L _ a i (by omega)]
theorem rest_zero (o : Bool) (L : List UInt8) : rest o L 0 0 = lines o L := rfl
theorem rest_skip (o : Bool) (L : List UInt8) (a i : Nat) (hi : i < L.length) (hb : brkN o (L.drop i) = 0) : rest o L a i = rest o L a (i + 1) := by
  unfold rest
  rw [show L.length - i = (L.length - (i + 1)) + 1 by omega, linesF, if_pos hi, if_pos hb]
theorem rest_brk (o : Bool) (L : List UInt8) (a i : Nat) (hi : i < L.length) (hb : brkN o (L.drop i) ≠ 0) : rest o L a i = (a, i, i + brkN o (L.drop i)) :: rest o L (i + brkN o (L.drop i)) (i + brkN o (L.drop i)) := by
  unfold rest
  rw [show L.length - i = (L.length - (i + 1)) + 1 by omega, linesF, if_pos hi, if_neg hb]
  congr 1
  exact linesF_fuel o L _ _ _ _ (by omega) (by omega)
theorem rest_end (o : Bool) (L : List UInt8) (a i : Nat) (hi : L.length ≤ i) : rest o L a i = if a < L.length then [(a, L.length, L.length)] else [] := linesF_out o L _ a i hi

/-- What lines are: one behind the other, up to the text's end; each ends ahead of its first break. -/
def Good (o : Bool) (L : List UInt8) : Nat → List (Nat × Nat × Nat) → Prop
  | p, [] => p = L.length
  | p, (a, e, x) :: r => a = p ∧ a ≤ e ∧ e ≤ x ∧ x ≤ L.length ∧ a < L.length ∧ x - e = brkN o (L.drop e) ∧ (∀ k, a ≤ k → k < e → brkN o (L.drop k) = 0) ∧ (x = e → r = []) ∧ Good o L x r

theorem good_rest (o : Bool) (L : List UInt8) (n : Nat) : ∀ (a i : Nat), L.length - i ≤ n → a ≤ i → i ≤ L.length → (∀ k, a ≤ k → k < i → brkN o (L.drop k) = 0) → Good o L a (rest o L a i) := by
  induction n with
  | zero =>
    intro a i hn ha hi hk
    rw [rest_end o L a i (by omega)]
    split
    · rename_i h
      refine ⟨rfl, by omega, Nat.le_refl _, Nat.le_refl _, h, ?_, ?_, fun _ => rfl, rfl⟩
      · rw [List.drop_eq_nil_of_le (Nat.le_refl _), brkN_nil]; omega
      · intro k h1 h2; exact hk k h1 (by omega)
    · show a = L.length
      omega
  | succ n ih =>
    intro a i hn ha hi hk
    by_cases hlt : i < L.length
    · by_cases hb : brkN o (L.drop i) = 0
      · rw [rest_skip o L a i hlt hb]
        refine ih a (i + 1) (by omega) (by omega) (by omega) ?_
        intro k h1 h2
        by_cases hki : k = i
        · rw [hki]; exact hb
        · exact hk k h1 (by omega)
      · rw [rest_brk o L a i hlt hb]
        have hle := brkN_le o (L.drop i)
        rw [List.length_drop] at hle
        refine ⟨rfl, ha, by omega, by omega, by omega, by omega, hk, fun h => absurd h (by omega), ?_⟩
        exact ih _ _ (by omega) (Nat.le_refl _) (by omega) (fun k h1 h2 => absurd h2 (by omega))
    · have : i = L.length := by omega
      rw [rest_end o L a i (by omega)]
      split
      · rename_i h
        refine ⟨rfl, by omega, Nat.le_refl _, Nat.le_refl _, h, ?_, ?_, fun _ => rfl, rfl⟩
        · rw [List.drop_eq_nil_of_le (Nat.le_refl _), brkN_nil]; omega
        · intro k h1 h2; exact hk k h1 (by omega)
      · show a = L.length
        omega
theorem good_lines (o : Bool) (L : List UInt8) : Good o L 0 (lines o L) := by
  rw [← rest_zero]
  exact good_rest o L L.length 0 0 (by omega) (Nat.le_refl _) (by omega) (fun k h1 h2 => absurd h2 (by omega))

/-- Where lines are those of both versions, no break is one of the old version alone. -/
theorem good_both (L : List UInt8) : ∀ (ls : List (Nat × Nat × Nat)) (p : Nat), Good true L p ls → Good false L p ls → ∀ i, p ≤ i → i < L.length → brkN true (L.drop i) ≠ 0 → brkN false (L.drop i) ≠ 0 := by
  intro ls
  induction ls with
  | nil => intro p h h' i hp hi; have : p = L.length := h; omega
  | cons x r ih =>
    obtain ⟨a, e, x⟩ := x
    intro p h h' i hp hi hb
    obtain ⟨t1, t2, t3, t4, t5, t6, t7, t8, t9⟩ := h
    obtain ⟨f1, f2, f3, f4, f5, f6, f7, f8, f9⟩ := h'
    rcases Nat.lt_or_ge i e with k | k
    · exact absurd (t7 i (by omega) k) hb
    · rcases Nat.lt_or_ge i x with k2 | k2
      · by_cases hie : i = e
        · rw [hie] at hb ⊢; omega
        · exact brkN_in L e i (by omega) (by omega)
      · exact ih x t9 f9 i k2 hi hb
theorem linesF_same (L : List UInt8) (h : ∀ i, i < L.length → brkN true (L.drop i) = brkN false (L.drop i)) : ∀ (f a i : Nat), linesF true L f a i = linesF false L f a i := by
  intro f
  induction f with
  | zero => intro a i; rfl
  | succ f ih =>
    intro a i
    by_cases hi : i < L.length
    · rw [linesF, linesF, if_pos hi, if_pos hi, h i hi, ih, ih]
    · rw [linesF_out _ _ _ _ _ (by omega), linesF_out _ _ _ _ _ (by omega)]
/-- A break of the old version alone at some place. -/
def moreB (L : List UInt8) (i : Nat) : Bool := decide (0 < brkN true (L.drop i)) && (brkN false (L.drop i) == 0)
def more (L : List UInt8) : Nat → Bool
  | 0 => false
  | k + 1 => more L k || moreB L k
theorem more_iff (L : List UInt8) (n : Nat) : more L n = true ↔ ∃ i, i < n ∧ moreB L i = true := by
  induction n with
  | zero => simp [more]
  | succ n ih =>
    rw [more, Bool.or_eq_true, ih]
    constructor
    · rintro (⟨i, h, k⟩ | k)
      · exact ⟨i, by omega, k⟩
      · exact ⟨n, by omega, k⟩
    · rintro ⟨i, h, k⟩
      by_cases hi : i = n
      · exact Or.inr (hi ▸ k)
      · exact Or.inl ⟨i, by omega, k⟩
theorem lines_versions (L : List UInt8) : (lines true L = lines false L) ↔ more L L.length = false := by
  constructor
  · intro h
    cases hm : more L L.length with
    | false => rfl
    | true =>
      obtain ⟨i, hi, hb⟩ := (more_iff L L.length).1 hm
      unfold moreB at hb
      simp only [Bool.and_eq_true, decide_eq_true_eq, beq_iff_eq] at hb
      have g := good_both L (lines true L) 0 (good_lines true L) (h ▸ good_lines false L) i (Nat.zero_le _) hi (by omega)
      omega
  · intro h
    refine linesF_same L ?_ _ _ _
    intro i hi
    by_cases hf : brkN false (L.drop i) = 0
    · by_cases ht : brkN true (L.drop i) = 0
      · rw [hf, ht]
      · have : more L L.length = true := (more_iff L L.length).2 ⟨i, hi, by unfold moreB; simp only [Bool.and_eq_true, decide_eq_true_eq, beq_iff_eq]; omega⟩
        rw [h] at this; cases this
    · exact brkN_new _ hf

end Go.Proofs.Ythbmppkngaifmaa.M
