/- Plain mathematics of ways and places: how far a text leads, cut off, put together, there and back. No program in it. -/
import Derived.Test.YthbmppkngaifmaaMl
set_option linter.unusedVariables false
namespace Go.Proofs.Ythbmppkngaifmaa.M
open Go.Lib

/-- How many columns a byte makes. -/
def colN (b : Nat) : Nat := if 128 ≤ b ∧ b < 192 then 0 else 1
/-- How many bytes are gone over in one step. -/
def stp (o : Bool) (l : List UInt8) : Nat := if brkN o l = 0 then 1 else brkN o l
/-- Where one step leads. -/
def mv (o : Bool) (l : List UInt8) (p : Nat × Nat) : Nat × Nat := if brkN o l = 0 then (p.1, p.2 + colN (by8 l 0)) else (p.1 + 1, 0)
def goF (o : Bool) : Nat → List UInt8 → Nat × Nat → Nat × Nat
  | 0, _, p => p
  | f + 1, l, p => if l = [] then p else goF o f (l.drop (stp o l)) (mv o l p)
/-- Where a text leads to from a place. -/
def go (o : Bool) (l : List UInt8) (p : Nat × Nat) : Nat × Nat := goF o l.length l p
def way (o : Bool) (l : List UInt8) : Nat × Nat := go o l (0, 0)

theorem stp_pos (o : Bool) (l : List UInt8) : 1 ≤ stp o l := by unfold stp; split <;> omega
theorem stp_le (o : Bool) (l : List UInt8) (h : l ≠ []) : stp o l ≤ l.length := by
  have := brkN_le o l
  have : 0 < l.length := List.length_pos_iff.2 h
  unfold stp; split <;> omega
theorem stp_le3 (o : Bool) (l : List UInt8) : stp o l ≤ 3 := by
  have := brkN_le3 o l
  unfold stp; split <;> omega
theorem goF_nil (o : Bool) (f : Nat) (p : Nat × Nat) : goF o f [] p = p := by cases f <;> simp [goF]
theorem goF_fuel (o : Bool) : ∀ (f g : Nat) (l : List UInt8) (p : Nat × Nat), l.length ≤ f → l.length ≤ g → goF o f l p = goF o g l p := by
  intro f
  induction f with
  | zero =>
    intro g l p hf hg
    have : l = [] := List.length_eq_zero_iff.1 (by omega)
    rw [this, goF_nil, goF_nil]
  | succ f ih =>
    intro g l p hf hg
    by_cases hl : l = []
    · rw [hl, goF_nil, goF_nil]
    · cases g with
      | zero => exact absurd (List.length_eq_zero_iff.1 (by omega)) hl
      | succ g =>
        have := stp_pos o l
        rw [goF, goF, if_neg hl, if_neg hl, ih g _ _ (by rw [List.length_drop]; omega) (by rw [List.length_drop]; omega)]
theorem go_nil (o : Bool) (p : Nat × Nat) : go o [] p = p := rfl
theorem go_step (o : Bool) (l : List UInt8) (p : Nat × Nat) (h : l ≠ []) : go o l p = go o (l.drop (stp o l)) (mv o l p) := by
  unfold go
  cases hn : l.length with
  | zero => exact absurd (List.length_eq_zero_iff.1 hn) h
  | succ n =>
    have := stp_pos o l
    rw [goF, if_neg h, goF_fuel o n (l.drop (stp o l)).length _ _ (by rw [List.length_drop]; omega) (Nat.le_refl _)]

/-- From another place the same way. -/
theorem go_from (o : Bool) (n : Nat) : ∀ (l : List UInt8) (x y : Nat), l.length ≤ n → go o l (x, y) = (x + (way o l).1, if (way o l).1 = 0 then y + (way o l).2 else (way o l).2) := by
  unfold way
  induction n with
  | zero =>
    intro l x y hn
    have : l = [] := List.length_eq_zero_iff.1 (by omega)
    subst this
    simp [go_nil]
  | succ n ih =>
    intro l x y hn
    by_cases hl : l = []
    · subst hl; simp [go_nil]
    · have hs := stp_pos o l
      have hd : (l.drop (stp o l)).length ≤ n := by rw [List.length_drop]; omega
      rw [go_step o l _ hl, go_step o l (0, 0) hl]
      unfold mv
      split
      · simp only []
        rw [ih _ x _ hd, ih _ 0 (0 + colN (by8 l 0)) hd]
        simp only [Nat.zero_add]
        refine Prod.ext rfl ?_
        simp only []
        split
        · omega
        · rfl
      · simp only []
        rw [ih _ (x + 1) _ hd, ih _ (0 + 1) 0 hd]
        refine Prod.ext ?_ ?_
        · simp only []; omega
        · simp only []
          rw [if_neg (show ¬ (0 + 1 + (go o (l.drop (stp o l)) (0, 0)).1 = 0) by omega)]
theorem go_way (o : Bool) (l : List UInt8) (x y : Nat) : go o l (x, y) = (x + (way o l).1, if (way o l).1 = 0 then y + (way o l).2 else (way o l).2) := go_from o l.length l x y (Nat.le_refl _)
/-- How far it leads at most. -/
theorem go_le (o : Bool) (n : Nat) : ∀ (l : List UInt8) (p : Nat × Nat), l.length ≤ n → (go o l p).1 ≤ p.1 + l.length ∧ (go o l p).2 ≤ p.2 + l.length := by
  induction n with
  | zero =>
    intro l p hn
    have : l = [] := List.length_eq_zero_iff.1 (by omega)
    subst this
    simp [go_nil]
  | succ n ih =>
    intro l p hn
    by_cases hl : l = []
    · subst hl; simp [go_nil]
    · have hs := stp_pos o l
      have hs2 := stp_le o l hl
      have hd : (l.drop (stp o l)).length ≤ n := by rw [List.length_drop]; omega
      have := ih (l.drop (stp o l)) (mv o l p) hd
      rw [List.length_drop] at this
      rw [go_step o l _ hl]
      have hm : (mv o l p).1 ≤ p.1 + 1 ∧ (mv o l p).2 ≤ p.2 + 1 := by
        unfold mv colN
        split
        · simp only []; split <;> omega
        · simp only []; omega
      omega
theorem way_le (o : Bool) (l : List UInt8) : (way o l).1 ≤ l.length ∧ (way o l).2 ≤ l.length := by
  have := go_le o l.length l (0, 0) (Nat.le_refl _)
  unfold way
  omega

/-- Put together. -/
theorem go_append (o : Bool) (n : Nat) : ∀ (a b : List UInt8) (p : Nat × Nat), a.length ≤ n → (∀ j, j < a.length → brkN o ((a ++ b).drop j) = brkN o (a.drop j)) → go o (a ++ b) p = go o b (go o a p) := by
  induction n with
  | zero =>
    intro a b p hn h
    have : a = [] := List.length_eq_zero_iff.1 (by omega)
    subst this
    rfl
  | succ n ih =>
    intro a b p hn h
    by_cases ha : a = []
    · subst ha; rfl
    · have hs := stp_pos o a
      have hs2 := stp_le o a ha
      have h0 : brkN o (a ++ b) = brkN o a := by
        have := h 0 (List.length_pos_iff.2 ha)
        simpa using this
      have e1 : stp o (a ++ b) = stp o a := by unfold stp; rw [h0]
      have e2 : mv o (a ++ b) p = mv o a p := by unfold mv; rw [h0, by8_append_left a b 0 (List.length_pos_iff.2 ha)]
      rw [go_step o (a ++ b) p (by simp [ha]), go_step o a p ha, e1, e2, List.drop_append_of_le_length hs2]
      refine ih _ _ _ (by rw [List.length_drop]; omega) ?_
      intro j hj
      rw [List.length_drop] at hj
      have := h (stp o a + j) (by omega)
      rw [← List.drop_append_of_le_length hs2, List.drop_drop, List.drop_drop]
      exact this

theorem by8_take (l : List UInt8) (t i : Nat) : by8 (l.take t) i = if i < t then by8 l i else 0 := by
  unfold by8
  rw [List.getD_eq_getElem?_getD, List.getD_eq_getElem?_getD, List.getElem?_take]
  split <;> rfl
/-- A text cut off, but not in its first step, begins with the same step. -/
theorem brkN_take (o : Bool) (l : List UInt8) (t : Nat) (h : stp o l ≤ t) : brkN o (l.take t) = brkN o l := by
  have hs := stp_pos o l
  have b0 : by8 (l.take t) 0 = by8 l 0 := by rw [by8_take, if_pos (by omega)]
  have b1 := by8_take l t 1
  have b2 := by8_take l t 2
  revert h
  unfold stp brkN
  rw [b0, b1, b2]
  by_cases h1 : by8 l 0 = 13 ∧ by8 l 1 = 10
  · rw [if_pos h1]
    intro h
    simp at h
    rw [if_pos ⟨h1.1, by rw [if_pos (by omega)]; exact h1.2⟩]
  · rw [if_neg h1]
    by_cases h2 : by8 l 0 = 13 ∨ by8 l 0 = 10
    · rw [if_pos h2]
      intro _
      rw [if_neg (by rintro ⟨k1, k2⟩; split at k2; exact h1 ⟨k1, k2⟩; omega), if_pos h2]
    · rw [if_neg h2]
      by_cases h3 : o = true ∧ by8 l 0 = 194 ∧ by8 l 1 = 133
      · rw [if_pos h3]
        intro h
        simp at h
        rw [if_neg (by omega), if_neg h2, if_pos ⟨h3.1, h3.2.1, by rw [if_pos (by omega)]; exact h3.2.2⟩]
      · rw [if_neg h3]
        by_cases h4 : o = true ∧ by8 l 0 = 226 ∧ by8 l 1 = 128 ∧ (by8 l 2 = 168 ∨ by8 l 2 = 169)
        · rw [if_pos h4]
          intro h
          simp at h
          rw [if_neg (by omega), if_neg h2, if_neg (by omega), if_pos ⟨h4.1, h4.2.1, by rw [if_pos (by omega)]; exact h4.2.2.1, by rw [if_pos (by omega)]; exact h4.2.2.2⟩]
        · rw [if_neg h4]
          intro _
          rw [if_neg (by omega), if_neg h2, if_neg, if_neg]
          · rintro ⟨k1, k2, k3, k4⟩
            split at k3
            · split at k4
              · exact h4 ⟨k1, k2, k3, k4⟩
              · omega
            · omega
          · rintro ⟨k1, k2, k3⟩
            split at k3
            · exact h3 ⟨k1, k2, k3⟩
            · omega
theorem stp_take (o : Bool) (l : List UInt8) (t : Nat) (h : stp o l ≤ t) : stp o (l.take t) = stp o l := by unfold stp; rw [brkN_take o l t h]
theorem mv_take (o : Bool) (l : List UInt8) (t : Nat) (p : Nat × Nat) (h : stp o l ≤ t) : mv o (l.take t) p = mv o l p := by
  have hs := stp_pos o l
  unfold mv; rw [brkN_take o l t h, by8_take, if_pos (show 0 < t by omega)]
/-- The place behind the first k bytes. -/
def pl (o : Bool) (L : List UInt8) (k : Nat) : Nat × Nat := way o (L.take k)
/-- A place that is come to by steps. -/
def At (o : Bool) (L : List UInt8) (i : Nat) (p : Nat × Nat) : Prop := ∀ k, pl o L (i + k) = go o ((L.drop i).take k) p
theorem at_zero (o : Bool) (L : List UInt8) : At o L 0 (0, 0) := by
  intro k; unfold pl way; simp
theorem take_ne_nil (l : List UInt8) (t : Nat) (hl : l ≠ []) (ht : 1 ≤ t) : l.take t ≠ [] := by
  cases l with
  | nil => exact absurd rfl hl
  | cons a r => cases t with
    | zero => omega
    | succ t => simp
theorem at_step {o : Bool} {L : List UInt8} {i : Nat} {p : Nat × Nat} (h : At o L i p) (hi : i < L.length) : At o L (i + stp o (L.drop i)) (mv o (L.drop i) p) := by
  intro k
  have hl : L.drop i ≠ [] := by intro e; have := congrArg List.length e; rw [List.length_drop] at this; simp at this; omega
  have hs := stp_pos o (L.drop i)
  have h1 := h (stp o (L.drop i) + k)
  rw [← Nat.add_assoc] at h1
  rw [h1, go_step o _ _ (take_ne_nil _ _ hl (by omega)), stp_take o _ _ (by omega), mv_take o _ _ _ (by omega), List.drop_take, List.drop_drop, Nat.add_sub_cancel_left]
theorem at_self {o : Bool} {L : List UInt8} {i : Nat} {p : Nat × Nat} (h : At o L i p) : pl o L i = p := by
  have := h 0
  simpa [go_nil] using this

/-- The order of places. -/
def le2 (p q : Nat × Nat) : Prop := p.1 < q.1 ∨ (p.1 = q.1 ∧ p.2 ≤ q.2)
theorem le2.refl (p : Nat × Nat) : le2 p p := Or.inr ⟨rfl, Nat.le_refl _⟩
theorem le2.trans {p q r : Nat × Nat} (h : le2 p q) (k : le2 q r) : le2 p r := by unfold le2 at *; omega
theorem le2_mv (o : Bool) (l : List UInt8) (p : Nat × Nat) : le2 p (mv o l p) := by
  unfold le2 mv
  split
  · exact Or.inr ⟨rfl, Nat.le_add_right _ _⟩
  · exact Or.inl (Nat.lt_succ_self _)
theorem le2_go (o : Bool) (n : Nat) : ∀ (l : List UInt8) (p : Nat × Nat), l.length ≤ n → le2 p (go o l p) := by
  induction n with
  | zero =>
    intro l p hn
    have : l = [] := List.length_eq_zero_iff.1 (by omega)
    subst this
    exact le2.refl p
  | succ n ih =>
    intro l p hn
    by_cases hl : l = []
    · subst hl; exact le2.refl p
    · have hs := stp_pos o l
      rw [go_step o l p hl]
      exact (le2_mv o l p).trans (ih _ _ (by rw [List.length_drop]; omega))
theorem go_one (o : Bool) (x : UInt8) (p : Nat × Nat) : go o [x] p = mv o [x] p := by
  have h1 := stp_pos o [x]
  rw [go_step o [x] p (by simp), List.drop_eq_nil_of_le (by simpa using h1), go_nil]
theorem go_whole (o : Bool) (l : List UInt8) (p : Nat × Nat) (h : l ≠ []) : go o (l.take (stp o l)) p = mv o l p := by
  have hs := stp_pos o l
  rw [go_step o _ p (take_ne_nil _ _ h hs), stp_take o l _ (Nat.le_refl _), mv_take o l _ _ (Nat.le_refl _), List.drop_eq_nil_of_le (by rw [List.length_take]; omega), go_nil]
theorem go_part (o : Bool) (l : List UInt8) (p : Nat × Nat) (k : Nat) (h0 : 0 < k) (h1 : k < stp o l) : le2 (go o (l.take k) p) (go o (l.take (k + 1)) p) := by
  have hl : l ≠ [] := by
    intro e; subst e
    unfold stp at h1; rw [brkN_nil] at h1; simp at h1; omega
  have hw := go_whole o l p hl
  have hb : brkN o l ≠ 0 := by
    intro e; unfold stp at h1; rw [if_pos e] at h1; omega
  have hst : stp o l = brkN o l := by unfold stp; rw [if_neg hb]
  have hm : mv o l p = (p.1 + 1, 0) := by unfold mv; rw [if_neg hb]
  rw [hst] at h1 hw
  rw [hm] at hw
  have h3 := brkN_le3 o l
  have hle := brkN_le o l
  have h2 : 2 ≤ brkN o l := by omega
  have t1 : l.take 1 = [l[0]'(by omega)] := take1 l (by omega)
  have g1 : go o (l.take 1) p = mv o [l[0]'(by omega)] p := by rw [t1, go_one]
  have a0 : by8 [l[0]'(by omega)] 0 = by8 l 0 := by rw [← t1, by8_take, if_pos (by omega)]
  have a1 : by8 [l[0]'(by omega)] 1 = 0 := by rw [by8_out _ _ (by simp)]
  have m1 : le2 (mv o [l[0]'(by omega)] p) (p.1 + 1, 0) := by
    unfold mv le2
    split
    · exact Or.inl (Nat.lt_succ_self _)
    · exact Or.inr ⟨rfl, Nat.le_refl _⟩
  rcases (show k = 1 ∨ k = 2 by omega) with rfl | rfl
  · rcases (show brkN o l = 2 ∨ brkN o l = 3 by omega) with e | e
    · rw [e] at hw
      rw [hw, g1]; exact m1
    · have hc : o = true ∧ by8 l 0 = 226 ∧ by8 l 1 = 128 ∧ (by8 l 2 = 168 ∨ by8 l 2 = 169) := by
        revert e; unfold brkN
        repeat' split
        all_goals first | omega | (intro _; assumption)
      have t2 : l.take 2 = [l[0]'(by omega), l[1]'(by omega)] := take2 l (by omega)
      have n1 : brkN o [l[0]'(by omega)] = 0 := by
        unfold brkN
        rw [a0, a1, if_neg (by omega), if_neg (by omega), if_neg (by omega), if_neg (by omega)]
      have c0 : by8 (l.take 2) 0 = by8 l 0 := by rw [by8_take, if_pos (by omega)]
      have c1 : by8 (l.take 2) 1 = by8 l 1 := by rw [by8_take, if_pos (by omega)]
      have c2 : by8 (l.take 2) 2 = 0 := by rw [by8_take, if_neg (by omega)]
      have n2 : brkN o (l.take 2) = 0 := by
        unfold brkN
        rw [c0, c1, c2, if_neg (by omega), if_neg (by omega), if_neg (by omega), if_neg (by omega)]
      have d1 : (l.take 2).drop 1 = [l[1]'(by omega)] := by rw [t2]; rfl
      rw [g1, go_step o (l.take 2) p (by rw [t2]; simp), show stp o (l.take 2) = 1 by unfold stp; rw [if_pos n2], d1, go_one]
      refine le2.trans ?_ (le2_mv _ _ _)
      unfold mv
      rw [if_pos n1, if_pos n2, a0, c0]
      exact le2.refl _
  · have e : brkN o l = 3 := by omega
    rw [e] at hw
    rw [hw]
    have hc : o = true ∧ by8 l 0 = 226 ∧ by8 l 1 = 128 ∧ (by8 l 2 = 168 ∨ by8 l 2 = 169) := by
      revert e; unfold brkN
      repeat' split
      all_goals first | omega | (intro _; assumption)
    have t2 : l.take 2 = [l[0]'(by omega), l[1]'(by omega)] := take2 l (by omega)
    have c0 : by8 (l.take 2) 0 = by8 l 0 := by rw [by8_take, if_pos (by omega)]
    have c1 : by8 (l.take 2) 1 = by8 l 1 := by rw [by8_take, if_pos (by omega)]
    have c2 : by8 (l.take 2) 2 = 0 := by rw [by8_take, if_neg (by omega)]
    have n2 : brkN o (l.take 2) = 0 := by
      unfold brkN
      rw [c0, c1, c2, if_neg (by omega), if_neg (by omega), if_neg (by omega), if_neg (by omega)]
    have d1 : (l.take 2).drop 1 = [l[1]'(by omega)] := by rw [t2]; rfl
    have e1 : by8 [l[1]'(by omega)] 0 = by8 l 1 := by rw [← d1, by8_drop, c1]
    have n3 : brkN o [l[1]'(by omega)] = 0 := by
      have e2 : by8 [l[1]'(by omega)] 1 = 0 := by rw [by8_out _ _ (by simp)]
      unfold brkN
      rw [e1, e2, if_neg (by omega), if_neg (by omega), if_neg (by omega), if_neg (by omega)]
    rw [go_step o (l.take 2) p (by rw [t2]; simp), show stp o (l.take 2) = 1 by unfold stp; rw [if_pos n2], d1, go_one]
    unfold mv le2
    rw [if_pos n2, if_pos n3]
    simp only []; omega
theorem go_mono (o : Bool) (n : Nat) : ∀ (l : List UInt8) (p : Nat × Nat) (k : Nat), l.length ≤ n → le2 (go o (l.take k) p) (go o (l.take (k + 1)) p) := by
  induction n with
  | zero =>
    intro l p k hn
    have : l = [] := List.length_eq_zero_iff.1 (by omega)
    subst this
    simp; exact le2.refl _
  | succ n ih =>
    intro l p k hn
    by_cases hl : l = []
    · subst hl; simp; exact le2.refl _
    · have hs := stp_pos o l
      by_cases hk : k = 0
      · subst hk
        rw [List.take_zero, go_nil]
        exact le2_go o _ _ _ (Nat.le_refl _)
      · by_cases hk2 : k < stp o l
        · exact go_part o l p k (by omega) hk2
        · rw [go_step o (l.take k) p (take_ne_nil _ _ hl (by omega)), go_step o (l.take (k + 1)) p (take_ne_nil _ _ hl (by omega)), stp_take o l _ (by omega), stp_take o l _ (by omega), mv_take o l _ _ (by omega), mv_take o l _ _ (by omega), List.drop_take, List.drop_take, show k + 1 - stp o l = k - stp o l + 1 by omega]
          exact ih _ _ _ (by rw [List.length_drop]; omega)
theorem pl_mono (o : Bool) (L : List UInt8) (i : Nat) (d : Nat) : le2 (pl o L i) (pl o L (i + d)) := by
  induction d with
  | zero => exact le2.refl _
  | succ d ih => exact ih.trans (go_mono o L.length L (0, 0) (i + d) (Nat.le_refl _))
theorem pl_le (o : Bool) (L : List UInt8) (i k : Nat) (h : i ≤ k) : le2 (pl o L i) (pl o L k) := by
  have := pl_mono o L i (k - i)
  rwa [show i + (k - i) = k by omega] at this

end Go.Proofs.Ythbmppkngaifmaa.M
