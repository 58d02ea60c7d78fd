/- Plain mathematics of places, on: well-formed texts put together and cut; the byte of a place. No program in it. -/
import Derived.Test.YthbmppkngaifmaaMw
set_option linter.unusedVariables false
namespace Go.Proofs.Ythbmppkngaifmaa.M
open Go.Lib

/-- Each first byte of a break of the old version has as many bytes behind it as it wants. -/
def Full (l : List UInt8) : Prop := ∀ j, (by8 l j = 194 → j + 1 < l.length) ∧ (by8 l j = 226 → j + 2 < l.length)
theorem utf8_full (c : Nat) (hc : IsScalar c) (j : Nat) (hj : j < (utf8 c).length) : (by8 (utf8 c) j = 194 → j + 1 < (utf8 c).length) ∧ (by8 (utf8 c) j = 226 → j + 2 < (utf8 c).length) := by
  unfold IsScalar at hc
  revert hj
  unfold utf8
  split
  · intro hj
    obtain rfl : j = 0 := by simpa using hj
    rw [by8_0, u8_toNat]; omega
  · split
    · intro hj
      rcases (show j = 0 ∨ j = 1 by simp at hj; omega) with rfl | rfl
      · rw [by8_0, u8_toNat]; simp; omega
      · rw [by8_1, u8_toNat]; omega
    · split
      · intro hj
        rcases (show j = 0 ∨ j = 1 ∨ j = 2 by simp at hj; omega) with rfl | rfl | rfl
        · rw [by8_0, u8_toNat]; simp
        · rw [by8_1, u8_toNat]; omega
        · rw [by8_2, u8_toNat]; omega
      · intro hj
        rcases (show j = 0 ∨ j = 1 ∨ j = 2 ∨ j = 3 by simp at hj; omega) with rfl | rfl | rfl | rfl
        · rw [by8_0, u8_toNat]; simp
        · rw [by8_1, u8_toNat]; omega
        · rw [by8_2, u8_toNat]; omega
        · rw [by8_3, u8_toNat]; omega
theorem enc_full (cs : List Nat) (h : ∀ c ∈ cs, IsScalar c) : Full (encAll 1 cs) := by
  induction cs with
  | nil => intro j; rw [encAll_nil, by8_out _ _ (by simp)]; omega
  | cons c cs ih =>
    intro j
    have hc := h c (List.mem_cons_self ..)
    have hr := ih (fun c hc => h c (List.mem_cons_of_mem _ hc))
    rw [encAll_cons, enc1_1, List.length_append]
    rcases Nat.lt_or_ge j (utf8 c).length with k | k
    · rw [by8_append_left _ _ _ k]
      have := utf8_full c hc j k
      omega
    · rw [by8_append_right _ _ _ k]
      have := hr (j - (utf8 c).length)
      omega
theorem valid_full (l : List UInt8) (h : validD l = true) : Full l := by
  obtain ⟨cs, hw⟩ := valid_of l h
  rw [hw.2]; exact enc_full cs hw.1

/-- No carriage return at the end of one ahead of a line feed at the beginning of the other. -/
def Apart (a b : List UInt8) : Prop := ¬ (0 < a.length ∧ by8 a (a.length - 1) = 13 ∧ by8 b 0 = 10)
theorem brkN_append (o : Bool) (a b : List UInt8) (hf : Full a) (hap : Apart a b) (j : Nat) (hj : j < a.length) : brkN o ((a ++ b).drop j) = brkN o (a.drop j) := by
  have e0 : by8 (a ++ b) (j + 0) = by8 a (j + 0) := by8_append_left _ _ _ (by omega)
  have hf1 := (hf j).1
  have hf2 := (hf j).2
  have e1 : by8 a j = 13 ∨ by8 a j = 194 ∨ by8 a j = 226 → (by8 (a ++ b) (j + 1) = 10 ↔ by8 a (j + 1) = 10) ∧ (by8 a j ≠ 13 → by8 (a ++ b) (j + 1) = by8 a (j + 1)) := by
    intro h
    rcases Nat.lt_or_ge (j + 1) a.length with k | k
    · have := by8_append_left a b (j + 1) k
      rw [this]
      exact ⟨Iff.rfl, fun _ => rfl⟩
    · have h13 : by8 a j = 13 := by omega
      have hl : j = a.length - 1 := by omega
      have h10 : by8 b 0 ≠ 10 := fun e => hap ⟨by omega, hl ▸ h13, e⟩
      rw [by8_append_right _ _ _ k, show j + 1 - a.length = 0 by omega, by8_out a (j + 1) k]
      exact ⟨⟨fun e => absurd e h10, fun e => by omega⟩, fun e => absurd h13 e⟩
  have e2 : by8 a j = 226 → by8 (a ++ b) (j + 2) = by8 a (j + 2) := fun h => by8_append_left _ _ _ (hf2 h)
  simp only [Nat.add_zero] at e0
  unfold brkN
  simp only [by8_drop, Nat.add_zero, e0]
  by_cases h13 : by8 a j = 13
  · have q := (e1 (Or.inl h13)).1
    simp only [h13, true_and, true_or, if_true, q]
  · by_cases h194 : by8 a j = 194
    · have q := (e1 (Or.inr (Or.inl h194))).2 h13
      simp only [h194, q]
      simp
    · by_cases h226 : by8 a j = 226
      · have q := (e1 (Or.inr (Or.inr h226))).2 h13
        have q2 := e2 h226
        simp only [h226, q, q2]
      · simp only [h13, h194, h226, false_and, and_false, false_or, if_false]
/-- Well-formed texts put together lead where the second one leads to from where the first one does. -/
theorem go_join (o : Bool) (a b : List UInt8) (p : Nat × Nat) (hf : Full a) (hap : Apart a b) : go o (a ++ b) p = go o b (go o a p) :=
  go_append o a.length a b p (Nat.le_refl _) (fun j hj => brkN_append o a b hf hap j hj)
theorem way_join (o : Bool) (a b : List UInt8) (hf : Full a) (hap : Apart a b) : way o (a ++ b) = ((way o a).1 + (way o b).1, if (way o b).1 = 0 then (way o a).2 + (way o b).2 else (way o b).2) := by
  have h := go_join o a b (0, 0) hf hap
  have e := go_way o b (way o a).1 (way o a).2
  rw [← e]
  exact h

/-- Where a well-formed text is cut so that what is ahead is well-formed, too, a scalar begins. -/
theorem lead_utf8 (c : Nat) (hc : IsScalar c) (r : List UInt8) : colN (by8 (utf8 c ++ r) 0) = 1 := by
  unfold IsScalar at hc
  have h : by8 (utf8 c ++ r) 0 < 128 ∨ 192 ≤ by8 (utf8 c ++ r) 0 := by
    unfold utf8
    split
    · rw [List.cons_append, by8_0, u8_toNat]; omega
    · split
      · rw [List.cons_append, by8_0, u8_toNat]; omega
      · split
        · rw [List.cons_append, by8_0, u8_toNat]; omega
        · rw [List.cons_append, by8_0, u8_toNat]; omega
  unfold colN
  rw [if_neg (by omega)]
theorem lead_at (ds : List Nat) : ∀ (cs : List Nat) (r : List UInt8), (∀ c ∈ cs, IsScalar c) → (∀ d ∈ ds, IsScalar d) → encAll 1 cs = encAll 1 ds ++ r → r ≠ [] → colN (by8 r 0) = 1 := by
  induction ds with
  | nil =>
    intro cs r hc _ h hr
    rw [encAll_nil, List.nil_append] at h
    cases cs with
    | nil => rw [encAll_nil] at h; exact absurd h.symm hr
    | cons c cs =>
      rw [← h, encAll_cons, enc1_1]
      exact lead_utf8 c (hc c (List.mem_cons_self ..)) _
  | cons d ds ih =>
    intro cs r hc hd h hr
    rw [encAll_cons, enc1_1, List.append_assoc] at h
    cases cs with
    | nil =>
      rw [encAll_nil] at h
      exact absurd h.symm (utf8_ne_nil d _)
    | cons c cs =>
      rw [encAll_cons, enc1_1] at h
      have h1 := nx8_enc c (encAll 1 cs) (hc c (List.mem_cons_self ..))
      have h2 := nx8_enc d (encAll 1 ds ++ r) (hd d (List.mem_cons_self ..))
      rw [h, h2] at h1
      have e : d = c := congrArg Prod.fst h1
      subst e
      exact ih cs r (fun c hc' => hc c (List.mem_cons_of_mem _ hc')) (fun c hc' => hd c (List.mem_cons_of_mem _ hc')) (List.append_cancel_left h) hr
theorem lead_cut (L : List UInt8) (k : Nat) (h : validD L = true) (hk : validD (L.take k) = true) (hl : k < L.length) : colN (by8 L k) = 1 := by
  obtain ⟨cs, hc⟩ := valid_of L h
  obtain ⟨ds, hd⟩ := valid_of _ hk
  have hr : L.drop k ≠ [] := by intro e; have := congrArg List.length e; rw [List.length_drop] at this; simp at this; omega
  have e : encAll 1 cs = encAll 1 ds ++ L.drop k := by rw [← hc.2, ← hd.2, List.take_append_drop]
  have := lead_at ds cs (L.drop k) hc.1 hd.1 e hr
  rwa [by8_drop, Nat.add_zero] at this

def lt2 (p q : Nat × Nat) : Prop := p.1 < q.1 ∨ (p.1 = q.1 ∧ p.2 < q.2)
theorem take_take_drop (L : List UInt8) (i k : Nat) (h : i ≤ k) : L.take k = L.take i ++ (L.take k).drop i := by
  have := List.take_append_drop i (L.take k)
  rw [List.take_take, Nat.min_eq_left h] at this
  exact this.symm
/-- Behind the beginning of a whole scalar, not within a break, all places are further. -/
theorem pl_lt (o : Bool) (L : List UInt8) (k : Nat) (h : validD L = true) (hk : validD (L.take k) = true) (hl : k < L.length) (hap : ¬ (0 < k ∧ by8 L (k - 1) = 13 ∧ by8 L k = 10)) (m : Nat) (hm : k < m) : lt2 (pl o L k) (pl o L m) := by
  have hs : lt2 (pl o L k) (pl o L (k + 1)) := by
    have e := take_take_drop L k (k + 1) (by omega)
    have hlen : (L.take k).length = k := by rw [List.length_take]; omega
    have hd : (L.take (k + 1)).drop k = [L[k]'hl] := by
      rw [List.take_succ_eq_append_getElem hl, List.drop_append_of_le_length (by omega), List.drop_eq_nil_of_le (by omega), List.nil_append]
    have hb : by8 [L[k]'hl] 0 = by8 L k := by
      rw [← hd, by8_drop, by8_take, if_pos (by omega), Nat.add_zero]
    have hgo : pl o L (k + 1) = go o [L[k]'hl] (pl o L k) := by
      unfold pl way
      rw [e, hd]
      refine go_join o _ _ _ (valid_full _ hk) ?_
      unfold Apart
      rw [hlen, hb, by8_take]
      rintro ⟨a1, a2, a3⟩
      rw [if_pos (by omega)] at a2
      exact hap ⟨a1, a2, a3⟩
    rw [hgo, go_one]
    have hc := lead_cut L k h hk hl
    unfold mv lt2
    split
    · rw [hb, hc]
      exact Or.inr ⟨rfl, Nat.lt_succ_self _⟩
    · exact Or.inl (Nat.lt_succ_self _)
  have hm2 := pl_le o L (k + 1) m (by omega)
  unfold lt2 le2 at *
  omega

/-- Is this the place behind the first k bytes? -/
def hit (o : Bool) (L : List UInt8) (x y : Int) (k : Nat) : Bool := decide (((pl o L k).1 : Int) = x ∧ ((pl o L k).2 : Int) = y)
/-- The greatest number of bytes below n that leads to a place. -/
def best (o : Bool) (L : List UInt8) (x y : Int) : Nat → Int
  | 0 => -1
  | n + 1 => if hit o L x y n = true then (n : Int) else best o L x y n
theorem best_stop (o : Bool) (L : List UInt8) (x y : Int) (i d : Nat) (h : ∀ k, i ≤ k → k < i + d → hit o L x y k = false) : best o L x y (i + d) = best o L x y i := by
  induction d with
  | zero => rfl
  | succ d ih =>
    rw [← Nat.add_assoc, best, h (i + d) (by omega) (by omega), if_neg (by simp)]
    exact ih (fun k h1 h2 => h k h1 (by omega))
theorem best_le (o : Bool) (L : List UInt8) (x y : Int) (i n : Nat) (hi : i ≤ n) (h : ∀ k, i ≤ k → k < n → hit o L x y k = false) : best o L x y n = best o L x y i := by
  have := best_stop o L x y i (n - i) (fun k h1 h2 => h k h1 (by omega))
  rwa [show i + (n - i) = n by omega] at this
/-- Ahead of a place that is further nothing more is found. -/
theorem best_past (o : Bool) (L : List UInt8) (x y : Int) (i n : Nat) (hi : i ≤ n) (h : x < ((pl o L i).1 : Int) ∨ (x = ((pl o L i).1 : Int) ∧ y < ((pl o L i).2 : Int))) : best o L x y n = best o L x y i := by
  refine best_le o L x y i n hi ?_
  intro k h1 h2
  have := pl_le o L i k h1
  unfold le2 at this
  unfold hit
  rw [decide_eq_false_iff_not]
  omega
theorem best_bounds (o : Bool) (L : List UInt8) (x y : Int) (n : Nat) : -1 ≤ best o L x y n ∧ best o L x y n < n := by
  induction n with
  | zero => simp [best]
  | succ n ih =>
    rw [best]
    split <;> omega
/-- There and back. -/
theorem best_back (o : Bool) (L : List UInt8) (k : Nat) (h : validD L = true) (hk : validD (L.take k) = true) (hl : k ≤ L.length) (hap : ¬ (0 < k ∧ k < L.length ∧ by8 L (k - 1) = 13 ∧ by8 L k = 10)) : best o L ((pl o L k).1 : Int) ((pl o L k).2 : Int) (L.length + 1) = k := by
  have h1 : best o L ((pl o L k).1 : Int) ((pl o L k).2 : Int) (L.length + 1) = best o L ((pl o L k).1 : Int) ((pl o L k).2 : Int) (k + 1) := by
    refine best_le _ _ _ _ _ _ (by omega) ?_
    intro m h1 h2
    have := pl_lt o L k h hk (by omega) (by rintro ⟨a, b, c⟩; exact hap ⟨a, by omega, b, c⟩) m (by omega)
    unfold lt2 at this
    unfold hit
    rw [decide_eq_false_iff_not]
    omega
  rw [h1, best, if_pos (by unfold hit; simp)]

theorem mv_le (o : Bool) (l : List UInt8) (p : Nat × Nat) : (mv o l p).1 ≤ p.1 + 1 ∧ (mv o l p).2 ≤ p.2 + 1 := by
  unfold mv colN
  split
  · simp only []; split <;> omega
  · simp only []; omega
/-- On one line. -/
theorem line_feed (o : Bool) (b : List UInt8) (h : by8 b 0 = 10) : 0 < (way o b).1 := by
  have hb : b ≠ [] := by intro e; subst e; rw [by8_out _ _ (by simp)] at h; omega
  have hn : brkN o b = 1 := by unfold brkN; rw [if_neg (by omega), if_pos (by omega)]
  unfold way
  rw [go_step o b _ hb]
  have hm : mv o b (0, 0) = (1, 0) := by unfold mv; rw [if_neg (by omega)]
  rw [hm]
  have := le2_go o _ (b.drop (stp o b)) (1, 0) (Nat.le_refl _)
  unfold le2 at this
  omega
theorem adds (o : Bool) (L : List UInt8) (i k : Nat) (hik : i ≤ k) (hi : validD (L.take i) = true) (h : (way o ((L.take k).drop i)).1 = 0) : pl o L k = ((pl o L i).1, (pl o L i).2 + (way o ((L.take k).drop i)).2) := by
  have e := take_take_drop L i k hik
  have hap : Apart (L.take i) ((L.take k).drop i) := by
    rintro ⟨_, _, a⟩
    have := line_feed o _ a
    omega
  unfold pl
  rw [e, way_join o _ _ (valid_full _ hi) hap, ← e, h, if_pos rfl, Nat.add_zero]

end Go.Proofs.Ythbmppkngaifmaa.M
