/- Plain mathematics, on: signs that may be, the first that may not; texts put together with breaks. No program in it. -/
import Derived.Test.YthbmppkngaifmaaMk
set_option linter.unusedVariables false
namespace Go.Proofs.Ythbmppkngaifmaa.M
open Go.Lib

/-- A sign that may be. -/
def mayB (c : Nat) : Bool := decide ((c = 9 ∨ c = 10 ∨ c = 13 ∨ (32 ≤ c ∧ c ≤ 126) ∨ c = 133) ∨ ((160 ≤ c ∧ c ≤ 65533) ∧ c ≠ 65279) ∨ 65536 ≤ c)
theorem mayB_iff (c : Nat) : mayB c = true ↔ ((c = 9 ∨ c = 10 ∨ c = 13 ∨ (32 ≤ c ∧ c ≤ 126) ∨ c = 133) ∨ ((160 ≤ c ∧ c ≤ 65533) ∧ c ≠ 65279) ∨ 65536 ≤ c) := by unfold mayB; simp
theorem mayB_not (c : Nat) : mayB c = false ↔ ¬ ((c = 9 ∨ c = 10 ∨ c = 13 ∨ (32 ≤ c ∧ c ≤ 126) ∨ c = 133) ∨ ((160 ≤ c ∧ c ≤ 65533) ∧ c ≠ 65279) ∨ 65536 ≤ c) := by unfold mayB; simp only [decide_eq_false_iff_not]
/-- How many bytes the sign has that a text begins with, if it may be. -/
def mayN (l : List UInt8) : Nat := if mayB (nx8 l).1 = true then (nx8 l).2 else 0

theorem nx8_nil : nx8 [] = (0, 0) := by unfold nx8; simp
theorem nx8_ok (l : List UInt8) (h : (nx8 l).2 ≠ 0) : IsScalar (nx8 l).1 ∧ (nx8 l).2 ≤ l.length ∧ (nx8 l).2 ≤ 4 := by
  have := nx_ok 1 l; rw [nx_1] at this; exact this h
theorem nx8_take {l : List UInt8} {c n : Nat} (h : nx8 l = (c, n)) (hn : n ≠ 0) : IsScalar c ∧ l = utf8 c ++ l.drop n ∧ (utf8 c).length = n := by
  unfold nx8 at h
  split at h
  · have := congrArg Prod.snd h; simp only at this; omega
  · rename_i hb
    have hi := dN_inv l (fun e => hb (Or.inl e)) (fun e => hb (Or.inr e))
    rw [h] at hi
    exact ⟨hi.1, by rw [← hi.2.2.1, List.take_append_drop], hi.2.1.symm⟩
theorem nx8_append (l r : List UInt8) (h : (nx8 l).2 ≠ 0) : nx8 (l ++ r) = nx8 l := by
  obtain ⟨⟨c, n⟩, hcn⟩ : ∃ d, nx8 l = d := ⟨_, rfl⟩
  rw [hcn] at h ⊢
  obtain ⟨h1, h2, h3⟩ := nx8_take hcn h
  rw [h2, List.append_assoc, nx8_enc _ _ h1, h3]
theorem mayN_le (l : List UInt8) : mayN l ≤ l.length ∧ mayN l ≤ 4 := by
  unfold mayN
  split
  · by_cases h : (nx8 l).2 = 0
    · rw [h]; omega
    · exact (nx8_ok l h).2
  · omega
theorem mayN_nil : mayN [] = 0 := by unfold mayN; rw [nx8_nil]; decide
theorem mayN_append (l r : List UInt8) (h : mayN l ≠ 0) : mayN (l ++ r) = mayN l := by
  have h2 : (nx8 l).2 ≠ 0 := by
    intro e
    apply h
    unfold mayN
    rw [e]; split <;> rfl
  unfold mayN
  rw [nx8_append l r h2]

/-- How far the first sign lies that may not be; none: there is none. -/
def chkO : Nat → List UInt8 → Option Nat
  | 0, _ => none
  | f + 1, l => if l = [] then none else if mayN l = 0 then some 0 else (chkO f (l.drop (mayN l))).map (· + mayN l)
def chk (l : List UInt8) : Option Nat := chkO l.length l
theorem chkO_nil (f : Nat) : chkO f [] = none := by cases f <;> simp [chkO]
theorem chkO_fuel : ∀ (f g : Nat) (l : List UInt8), l.length ≤ f → l.length ≤ g → chkO f l = chkO g l := by
  intro f
  induction f with
  | zero =>
    intro g l hf hg
    have : l = [] := List.length_eq_zero_iff.1 (by omega)
    rw [this, chkO_nil, chkO_nil]
  | succ f ih =>
    intro g l hf hg
    by_cases hl : l = []
    · rw [hl, chkO_nil, chkO_nil]
    · cases g with
      | zero => exact absurd (List.length_eq_zero_iff.1 (by omega)) hl
      | succ g =>
        rw [chkO, chkO, if_neg hl, if_neg hl]
        by_cases h : mayN l = 0
        · rw [if_pos h, if_pos h]
        · rw [if_neg h, if_neg h, ih g _ (by rw [List.length_drop]; omega) (by rw [List.length_drop]; omega)]
theorem chk_nil : chk [] = none := rfl
theorem chk_bad (l : List UInt8) (hl : l ≠ []) (h : mayN l = 0) : chk l = some 0 := by
  unfold chk
  cases hn : l.length with
  | zero => exact absurd (List.length_eq_zero_iff.1 hn) hl
  | succ n => rw [chkO, if_neg hl, if_pos h]
theorem chk_step (l : List UInt8) (h : mayN l ≠ 0) : chk l = (chk (l.drop (mayN l))).map (· + mayN l) := by
  have hl : l ≠ [] := fun e => h (by rw [e, mayN_nil])
  unfold chk
  cases hn : l.length with
  | zero => exact absurd (List.length_eq_zero_iff.1 hn) hl
  | succ n =>
    rw [chkO, if_neg hl, if_neg h]
    rw [chkO_fuel n (l.drop (mayN l)).length _ (by rw [List.length_drop]; omega) (Nat.le_refl _)]
/-- From a place on. -/
def chkFrom (L : List UInt8) (i : Nat) : Option Nat := (chk (L.drop i)).map (· + i)
theorem chkFrom_zero (L : List UInt8) : chkFrom L 0 = chk L := by unfold chkFrom; simp
theorem chkFrom_bad (L : List UInt8) (i : Nat) (hi : i < L.length) (h : mayN (L.drop i) = 0) : chkFrom L i = some i := by
  unfold chkFrom
  rw [chk_bad _ (by intro e; have := congrArg List.length e; rw [List.length_drop] at this; simp at this; omega) h]
  simp
theorem chkFrom_step (L : List UInt8) (i : Nat) (h : mayN (L.drop i) ≠ 0) : chkFrom L i = chkFrom L (i + mayN (L.drop i)) := by
  unfold chkFrom
  rw [chk_step _ h, List.drop_drop, Option.map_map]
  congr 1
  funext x; simp only [Function.comp]; omega
theorem chkFrom_end (L : List UInt8) (i : Nat) (hi : L.length ≤ i) : chkFrom L i = none := by
  unfold chkFrom
  rw [List.drop_eq_nil_of_le hi, chk_nil]; rfl
/-- As Go tells it. -/
def optZ : Option Nat → Int | none => -1 | some k => (k : Int)

theorem chk_lt (n : Nat) : ∀ (l : List UInt8) (k : Nat), l.length ≤ n → chk l = some k → k < l.length := by
  induction n with
  | zero =>
    intro l k hn h
    have : l = [] := List.length_eq_zero_iff.1 (by omega)
    rw [this, chk_nil] at h; cases h
  | succ n ih =>
    intro l k hn h
    by_cases hl : l = []
    · rw [hl, chk_nil] at h; cases h
    · have hl0 : 0 < l.length := List.length_pos_iff.2 hl
      by_cases hm : mayN l = 0
      · rw [chk_bad l hl hm] at h
        injection h with h
        omega
      · rw [chk_step l hm] at h
        cases hc : chk (l.drop (mayN l)) with
        | none => rw [hc] at h; cases h
        | some j =>
          rw [hc] at h
          have hj : j + mayN l = k := by simpa using h
          have := ih (l.drop (mayN l)) j (by rw [List.length_drop]; omega) hc
          rw [List.length_drop] at this
          omega
theorem chk_append (n : Nat) : ∀ (l r : List UInt8), l.length ≤ n → chk l = none → chk (l ++ r) = (chk r).map (· + l.length) := by
  induction n with
  | zero =>
    intro l r hn h
    have : l = [] := List.length_eq_zero_iff.1 (by omega)
    subst this
    simp
  | succ n ih =>
    intro l r hn h
    by_cases hl : l = []
    · subst hl; simp
    · by_cases hm : mayN l = 0
      · rw [chk_bad l hl hm] at h; cases h
      · rw [chk_step l hm] at h
        have h' : chk (l.drop (mayN l)) = none := by
          cases hc : chk (l.drop (mayN l)) with
          | none => rfl
          | some j => rw [hc] at h; cases h
        have hle := mayN_le l
        have e := mayN_append l r hm
        rw [chk_step (l ++ r) (by rw [e]; exact hm), e, List.drop_append_of_le_length hle.1, ih _ _ (by rw [List.length_drop]; omega) h', Option.map_map]
        congr 1
        funext x; simp only [Function.comp, List.length_drop]; omega
theorem chk_first (cs : List Nat) (hs : ∀ c ∈ cs, IsScalar c) (r : List UInt8) (k : Nat) (h : chk (encAll 1 cs) = some k) : chk (encAll 1 cs ++ r) = some k := by
  induction cs generalizing k with
  | nil => rw [encAll_nil, chk_nil] at h; cases h
  | cons c cs ih =>
    rw [encAll_cons, enc1_1] at h ⊢
    have hc := hs c (List.mem_cons_self ..)
    have e1 : nx8 (utf8 c ++ encAll 1 cs) = (c, (utf8 c).length) := nx8_enc c _ hc
    have e2 : nx8 (utf8 c ++ (encAll 1 cs ++ r)) = (c, (utf8 c).length) := nx8_enc c _ hc
    have hu := utf8_length c
    rw [List.append_assoc]
    by_cases hm : mayB c = true
    · have m1 : mayN (utf8 c ++ encAll 1 cs) = (utf8 c).length := by unfold mayN; rw [e1]; exact if_pos hm
      have m2 : mayN (utf8 c ++ (encAll 1 cs ++ r)) = (utf8 c).length := by unfold mayN; rw [e2]; exact if_pos hm
      rw [chk_step _ (by rw [m1]; omega), m1, List.drop_left] at h
      rw [chk_step _ (by rw [m2]; omega), m2, List.drop_left]
      cases hc2 : chk (encAll 1 cs) with
      | none => rw [hc2] at h; cases h
      | some j =>
        rw [hc2] at h
        rw [ih (fun c hc => hs c (List.mem_cons_of_mem _ hc)) j hc2]
        exact h
    · have m1 : mayN (utf8 c ++ encAll 1 cs) = 0 := by unfold mayN; rw [e1]; exact if_neg hm
      have m2 : mayN (utf8 c ++ (encAll 1 cs ++ r)) = 0 := by unfold mayN; rw [e2]; exact if_neg hm
      rw [chk_bad _ (utf8_ne_nil _ _) m1] at h
      rw [chk_bad _ (utf8_ne_nil _ _) m2]
      exact h
/-- Two texts together: the first one's first wrong sign, if it is well-formed. -/
theorem chk_well (s t : List UInt8) (k : Nat) (hv : validD s = true) (h : chk s = some k) : chk (s ++ t) = some k := by
  obtain ⟨cs, hw⟩ := valid_of s hv
  rw [hw.2] at h ⊢
  exact chk_first cs hw.1 t k h

theorem utf8_133 : utf8 133 = [194, 133] := by decide
theorem utf8_8232 : utf8 8232 = [226, 128, 168] := by decide
theorem utf8_8233 : utf8 8233 = [226, 128, 169] := by decide
theorem begins2 (l : List UInt8) (a b : Nat) (ha : by8 l 0 = a) (hb : by8 l 1 = b) (h0 : a ≠ 0) (h1 : b ≠ 0) : l = [u8 a, u8 b] ++ l.drop 2 := by
  match l, ha, hb with
  | [], ha, hb => exact absurd ha.symm h0
  | [x], ha, hb => exact absurd hb.symm h1
  | x :: y :: r, ha, hb =>
    rw [by8_0] at ha; rw [by8_1] at hb
    subst ha; subst hb
    simp [u8_self]
theorem begins3 (l : List UInt8) (a b c : Nat) (ha : by8 l 0 = a) (hb : by8 l 1 = b) (hc : by8 l 2 = c) (h0 : a ≠ 0) (h1 : b ≠ 0) (h2 : c ≠ 0) : l = [u8 a, u8 b, u8 c] ++ l.drop 3 := by
  match l, ha, hb, hc with
  | [], ha, hb, hc => exact absurd ha.symm h0
  | [x], ha, hb, hc => exact absurd hb.symm h1
  | [x, y], ha, hb, hc => exact absurd hc.symm h2
  | x :: y :: z :: r, ha, hb, hc =>
    rw [by8_0] at ha; rw [by8_1] at hb; rw [by8_2] at hc
    subst ha; subst hb; subst hc
    simp [u8_self]
theorem sc133 : IsScalar 133 := by unfold IsScalar; omega
theorem sc8232 : IsScalar 8232 := by unfold IsScalar; omega
theorem sc8233 : IsScalar 8233 := by unfold IsScalar; omega
/-- The breaks of the old version alone are three scalars. -/
theorem brkN_nx (l : List UInt8) (h13 : by8 l 0 ≠ 13) (h10 : by8 l 0 ≠ 10) : brkN true l = if (nx8 l).1 = 133 ∨ (nx8 l).1 = 8232 ∨ (nx8 l).1 = 8233 then (nx8 l).2 else 0 := by
  unfold brkN
  rw [if_neg (by omega), if_neg (by omega)]
  simp only [true_and]
  by_cases h1 : by8 l 0 = 194 ∧ by8 l 1 = 133
  · have e := begins2 l 194 133 h1.1 h1.2 (by omega) (by omega)
    have hn : nx8 l = (133, 2) := by
      have := nx8_enc 133 (l.drop 2) sc133
      rw [utf8_133] at this
      rw [e]; exact this
    rw [if_pos h1, hn]; simp
  · rw [if_neg h1]
    by_cases h2 : by8 l 0 = 226 ∧ by8 l 1 = 128 ∧ (by8 l 2 = 168 ∨ by8 l 2 = 169)
    · rw [if_pos h2]
      rcases h2 with ⟨a, b, c | c⟩
      · have e := begins3 l 226 128 168 a b c (by omega) (by omega) (by omega)
        have hn : nx8 l = (8232, 3) := by
          have := nx8_enc 8232 (l.drop 3) sc8232
          rw [utf8_8232] at this
          rw [e]; exact this
        rw [hn]; simp
      · have e := begins3 l 226 128 169 a b c (by omega) (by omega) (by omega)
        have hn : nx8 l = (8233, 3) := by
          have := nx8_enc 8233 (l.drop 3) sc8233
          rw [utf8_8233] at this
          rw [e]; exact this
        rw [hn]; simp
    · rw [if_neg h2]
      obtain ⟨⟨c, n⟩, hcn⟩ : ∃ d, nx8 l = d := ⟨_, rfl⟩
      rw [hcn]
      by_cases hn : n = 0
      · subst hn; simp
      · obtain ⟨g1, g2, g3⟩ := nx8_take hcn hn
        rw [if_neg]
        simp only
        rintro (rfl | rfl | rfl)
        · rw [utf8_133] at g2
          exact h1 ⟨by rw [g2]; rfl, by rw [g2]; rfl⟩
        · rw [utf8_8232] at g2
          exact h2 ⟨by rw [g2]; rfl, by rw [g2]; rfl, Or.inl (by rw [g2]; rfl)⟩
        · rw [utf8_8233] at g2
          exact h2 ⟨by rw [g2]; rfl, by rw [g2]; rfl, Or.inr (by rw [g2]; rfl)⟩

end Go.Proofs.Ythbmppkngaifmaa.M
