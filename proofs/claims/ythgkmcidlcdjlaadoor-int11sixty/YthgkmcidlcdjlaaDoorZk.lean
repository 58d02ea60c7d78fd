/- Plain mathematics: parts to the base 60, put on one by one. -/
import Derived.Test.YthgkmcidlcdjlaaDoorZd
set_option linter.unusedVariables false
namespace Go.Proofs.YthgkmcidlcdjlaaDoor
open Go.RowKit
namespace M

theorem fS_on (R Q : List UInt8) : ∀ k, fS k (R ++ 58 :: Q) = if fS k R = 6 then fS 1 Q else 0 := by
  induction R with
  | nil =>
    intro k
    by_cases h1 : k = 1
    · simp [fS, h1, dv58]
    · simp [fS, h1, dv58]
  | cons c r ih =>
    intro k
    rw [List.cons_append, fS, fS]
    by_cases h1 : k = 1
    · rw [if_pos h1, if_pos h1]
      by_cases h6 : dv c < 6
      · rw [if_pos h6, if_pos h6, ih]
      · rw [if_neg h6, if_neg h6]
        by_cases h10 : dv c < 10
        · rw [if_pos h10, if_pos h10, ih]
        · rw [if_neg h10, if_neg h10, if_neg (by omega)]
    · rw [if_neg h1, if_neg h1]
      by_cases h2 : k = 2 ∧ dv c < 10
      · rw [if_pos h2, if_pos h2, ih]
      · rw [if_neg h2, if_neg h2]
        by_cases h3 : c = 58
        · rw [if_pos h3, if_pos h3, ih]
        · rw [if_neg h3, if_neg h3, if_neg (by omega)]
theorem fS_06 (R : List UInt8) : ∀ k, fS k R = 0 ∨ fS k R = 6 := by
  induction R with
  | nil => intro k; unfold fS; split; exact Or.inl rfl; exact Or.inr rfl
  | cons c r ih =>
    intro k
    unfold fS
    split
    · split
      · exact ih 2
      · split
        · exact ih 3
        · exact Or.inl rfl
    · split
      · exact ih 3
      · split
        · exact ih 1
        · exact Or.inl rfl
theorem fA_on (R Q : List UInt8) : fA (R ++ 58 :: Q) = if fA R = 0 then 0 else fS 1 Q := by
  induction R with
  | nil =>
    simp [fA, dv58]
  | cons c r ih =>
    rw [List.cons_append, fA, fA]
    by_cases h1 : c = 95 ∨ dv c < 10
    · rw [if_pos h1, if_pos h1, ih]
    · rw [if_neg h1, if_neg h1]
      by_cases h3 : c = 58
      · rw [if_pos h3, if_pos h3, fS_on]
        rcases fS_06 r 1 with h | h <;> rw [h] <;> simp
      · rw [if_neg h3, if_neg h3, if_pos rfl]
theorem sx_on (R Q : List UInt8) : ∀ n p, sx n p (R ++ 58 :: Q) = sx (sx n p R) 0 Q := by
  induction R with
  | nil => intro n p; simp [sx]
  | cons c r ih =>
    intro n p
    rw [List.cons_append, sx, sx]
    by_cases h : c = 58
    · rw [if_pos h, if_pos h, ih]
    · rw [if_neg h, if_neg h, ih]
/-- U is a first part and i more, and says n. -/
def SI (n i : Nat) (U : List UInt8) : Prop :=
  ∃ d r, U = d :: r ∧ d ≠ 48 ∧ dv d < 10 ∧ fA r = (if i = 0 then 5 else 6) ∧ gone U = U ∧ sx 0 0 U = n ∧ U.length ≤ 5 + 3 * i ∧ n + 1 ≤ 65536 * 60 ^ i ∧ 1 ≤ n
theorem SI.start (f : Nat) (h1 : 1 ≤ f) (h2 : f < 65536) : SI f 0 (dg f) := by
  obtain ⟨c, r, hc, h48, hlo, hhi⟩ := dg_head f h1
  have hall := dg_all f
  have hn58 : ∀ x ∈ dg f, x ≠ 58 := fun x hx => ne58 ((allD_iff _ _).1 hall x hx) (by omega)
  have hg := gone_dig hall
  have hd : dv c < 10 := by rw [dv_dec hlo hhi]; omega
  have hr : allD 10 r = true := by rw [hc, allD_cons, decide_eq_true hd, Bool.true_and] at hall; exact hall
  refine ⟨c, r, hc, ?_, hd, ?_, hg, ?_, ?_, by omega, h1⟩
  · intro e; rw [e] at h48; exact h48 rfl
  · rw [fA_no r (fun x hx => hn58 x (by rw [hc]; simp [hx])), gone_dig hr, if_pos hr, if_pos rfl]
  · rw [sx_no 0 _ hn58, dg_val]; omega
  · exact dg_len_le f 5 (by omega) (by omega)
theorem SI.step {n i : Nat} {U : List UInt8} (h : SI n i U) {P : List UInt8} (hp : pr P = true) : SI (60 * n + val 10 P) (i + 1) (U ++ 58 :: P) := by
  obtain ⟨d, r, hU, h48, hd, hA, hg, hs, hl, hb, h1⟩ := h
  obtain ⟨hok, hl2, hl0, hv, h58⟩ := pr_facts hp
  have hgP := gone_dig ((okD_iff _ _).1 hok).2
  refine ⟨d, r ++ 58 :: P, by rw [hU]; rfl, h48, hd, ?_, ?_, ?_, ?_, ?_, by omega⟩
  · rw [fA_on, hA, if_neg (by split <;> omega), fS_no P h58, if_pos hp, if_neg (by omega)]
  · rw [gone_append, hg, gone_ne _ (by decide), hgP]
  · rw [sx_on, hs, sx_no n P h58]; omega
  · rw [List.length_append, List.length_cons]; omega
  · rw [Nat.pow_succ]; omega
theorem SI.fB {n i : Nat} {U : List UInt8} (h : SI n i U) (hi : 0 < i) : fB U = 6 ∧ num U = n := by
  obtain ⟨d, r, hU, h48, hd, hA, hg, hs, _⟩ := h
  have hf : M.fB U = 6 := by rw [hU, M.fB, if_neg h48, if_pos hd, hA, if_neg (by omega)]
  refine ⟨hf, ?_⟩
  unfold num
  rw [hf, if_neg (by omega), if_neg (by omega), if_neg (by omega), if_pos rfl, hg, hs]
theorem SI.head {n i : Nat} {U : List UInt8} (h : SI n i U) : ∃ d r, U = d :: r ∧ dv d < 10 := by
  obtain ⟨d, r, hU, h48, hd, _⟩ := h
  exact ⟨d, r, hU, hd⟩
theorem SI.pos {n i : Nat} {U : List UInt8} (h : SI n i U) : 1 ≤ n := by
  obtain ⟨d, r, hU, h48, hd, hA, hg, hs, hl, hb, h1⟩ := h
  exact h1
/-- U has no form, and none with more parts. -/
def TB (U : List UInt8) : Prop := ∃ d r, U = d :: r ∧ d ≠ 48 ∧ dv d < 10 ∧ fA r = 0
theorem TB.start {n i : Nat} {U : List UInt8} (h : SI n i U) {Q : List UInt8} (hQ : fS 1 Q = 0) : TB (U ++ 58 :: Q) := by
  obtain ⟨d, r, hU, h48, hd, hA, _⟩ := h
  refine ⟨d, r ++ 58 :: Q, by rw [hU]; rfl, h48, hd, ?_⟩
  rw [fA_on, hQ]; split <;> rfl
theorem TB.on {U : List UInt8} (h : TB U) (Q : List UInt8) : TB (U ++ 58 :: Q) := by
  obtain ⟨d, r, hU, h48, hd, hA⟩ := h
  refine ⟨d, r ++ 58 :: Q, by rw [hU]; rfl, h48, hd, ?_⟩
  rw [fA_on, hA, if_pos rfl]
theorem TB.form {U : List UInt8} (h : TB U) : form U = 0 := by
  obtain ⟨d, r, hU, h48, hd, hA⟩ := h
  obtain ⟨d1, d2⟩ := dv_sign hd
  rw [hU, form_else _ d1 d2, M.fB, if_neg h48, if_pos hd, hA]
theorem dg_two {p : Nat} (h : ¬ p < 10) (h2 : p < 100) : dg p = [UInt8.ofNat (48 + p / 10), UInt8.ofNat (48 + p % 10)] := by
  rw [dg_big h, dg_small (by omega)]; rfl
theorem pr_dg {p : Nat} (h : p < 60) : pr (dg p) = true := by
  by_cases h10 : p < 10
  · rw [dg_small h10, pr1, dv_dig p h10]; simpa using h10
  · rw [dg_two h10 (by omega), pr2, dv_dig _ (by omega), dv_dig _ (by omega)]; simp; omega
theorem pr_nought {p : Nat} (h : p < 10) : pr (48 :: dg p) = true ∧ val 10 (48 :: dg p) = p := by
  refine ⟨?_, ?_⟩
  · rw [dg_small h, pr2, dv_dig p h]; simp [h, show dv 48 = 0 by decide]
  · rw [val_cons, dg_val, show dv 48 = 0 by decide]; omega
theorem bad_dg {p : Nat} (h : 60 ≤ p) (h2 : p < 100) : fS 1 (dg p) = 0 := by
  have hall := dg_all p
  rw [fS_no _ (fun x hx => ne58 ((allD_iff _ _).1 hall x hx) (by omega)), dg_two (by omega) h2, pr2, dv_dig _ (by omega), if_neg]
  simp; omega
theorem SI.bound {n i : Nat} {U : List UInt8} (h : SI n i U) (hi : i ≤ 6) : n ≤ 3057647616000000 := by
  obtain ⟨d, r, hU, h48, hd, hA, hg, hs, hl, hb, h1⟩ := h
  have : (60 : Nat) ^ i ≤ 60 ^ 6 := Nat.pow_le_pow_right (by omega) hi
  omega
/-- The second text, with a bad part where b stands. -/
def TI (b i : Nat) (T : List UInt8) : Prop := T.length ≤ 5 + 3 * i ∧ (if i ≤ b then ∃ m, SI m i T else TB T)
theorem dg_two_len {p : Nat} (h : p < 100) : (dg p).length ≤ 2 := dg_len_le p 2 (by omega) (by omega)
theorem TI.start {f b : Nat} {U : List UInt8} (h : SI f 0 U) : TI b 0 U := ⟨h.choose_spec.choose_spec.2.2.2.2.2.2.1, by rw [if_pos (by omega)]; exact ⟨f, h⟩⟩
theorem TI.good {b i p : Nat} {T : List UInt8} (h : TI b i T) (hb : i ≠ b) (hp : p < 60) : TI b (i + 1) (T ++ 58 :: dg p) := by
  obtain ⟨h1, h2⟩ := h
  have := dg_two_len (p := p) (by omega)
  refine ⟨by rw [List.length_append, List.length_cons]; omega, ?_⟩
  by_cases hi : i < b
  · rw [if_pos (by omega)] at h2 ⊢
    obtain ⟨m, hm⟩ := h2
    exact ⟨_, hm.step (pr_dg hp)⟩
  · rw [if_neg (by omega)] at h2 ⊢
    exact h2.on _
theorem TI.bad {b i p : Nat} {T : List UInt8} (h : TI b i T) (hb : i = b) (hp : 60 ≤ p) (hp2 : p < 100) : TI b (i + 1) (T ++ 58 :: dg p) := by
  obtain ⟨h1, h2⟩ := h
  have := dg_two_len (p := p) (by omega)
  refine ⟨by rw [List.length_append, List.length_cons]; omega, ?_⟩
  rw [if_pos (by omega)] at h2
  rw [if_neg (by omega)]
  obtain ⟨m, hm⟩ := h2
  exact TB.start hm (bad_dg hp hp2)
theorem TI.form {b i : Nat} {T : List UInt8} (h : TI b i T) (hb : b < i) : form T = 0 := by
  obtain ⟨h1, h2⟩ := h
  rw [if_neg (by omega)] at h2
  exact h2.form
end M
end Go.Proofs.YthgkmcidlcdjlaaDoor
