/- Plain mathematics: digits of a number to a base, a gap among them. -/
import Derived.Test.YthgkmcidlcdjlaaDoorZd
import Derived.Test.YthgkmcidlcdjlaaDoorLe
set_option linter.unusedVariables false
namespace Go.Proofs.YthgkmcidlcdjlaaDoor
open Go.RowKit
namespace M

def dc (v : Nat) : UInt8 := d16 false v
theorem dc_dv (v : Nat) (h : v < 16) : dv (dc v) = v := d16_dv false v h
/-- S holds i digits of n to the base b, and k is what is left of n. -/
def BR (b n k i : Nat) (S : List UInt8) : Prop :=
  k * b ^ i + val b (gone S) = n ∧ (gone S).length = i ∧ allD b (gone S) = true ∧ S.length ≤ 2 * i ∧ (∀ c ∈ S, c ≠ 58) ∧ (i = 0 → S = [] ∧ k = n) ∧
  (0 < i → ∃ d r, S = d :: r ∧ dv d < b ∧ (k = 0 → 0 < n → dv d ≠ 0)) ∧ (0 < i → n = 0 → S = [48] ∧ i = 1)
theorem BR.start (b n : Nat) : BR b n n 0 [] := by
  refine ⟨by simp [val, gone], rfl, rfl, by simp, fun c hc => (by cases hc), fun _ => ⟨rfl, rfl⟩, fun h => by omega, fun h => by omega⟩
theorem BR.step {b n k i : Nat} {S S1 : List UInt8} (h : BR b n k i S) (hb : 2 ≤ b) (hb2 : b ≤ 16) (hk : 0 < k ∨ i = 0) (h1 : S1 = S ∨ (0 < i ∧ S1 = 95 :: S)) : BR b n (k / b) (i + 1) (dc (k % b) :: S1) := by
  obtain ⟨a1, a2, a3, a4, a5, a6, a7, a8⟩ := h
  have hq : k % b < b := Nat.mod_lt _ (by omega)
  have hdv := dc_dv (k % b) (by omega)
  have h95 : dc (k % b) ≠ 95 := M.ne95 (by rw [hdv]; exact hq) (by omega)
  have h58 : dc (k % b) ≠ 58 := M.ne58 (by rw [hdv]; exact hq) (by omega)
  have hg1 : gone S1 = gone S := by
    rcases h1 with h1 | ⟨_, h1⟩ <;> rw [h1]
    exact gone_eq S
  have hl1 : S1.length ≤ S.length + 1 := by
    rcases h1 with h1 | ⟨_, h1⟩ <;> rw [h1]
    · omega
    · simp
  have hm1 : ∀ c ∈ S1, c ≠ 58 := by
    rcases h1 with h1 | ⟨_, h1⟩ <;> rw [h1]
    · exact a5
    · intro c hc
      rcases List.mem_cons.1 hc with rfl | hc
      · decide
      · exact a5 c hc
  have hkpos : 0 < n → 0 < k := by
    intro hn
    rcases hk with hk | hk
    · exact hk
    · rw [(a6 hk).2]; exact hn
  refine ⟨?_, ?_, ?_, ?_, ?_, fun h => by omega, fun _ => ⟨_, S1, rfl, by rw [hdv]; exact hq, ?_⟩, fun _ hn => ?_⟩
  · rw [gone_ne _ h95, val_cons, hdv, hg1, a2, Nat.pow_succ, ← Nat.add_assoc]
    rw [show k / b * (b ^ i * b) = (b * (k / b)) * b ^ i by rw [Nat.mul_comm (b ^ i) b, ← Nat.mul_assoc, Nat.mul_comm (k / b) b], ← Nat.add_mul, Nat.div_add_mod]
    exact a1
  · rw [gone_ne _ h95, hg1, List.length_cons, a2]
  · rw [gone_ne _ h95, hg1, allD_cons, a3, hdv, decide_eq_true hq]; rfl
  · rw [List.length_cons]; omega
  · intro c hc
    rcases List.mem_cons.1 hc with rfl | hc
    · exact h58
    · exact hm1 c hc
  · intro h0 hn
    rw [hdv]
    have := hkpos hn
    have h3 : k < b := by
      rcases Nat.lt_or_ge k b with h | h
      · exact h
      · have := Nat.div_pos h (by omega); omega
    rw [Nat.mod_eq_of_lt h3]; omega
  · have hi : i = 0 := by
      rcases Nat.eq_zero_or_pos i with h | h
      · exact h
      · have h8 := (a8 h hn)
        have hk0 : 0 < k := by rcases hk with hk | hk <;> omega
        have : 0 < k * b ^ i := Nat.mul_pos hk0 (Nat.pow_pos (by omega))
        omega
    subst hi
    obtain ⟨e1, e2⟩ := a6 rfl
    have hS1 : S1 = [] := by
      rcases h1 with h1 | ⟨h1, _⟩
      · rw [h1, e1]
      · omega
    rw [hS1, e2, hn, Nat.zero_mod]
    exact ⟨rfl, rfl⟩
theorem BR.room {b n k i : Nat} {S : List UInt8} (h : BR b n k i S) (hb : 2 ≤ b) (hn : n < 4294967296) (hk : 0 < k) : i < 32 := by
  have h1 := h.1
  have h2 : b ^ i ≤ k * b ^ i := Nat.le_mul_of_pos_left _ hk
  have h3 : 2 ^ i ≤ b ^ i := Nat.pow_le_pow_left hb i
  have h4 : 2 ^ i < 2 ^ 32 := by
    have : (2 : Nat) ^ 32 = 4294967296 := by decide
    omega
  exact (Nat.pow_lt_pow_iff_right (by omega)).1 h4
theorem BR.ok {b n i : Nat} {S : List UInt8} (h : BR b n 0 i S) (hi : 0 < i) : okD b (gone S) = true ∧ val b (gone S) = n := by
  obtain ⟨a1, a2, a3, a4, a5, a6, a7, a8⟩ := h
  refine ⟨(okD_iff _ _).2 ⟨by intro e; rw [e] at a2; simp at a2; omega, a3⟩, by omega⟩
theorem base_2 {n i : Nat} {S : List UInt8} (h : BR 2 n 0 i S) (hi : 0 < i) : fB (48 :: 98 :: S) = 1 ∧ num (48 :: 98 :: S) = n := by
  obtain ⟨h1, h2⟩ := h.ok hi
  have hf : fB (48 :: 98 :: S) = 1 := by rw [fB, if_pos rfl, fN, if_pos rfl, fG_eq, if_pos h1]
  refine ⟨hf, ?_⟩
  unfold num
  rw [hf, if_pos rfl, gone_ne _ (by decide), gone_ne _ (by decide)]
  exact h2
theorem base_16 {n i : Nat} {S : List UInt8} (h : BR 16 n 0 i S) (hi : 0 < i) : fB (48 :: 120 :: S) = 2 ∧ num (48 :: 120 :: S) = n := by
  obtain ⟨h1, h2⟩ := h.ok hi
  have hf : fB (48 :: 120 :: S) = 2 := by rw [fB, if_pos rfl, fN, if_neg (by decide), if_pos rfl, fG_eq, if_pos h1]
  refine ⟨hf, ?_⟩
  unfold num
  rw [hf, if_neg (by omega), if_pos rfl, gone_ne _ (by decide), gone_ne _ (by decide)]
  exact h2
theorem base_8 {n i : Nat} {S : List UInt8} (h : BR 8 n 0 i S) (hi : 0 < i) : fB (48 :: S) = 3 ∧ num (48 :: S) = n := by
  obtain ⟨h1, h2⟩ := h.ok hi
  obtain ⟨d, r, hS, hd, _⟩ := h.2.2.2.2.2.2.1 hi
  have hf : fB (48 :: S) = 3 := by
    rw [fB, if_pos rfl, fN_oct S (by rw [hS]; simp) (by rw [hS]; simp; intro e; rw [e] at hd; exact absurd hd (by decide)) (by rw [hS]; simp; intro e; rw [e] at hd; exact absurd hd (by decide)), if_pos h1]
  refine ⟨hf, ?_⟩
  unfold num
  rw [hf, if_neg (by omega), if_neg (by omega), if_pos rfl, gone_ne _ (by decide), val_cons, show dv 48 = 0 by decide, Nat.zero_mul, Nat.zero_add]
  exact h2
theorem base_10 {n i : Nat} {S : List UInt8} (h : BR 10 n 0 i S) (hi : 0 < i) : fB S = (if n = 0 then 4 else 5) ∧ num S = n := by
  obtain ⟨h1, h2⟩ := h.ok hi
  by_cases hn : n = 0
  · have h8 := (h.2.2.2.2.2.2.2 hi hn).1
    rw [h8, if_pos hn, hn]
    exact ⟨rfl, by decide⟩
  · obtain ⟨d, r, hS, hd, h0⟩ := h.2.2.2.2.2.2.1 hi
    have hd0 := h0 rfl (by omega)
    have h48 : d ≠ 48 := by intro e; rw [e] at hd0; exact hd0 (by decide)
    have h95 : d ≠ 95 := M.ne95 hd (by omega)
    have h58 : ∀ x ∈ r, x ≠ 58 := fun x hx => h.2.2.2.2.1 x (by rw [hS]; simp [hx])
    have hall := ((okD_iff _ _).1 h1).2
    rw [hS, gone_ne _ h95, allD_cons, decide_eq_true hd, Bool.true_and] at hall
    have hf : fB S = 5 := by rw [hS, fB, if_neg h48, if_pos hd, fA_no r h58, if_pos hall]
    refine ⟨by rw [if_neg hn]; exact hf, ?_⟩
    unfold num
    rw [hf, if_neg (by omega), if_neg (by omega), if_neg (by omega), if_neg (by omega)]
    exact h2
end M
/-- What a body says, with a sign ahead and without. -/
theorem sign_says (U : List UInt8) (F n : Nat) (hF : F ≠ 0) (h : M.fB U = F ∧ M.num U = n) (hh : ∃ d r, U = d :: r ∧ M.dv d < 10) :
    (M.form (43 :: U) = F ∧ zOf (43 :: U) = M.sgn false n) ∧ (M.form (45 :: U) = F ∧ zOf (45 :: U) = M.sgn true n) ∧ (M.form U = F ∧ zOf U = M.sgn false n) := by
  refine ⟨⟨by rw [M.form_43]; exact h.1, ?_⟩, ⟨by rw [M.form_45]; exact h.1, ?_⟩, ?_⟩
  · unfold zOf; rw [(head_43 rfl).1, (head_43 rfl).2, h.2]
  · unfold zOf; rw [(head_45 rfl).1, (head_45 rfl).2, h.2]
  · obtain ⟨d, r, hU, hd⟩ := hh
    obtain ⟨d1, d2⟩ := dv_sign hd
    have hb : M.body U = U ∧ M.isNeg U = false := by rw [hU]; exact ⟨(head_else d1 d2).2, (head_else d1 d2).1⟩
    refine ⟨by unfold M.form; rw [hb.1]; exact h.1, ?_⟩
    unfold zOf; rw [hb.1, hb.2, h.2]
theorem sig16 (q : Nat) (h : q < 16) : (⟨#[48, 49, 50, 51, 52, 53, 54, 55, 56, 57, 97, 98, 99, 100, 101, 102]⟩ : ByteArray).extract q (q + 1) = bA [M.dc q] := by
  have key : ∀ q : Fin 16, ((⟨#[48, 49, 50, 51, 52, 53, 54, 55, 56, 57, 97, 98, 99, 100, 101, 102]⟩ : ByteArray).extract q.val (q.val + 1)).data.toList = [M.dc q.val] := by decide
  exact eq_bA (key ⟨q, h⟩)
end Go.Proofs.YthgkmcidlcdjlaaDoor
