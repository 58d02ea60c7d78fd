/- Plain mathematics: each form's signs. -/
import Derived.Test.YthgkmcidlcdjlaaDoorXn
set_option linter.unusedVariables false
namespace Go.Proofs.YthgkmcidlcdjlaaDoor
namespace M

theorem step_six (R : List UInt8) (h : fS 1 R = 6) : ∃ P r b, Lib.cut R [58] = (P, r, b) ∧ pr P = true ∧ (r = [] ∨ fS 1 r = 6) ∧ r.length < R.length ∧ ∀ n, rd n R = rd (n * 60 + val 10 P) r := by
  have hne : R ≠ [] := by intro e; rw [e] at h; cases h
  rcases split_at 58 R with hn | ⟨P, r, rfl, hP⟩
  · rw [fS_no R hn] at h
    by_cases hp : pr R = true
    · refine ⟨R, [], false, cut_no 58 R hn, hp, Or.inl rfl, List.length_pos_iff.2 hne, fun n => ?_⟩
      unfold rd
      rw [if_neg hne, if_pos rfl, sx_no n R hn]
    · rw [if_neg hp] at h; cases h
  · rw [fS_yes P r hP] at h
    by_cases hp : pr P = true
    · rw [if_pos hp] at h
      refine ⟨P, r, true, cut_yes 58 P r hP, hp, Or.inr h, by simp; omega, fun n => ?_⟩
      have hr : r ≠ [] := by intro e; rw [e] at h; cases h
      unfold rd
      rw [if_neg hne, if_neg hr, sx_yes n P r hP]
    · rw [if_neg hp] at h; cases h
theorem fS_no95 (R : List UInt8) : ∀ k, fS k R ≠ 0 → ∀ c ∈ R, c ≠ 95 := by
  induction R with
  | nil => intro k h c hc; cases hc
  | cons b R ih =>
    intro k h
    have key : b ≠ 95 ∧ ∃ k', fS k' R ≠ 0 := by
      constructor
      · intro e
        apply h
        rw [e, fS, dv95]
        simp
      · rw [fS] at h
        split at h
        · split at h
          · exact ⟨_, h⟩
          · split at h
            · exact ⟨_, h⟩
            · exact absurd rfl h
        · split at h
          · exact ⟨_, h⟩
          · split at h
            · exact ⟨_, h⟩
            · exact absurd rfl h
    obtain ⟨hb, k', hk⟩ := key
    intro c hc
    rcases List.mem_cons.1 hc with rfl | hc
    · exact hb
    · exact ih k' hk c hc
theorem fS_gone {R : List UInt8} {k : Nat} (h : fS k R ≠ 0) : gone R = R := gone_no R (fS_no95 R k h)
theorem dv_lt_allD {b b' : Nat} (h : b ≤ b') {l : List UInt8} (hl : allD b l = true) : allD b' l = true := by
  rw [allD_iff] at hl ⊢
  intro c hc; exact Nat.lt_of_lt_of_le (hl c hc) h
/-- What each form's body is. -/
def IsForm (U : List UInt8) : Prop :=
  (∃ r, fB U = 1 ∧ gone U = 48 :: 98 :: r ∧ okD 2 r = true) ∨
  (∃ r, fB U = 2 ∧ gone U = 48 :: 120 :: r ∧ okD 16 r = true) ∨
  (fB U = 3 ∧ okD 8 (gone U) = true) ∨
  (fB U = 4 ∧ U = [48]) ∨
  (fB U = 5 ∧ okD 10 (gone U) = true ∧ (gone U).head? ≠ some 48) ∨
  (∃ D R, fB U = 6 ∧ gone U = D ++ 58 :: R ∧ okD 10 D = true ∧ D.head? ≠ some 48 ∧ fS 1 R = 6)
theorem isForm (U : List UInt8) (h : fB U ≠ 0) : IsForm U := by
  match U, h with
  | [], h => exact absurd rfl h
  | c :: r, h =>
    by_cases h48 : c = 48
    · subst h48
      have hB : fB (48 :: r) = fN r := by rw [fB, if_pos rfl]
      rw [hB] at h
      match r, h, hB with
      | [], _, hB => exact Or.inr (Or.inr (Or.inr (Or.inl ⟨hB, rfl⟩)))
      | d :: q, h, hB =>
        rw [fN] at h hB
        by_cases h98 : d = 98
        · subst h98
          rw [if_pos rfl, fG_eq] at h hB
          by_cases hd : okD 2 (gone q) = true
          · rw [if_pos hd] at hB
            exact Or.inl ⟨gone q, hB, by rw [gone_ne _ (by decide), gone_ne _ (by decide)], hd⟩
          · rw [if_neg hd] at h; exact absurd rfl h
        · by_cases h120 : d = 120
          · subst h120
            rw [if_neg h98, if_pos rfl, fG_eq] at h hB
            by_cases hd : okD 16 (gone q) = true
            · rw [if_pos hd] at hB
              exact Or.inr (Or.inl ⟨gone q, hB, by rw [gone_ne _ (by decide), gone_ne _ (by decide)], hd⟩)
            · rw [if_neg hd] at h; exact absurd rfl h
          · rw [if_neg h98, if_neg h120, fG_eq] at h hB
            by_cases hd : okD 8 (gone (d :: q)) = true
            · rw [if_pos hd] at hB
              refine Or.inr (Or.inr (Or.inl ⟨hB, ?_⟩))
              rw [gone_ne _ (by decide), okD_cons, ((okD_iff _ _).1 hd).2]; rfl
            · rw [if_neg hd] at h; exact absurd rfl h
    · by_cases hd : dv c < 10
      · have h95 : c ≠ 95 := ne95 hd (by omega)
        have hB : fB (c :: r) = fA r := by rw [fB, if_neg h48, if_pos hd]
        rw [hB] at h
        rcases split_at 58 r with hn | ⟨D, R, rfl, hD⟩
        · rw [fA_no r hn] at h hB
          by_cases ha : allD 10 (gone r) = true
          · rw [if_pos ha] at hB
            refine Or.inr (Or.inr (Or.inr (Or.inr (Or.inl ⟨hB, ?_, ?_⟩))))
            · rw [gone_ne _ h95, okD_cons, ha, decide_eq_true hd]; rfl
            · rw [gone_ne _ h95]; simpa using h48
          · rw [if_neg ha] at h; exact absurd rfl h
        · rw [fA_yes D R hD] at h hB
          by_cases ha : allD 10 (gone D) = true
          · rw [if_pos ha] at h hB
            have h6 : fS 1 R = 6 := by
              have key : ∀ (R : List UInt8) k, fS k R = 0 ∨ fS k R = 6 := by
                intro R
                induction R with
                | nil => intro k; rw [fS]; split; exact Or.inl rfl; exact Or.inr rfl
                | cons b R ih =>
                  intro k
                  rw [fS]
                  split
                  · split
                    · exact ih _
                    · split
                      · exact ih _
                      · exact Or.inl rfl
                  · split
                    · exact ih _
                    · split
                      · exact ih _
                      · exact Or.inl rfl
              rcases key R 1 with h0 | h6
              · exact absurd h0 h
              · exact h6
            refine Or.inr (Or.inr (Or.inr (Or.inr (Or.inr ⟨c :: gone D, R, hB.trans h6, ?_, ?_, by simpa using h48, h6⟩))))
            · rw [gone_ne _ h95, gone_append, gone_ne _ (by decide), fS_gone h]; rfl
            · rw [okD_cons, ha, decide_eq_true hd]; rfl
          · rw [if_neg ha] at h; exact absurd rfl h
      · exact absurd (by rw [fB, if_neg h48, if_neg hd]) h
theorem pow_le {a b c d : Nat} (h1 : a ≤ b) (h2 : c ≤ d) (hb : 0 < b) : a ^ c ≤ b ^ d :=
  Nat.le_trans (Nat.pow_le_pow_left h1 c) (Nat.pow_le_pow_right hb h2)
theorem six_lt (D R : List UInt8) (hd : allD 10 D = true) : sx (val 10 D) 0 R < 10 ^ (D.length + 2 + 3 * R.length) := by
  have h1 := sx_le (val 10 D) 0 R
  have h2 := val_lt 10 D hd
  have e : (10 : Nat) ^ (D.length + 2 + 3 * R.length) = 10 ^ D.length * 100 * 1000 ^ R.length := by
    rw [Nat.pow_add, Nat.pow_add, Nat.pow_mul]
  rw [e]
  refine Nat.lt_of_le_of_lt h1 (Nat.mul_lt_mul_of_pos_right ?_ (Nat.pow_pos (by omega)))
  omega
end M
end Go.Proofs.YthgkmcidlcdjlaaDoor
