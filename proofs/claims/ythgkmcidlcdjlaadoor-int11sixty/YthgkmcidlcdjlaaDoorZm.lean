/- Plain mathematics: what is put on a text that has a form. -/
import Derived.Test.YthgkmcidlcdjlaaDoorZa
set_option linter.unusedVariables false
namespace Go.Proofs.YthgkmcidlcdjlaaDoor
open Go.RowKit
namespace M

theorem form_43 (l : List UInt8) : form (43 :: l) = fB l := by unfold form; rw [(head_43 rfl).2]
theorem form_45 (l : List UInt8) : form (45 :: l) = fB l := by unfold form; rw [(head_45 rfl).2]
theorem form_else {c : UInt8} (l : List UInt8) (h1 : c ≠ 43) (h2 : c ≠ 45) : form (c :: l) = fB (c :: l) := by unfold form; rw [(head_else h1 h2).2]
theorem body_cases (c : UInt8) (l : List UInt8) : body (c :: l) = l ∨ body (c :: l) = c :: l := by
  by_cases h1 : c = 43
  · left; exact (head_43 h1).2
  · by_cases h2 : c = 45
    · left; exact (head_45 h2).2
    · right; exact (head_else h1 h2).2
theorem body_append {l : List UInt8} (h : l ≠ []) (m : List UInt8) : body (l ++ m) = body l ++ m := by
  match l, h with
  | c :: r, _ =>
    rw [List.cons_append]
    by_cases h1 : c = 43
    · rw [(head_43 h1).2, (head_43 h1).2]
    · by_cases h2 : c = 45
      · rw [(head_45 h2).2, (head_45 h2).2]
      · rw [(head_else h1 h2).2, (head_else h1 h2).2]; rfl
theorem isNeg_append {l : List UInt8} (h : l ≠ []) (m : List UInt8) : isNeg (l ++ m) = isNeg l := by
  match l, h with
  | c :: r, _ => simp [isNeg]
theorem fB_bad (c : UInt8) (l : List UInt8) (h1 : ¬ dv c < 10) : fB (c :: l) = 0 := by
  have h48 : c ≠ 48 := by intro e; rw [e] at h1; exact h1 (by decide)
  rw [fB, if_neg h48, if_neg h1]
theorem fS_bad (R : List UInt8) (c : UInt8) (h : ¬ dv c < 10) : ∀ k, fS k (R ++ [c]) = 0 := by
  induction R with
  | nil =>
    intro k
    rw [List.nil_append, fS]
    by_cases hk : k = 1
    · rw [if_pos hk, if_neg (by omega), if_neg h]
    · rw [if_neg hk, if_neg (fun q => h q.2)]
      by_cases h58 : c = 58
      · rw [if_pos h58]; rfl
      · rw [if_neg h58]
  | cons b R ih =>
    intro k
    rw [List.cons_append, fS, ih 1, ih 2, ih 3]
    simp
theorem okD_bad (b : Nat) (l : List UInt8) {c : UInt8} (h : ¬ dv c < b) (h95 : c ≠ 95) : okD b (gone (l ++ [c])) = false := by
  rw [gone_snoc_ne l h95]
  unfold okD
  rw [allD_snoc, decide_eq_false h]; simp
theorem fA_bad (l : List UInt8) {c : UInt8} (h : ¬ dv c < 10) (h95 : c ≠ 95) : fA (l ++ [c]) = 0 := by
  induction l with
  | nil =>
    rw [List.nil_append, fA, if_neg (fun k => k.elim h95 h)]
    split
    · rfl
    · rfl
  | cons b l ih =>
    rw [List.cons_append, fA, ih, fS_bad l c h 1]
    simp
theorem fB_append_bad (U : List UInt8) {c : UInt8} (h : ¬ dv c < 16) (h95 : c ≠ 95) (hU : U ≠ []) : fB (U ++ [c]) = 0 := by
  match U, hU with
  | d :: r, _ =>
    rw [List.cons_append, fB, fA_bad r (by omega) h95]
    by_cases h48 : d = 48
    · rw [if_pos h48]
      match r with
      | [] =>
        rw [List.nil_append, fN, if_neg (by intro e; rw [e] at h; exact h (by decide))]
        by_cases h120 : c = 120
        · rw [if_pos h120]; rfl
        · rw [if_neg h120, fG_eq, gone_ne _ h95, okD_cons, decide_eq_false (by omega)]; rfl
      | e :: q =>
        rw [List.cons_append, fN, fG_eq, fG_eq, fG_eq, okD_bad 2 q (by omega) h95, okD_bad 16 q h h95]
        rw [show e :: (q ++ [c]) = (e :: q) ++ [c] from rfl, okD_bad 8 _ (by omega) h95]
        simp
    · rw [if_neg h48]; simp
theorem form_ne {l : List UInt8} (h : form l ≠ 0) : l ≠ [] ∧ body l ≠ [] := by
  constructor
  · intro e; rw [e] at h; exact h rfl
  · intro e; unfold form at h; rw [e] at h; exact h rfl
theorem form_append_bad {l : List UInt8} (hl : form l ≠ 0) {c : UInt8} (h : ¬ dv c < 16) (h95 : c ≠ 95) : form (l ++ [c]) = 0 := by
  obtain ⟨h1, h2⟩ := form_ne hl
  unfold form
  rw [body_append h1, fB_append_bad _ h h95 h2]
theorem fB_le6 (U : List UInt8) : fB U ≤ 6 := by
  by_cases h : fB U = 0
  · omega
  · rcases isForm U h with ⟨_, h, _⟩ | ⟨_, h, _⟩ | ⟨h, _⟩ | ⟨h, _⟩ | ⟨h, _⟩ | ⟨_, _, h, _⟩ <;> omega
theorem gone_dig {l : List UInt8} (h : allD 10 l = true) : gone l = l := gone_no l fun c hc => ne95 ((allD_iff _ _).1 h c hc) (by omega)
theorem fB_dg (n : Nat) (hn : 0 < n) : fB (dg n) = 5 ∧ num (dg n) = n := by
  have hall := dg_all n
  have hv := dg_val n
  have hg := gone_dig hall
  obtain ⟨c, r, he, h48, h1, h2⟩ := dg_head n hn
  have hc : c ≠ 48 := by intro e; rw [e] at h48; exact h48 rfl
  have hall2 := hall
  rw [he, allD_cons] at hall2
  have hd : dv c < 10 := by rw [dv_dec h1 h2]; omega
  rw [decide_eq_true hd, Bool.true_and] at hall2
  have hn58 : ∀ x ∈ r, x ≠ 58 := fun x hx => ne58 ((allD_iff _ _).1 hall2 x hx) (by omega)
  have hf : fB (dg n) = 5 := by rw [he, fB, if_neg hc, if_pos hd, fA_no r hn58, gone_dig hall2, if_pos hall2]
  refine ⟨hf, ?_⟩
  unfold num
  rw [hf, if_neg (by omega), if_neg (by omega), if_neg (by omega), if_neg (by omega), hg, hv]
theorem form_txt (z : Int) : form (txt z) ≠ 0 ∧ zOf (txt z) = z := by
  by_cases hz : z < 0
  · obtain ⟨n, rfl⟩ : ∃ n : Nat, z = -(n : Int) := ⟨z.natAbs, by omega⟩
    have hn : 0 < n := by omega
    rw [txt_neg n hn]
    obtain ⟨h1, h2⟩ := fB_dg n hn
    refine ⟨by rw [form_45, h1]; omega, ?_⟩
    unfold zOf
    rw [(head_45 rfl).1, (head_45 rfl).2, h2]
    rfl
  · obtain ⟨n, rfl⟩ : ∃ n : Nat, z = (n : Int) := ⟨z.toNat, by omega⟩
    rw [txt_nat]
    by_cases h0 : n = 0
    · subst h0
      rw [dg_zero]
      exact ⟨by decide, by decide⟩
    · obtain ⟨h1, h2⟩ := fB_dg n (by omega)
      obtain ⟨c, r, he, h48, g1, g2⟩ := dg_head n (by omega)
      have hc1 : c ≠ 43 := by intro e; rw [e] at g1; exact absurd g1 (by decide)
      have hc2 : c ≠ 45 := by intro e; rw [e] at g1; exact absurd g1 (by decide)
      have hb : body (dg n) = dg n ∧ isNeg (dg n) = false := by rw [he]; exact ⟨(head_else hc1 hc2).2, (head_else hc1 hc2).1⟩
      refine ⟨by unfold form; rw [hb.1, h1]; omega, ?_⟩
      unfold zOf
      rw [hb.1, hb.2, h2]; rfl
end M
theorem num_lt (U : List UInt8) (h : M.fB U ≠ 0) : M.num U < 10 ^ (3 * U.length + 2) := by
  have hgl := M.gone_len U
  have key : ∀ (b n E : Nat), n < b ^ E → b ≤ 100 → 2 * E ≤ 3 * U.length + 2 → n < 10 ^ (3 * U.length + 2) := by
    intro b n E h1 h2 h3
    refine Nat.lt_of_lt_of_le h1 ?_
    refine Nat.le_trans (Nat.pow_le_pow_left h2 E) ?_
    rw [show (100 : Nat) = 10 ^ 2 from rfl, ← Nat.pow_mul]
    exact Nat.pow_le_pow_right (by omega) h3
  rcases M.isForm U h with ⟨r, h, hg, hd⟩ | ⟨r, h, hg, hd⟩ | ⟨h, hd⟩ | ⟨h, hu⟩ | ⟨h, hd, h48⟩ | ⟨D, R, h, hg, hd, h48, hR⟩
  · have hn : M.num U = M.val 2 r := by unfold M.num; rw [if_pos h, hg]; rfl
    rw [hg] at hgl; simp at hgl
    rw [hn]; exact key 2 _ r.length (M.val_lt 2 r ((M.okD_iff _ _).1 hd).2) (by omega) (by omega)
  · have hn : M.num U = M.val 16 r := by unfold M.num; rw [if_neg (by omega), if_pos h, hg]; rfl
    rw [hg] at hgl; simp at hgl
    rw [hn]; exact key 16 _ r.length (M.val_lt 16 r ((M.okD_iff _ _).1 hd).2) (by omega) (by omega)
  · have hn : M.num U = M.val 8 (M.gone U) := by unfold M.num; rw [if_neg (by omega), if_neg (by omega), if_pos h]
    rw [hn]; exact key 8 _ _ (M.val_lt 8 _ ((M.okD_iff _ _).1 hd).2) (by omega) (by omega)
  · subst hu; exact Nat.lt_of_le_of_lt (Nat.le_of_eq (show M.num [48] = 0 by decide)) (Nat.pow_pos (by omega))
  · have hn : M.num U = M.val 10 (M.gone U) := by unfold M.num; rw [if_neg (by omega), if_neg (by omega), if_neg (by omega), if_neg (by omega)]
    rw [hn]; exact key 10 _ _ (M.val_lt 10 _ ((M.okD_iff _ _).1 hd).2) (by omega) (by omega)
  · have hD58 : ∀ c ∈ D, c ≠ 58 := fun c hc => M.ne58 ((M.allD_iff _ _).1 ((M.okD_iff _ _).1 hd).2 c hc) (by omega)
    have hn : M.num U = M.sx (M.val 10 D) 0 R := by
      unfold M.num
      rw [if_neg (by omega), if_neg (by omega), if_neg (by omega), if_pos h, hg, M.sx_yes 0 D R hD58, Nat.zero_mul, Nat.zero_add]
    rw [hg] at hgl; simp at hgl
    rw [hn]
    exact Nat.lt_of_lt_of_le (M.six_lt D R ((M.okD_iff _ _).1 hd).2) (Nat.pow_le_pow_right (by omega) (by omega))
theorem zOf_small (l : List UInt8) (h : M.form l ≠ 0) (hl : l.length ≤ 90) : (tx (zOf l)).size ≤ 990 := by
  have h1 := num_lt (M.body l) h
  have h2 := M.body_len l
  have h3 := tx_len (zOf l) (3 * (M.body l).length + 2) (by omega) (by unfold zOf; rw [sgn_abs]; exact h1)
  omega
end Go.Proofs.YthgkmcidlcdjlaaDoor
