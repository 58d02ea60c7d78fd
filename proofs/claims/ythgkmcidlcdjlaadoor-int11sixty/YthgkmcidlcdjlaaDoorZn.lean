/- Plain mathematics: gaps put in. -/
import Derived.Test.YthgkmcidlcdjlaaDoorZm
set_option linter.unusedVariables false
namespace Go.Proofs.YthgkmcidlcdjlaaDoor
open Go.RowKit
namespace M

/-- g gaps put in behind j signs. -/
def ins (j g : Nat) (l : List UInt8) : List UInt8 := l.take j ++ List.replicate g 95 ++ l.drop j
theorem gone_gaps (g : Nat) : gone (List.replicate g 95) = [] := by
  induction g with
  | zero => rfl
  | succ g ih => rw [List.replicate_succ, gone_eq, ih]
theorem gone_ins (j g : Nat) (l : List UInt8) : gone (ins j g l) = gone l := by
  unfold ins
  rw [gone_append, gone_append, gone_gaps, List.append_nil, ← gone_append, List.take_append_drop]
theorem ins_cons (j g : Nat) (c : UInt8) (l : List UInt8) : ins (j + 1) g (c :: l) = c :: ins j g l := by
  unfold ins; simp
theorem mem_ins {j g : Nat} {l : List UInt8} {x : UInt8} (h : x ∈ ins j g l) : x ∈ l ∨ x = 95 := by
  unfold ins at h
  rcases List.mem_append.1 h with h | h
  · rcases List.mem_append.1 h with h | h
    · exact Or.inl (List.mem_of_mem_take h)
    · exact Or.inr (List.mem_replicate.1 h).2
  · exact Or.inl (List.mem_of_mem_drop h)
theorem fN_oct (q : List UInt8) (h0 : q ≠ []) (h1 : q.head? ≠ some 98) (h2 : q.head? ≠ some 120) : fN q = if okD 8 (gone q) = true then 3 else 0 := by
  match q, h0 with
  | c :: r, _ =>
    rw [fN, if_neg (by intro e; exact h1 (by rw [e]; rfl)), if_neg (by intro e; exact h2 (by rw [e]; rfl)), fG_eq]
theorem head_ins (j g : Nat) (c : UInt8) (q : List UInt8) : (ins j g (c :: q)).head? = some c ∨ (ins j g (c :: q)).head? = some 95 := by
  match j with
  | 0 =>
    unfold ins
    match g with
    | 0 => left; simp
    | g + 1 => right; simp [List.replicate_succ]
  | j + 1 => left; rw [ins_cons]; rfl
/-- Gaps behind the first sign (behind the second one of the forms 1, 2) leave the form. -/
theorem fB_ins (U : List UInt8) (g j : Nat) (h : fB U = 1 ∨ fB U = 2 ∨ fB U = 3 ∨ fB U = 5) (hj : 1 ≤ j) (h2 : fB U < 3 → 2 ≤ j) : fB (ins j g U) = fB U := by
  obtain ⟨i, rfl⟩ : ∃ i, j = i + 1 := ⟨j - 1, by omega⟩
  match U, h, h2 with
  | [], h, _ => exact absurd h (by decide)
  | c :: r, h, h2 =>
    rw [ins_cons]
    by_cases h48 : c = 48
    · subst h48
      have e1 : ∀ x, fB (48 :: x) = fN x := fun x => by rw [fB, if_pos rfl]
      rw [e1] at h h2 ⊢
      rw [e1]
      match r, h, h2 with
      | [], h, _ => exact absurd h (by decide)
      | d :: q, h, h2 =>
        by_cases h98 : d = 98
        · subst h98
          have e2 : ∀ x, fN (98 :: x) = if okD 2 (gone x) = true then 1 else 0 := fun x => by rw [fN, if_pos rfl, fG_eq]
          rw [e2] at h h2 ⊢
          have hlt : 2 ≤ i + 1 := h2 (by split <;> omega)
          obtain ⟨k, rfl⟩ : ∃ k, i = k + 1 := ⟨i - 1, by omega⟩
          rw [ins_cons, e2, gone_ins]
        · by_cases h120 : d = 120
          · subst h120
            have e2 : ∀ x, fN (120 :: x) = if okD 16 (gone x) = true then 2 else 0 := fun x => by rw [fN, if_neg (by decide), if_pos rfl, fG_eq]
            rw [e2] at h h2 ⊢
            have hlt : 2 ≤ i + 1 := h2 (by split <;> omega)
            obtain ⟨k, rfl⟩ : ∃ k, i = k + 1 := ⟨i - 1, by omega⟩
            rw [ins_cons, e2, gone_ins]
          · rw [fN_oct (d :: q) (by simp) (by simpa using h98) (by simpa using h120)]
            have hh := head_ins i g d q
            rw [fN_oct (ins i g (d :: q)), gone_ins]
            · intro e; rw [e] at hh; simp at hh
            · rcases hh with hh | hh <;> rw [hh]
              · simpa using h98
              · decide
            · rcases hh with hh | hh <;> rw [hh]
              · simpa using h120
              · decide
    · by_cases hd : dv c < 10
      · have e1 : ∀ x, fB (c :: x) = fA x := fun x => by rw [fB, if_neg h48, if_pos hd]
        rw [e1] at h ⊢
        rw [e1]
        have hn : ∀ x ∈ r, x ≠ 58 := by
          rcases split_at 58 r with hn | ⟨D, R, rfl, hD⟩
          · exact hn
          · rw [fA_yes D R hD] at h
            rcases fS_06 R 1 with h6 | h6 <;> rw [h6] at h <;> split at h <;> omega
        have hn2 : ∀ x ∈ ins i g r, x ≠ 58 := by
          intro x hx
          rcases mem_ins hx with hx | hx
          · exact hn x hx
          · rw [hx]; decide
        rw [fA_no r hn, fA_no _ hn2, gone_ins]
      · have : fB (c :: r) = 0 := by rw [fB, if_neg h48, if_neg hd]
        rw [this] at h; omega
theorem num_ins (U : List UInt8) (g j : Nat) (h : fB (ins j g U) = fB U) : num (ins j g U) = num U := by
  unfold num; rw [h, gone_ins]
/-- How many signs stand ahead. -/
def pre (l : List UInt8) : Nat := if l.head? = some 43 ∨ l.head? = some 45 then 1 else 0
theorem ins_sign (l : List UInt8) (k g : Nat) (hl : l ≠ []) (hk : 1 ≤ k) : isNeg (ins k g l) = isNeg l ∧ body (ins k g l) = ins (k - pre l) g (body l) := by
  obtain ⟨i, rfl⟩ : ∃ i, k = i + 1 := ⟨k - 1, by omega⟩
  match l, hl with
  | c :: r, _ =>
    rw [ins_cons]
    by_cases h1 : c = 43
    · rw [(head_43 h1).1, (head_43 h1).2, (head_43 h1).1, (head_43 h1).2]
      refine ⟨rfl, ?_⟩
      unfold pre; rw [if_pos (Or.inl (by rw [h1]; rfl))]; rfl
    · by_cases h2 : c = 45
      · rw [(head_45 h2).1, (head_45 h2).2, (head_45 h2).1, (head_45 h2).2]
        refine ⟨rfl, ?_⟩
        unfold pre; rw [if_pos (Or.inr (by rw [h2]; rfl))]; rfl
      · rw [(head_else h1 h2).1, (head_else h1 h2).2, (head_else h1 h2).1, (head_else h1 h2).2]
        refine ⟨rfl, ?_⟩
        unfold pre; rw [if_neg (by simp [h1, h2]), Nat.sub_zero, ins_cons]
/-- The law in plain words. -/
theorem gaps (l : List UInt8) (k g : Nat) (h : form l = 1 ∨ form l = 2 ∨ form l = 3 ∨ form l = 5) (hk : pre l + 1 + (if form l < 3 then 1 else 0) ≤ k) : form (ins k g l) = form l ∧ zOf (ins k g l) = zOf l := by
  have hne : l ≠ [] := by intro e; rw [e] at h; exact absurd h (by decide)
  obtain ⟨h1, h2⟩ := ins_sign l k g hne (by omega)
  have h3 := fB_ins (body l) g (k - pre l) h (by omega) (fun hq => by
    have hq2 : form l < 3 := hq
    rw [if_pos hq2] at hk; omega)
  refine ⟨by unfold form; rw [h2]; exact h3, ?_⟩
  unfold zOf
  rw [h1, h2, num_ins _ _ _ h3]
end M
end Go.Proofs.YthgkmcidlcdjlaaDoor
