/- Plain mathematics: what the forms say. Plain mathematics: each form's signs. -/
import Derived.Test.YtocegiffbgnogaaDoorXd
import Derived.Lib.Replace
set_option linter.unusedVariables false
namespace Go.Proofs.YtocegiffbgnogaaDoor
namespace M

theorem split_at (x : UInt8) (l : List UInt8) : (∀ c ∈ l, c ≠ x) ∨ ∃ D r, l = D ++ x :: r ∧ ∀ c ∈ D, c ≠ x := by
  induction l with
  | nil => left; intro c hc; cases hc
  | cons b l ih =>
    by_cases hb : b = x
    · right; exact ⟨[], l, by rw [hb]; rfl, fun c hc => by cases hc⟩
    · rcases ih with ih | ⟨D, r, rfl, hD⟩
      · left
        intro c hc
        rcases List.mem_cons.1 hc with rfl | hc
        · exact hb
        · exact ih c hc
      · right
        refine ⟨b :: D, r, rfl, ?_⟩
        intro c hc
        rcases List.mem_cons.1 hc with rfl | hc
        · exact hb
        · exact hD c hc
theorem index_no (x : UInt8) (l : List UInt8) (h : ∀ c ∈ l, c ≠ x) : Lib.index l [x] = -1 := by
  induction l with
  | nil => rfl
  | cons b l ih =>
    have hb : b ≠ x := h b (by simp)
    unfold Lib.index
    rw [if_neg (by simp; intro e; exact absurd e.symm hb), ih (fun c hc => h c (by simp [hc]))]
    rfl
theorem index_yes (x : UInt8) (D r : List UInt8) (h : ∀ c ∈ D, c ≠ x) : Lib.index (D ++ x :: r) [x] = D.length := by
  induction D with
  | nil => unfold Lib.index; simp
  | cons b l ih =>
    have hb : b ≠ x := h b (by simp)
    have ih' := ih (fun c hc => h c (by simp [hc]))
    rw [List.cons_append]
    unfold Lib.index
    rw [if_neg (by simp; intro e; exact absurd e.symm hb), ih', if_neg (by simp)]
    simp
theorem cut_no (x : UInt8) (l : List UInt8) (h : ∀ c ∈ l, c ≠ x) : Lib.cut l [x] = (l, [], false) := by
  unfold Lib.cut; rw [index_no x l h, if_neg (by omega)]
theorem cut_yes (x : UInt8) (D r : List UInt8) (h : ∀ c ∈ D, c ≠ x) : Lib.cut (D ++ x :: r) [x] = (D, r, true) := by
  unfold Lib.cut
  rw [index_yes x D r h, if_pos (by omega)]
  simp
theorem gone_no (l : List UInt8) (h : ∀ c ∈ l, c ≠ 95) : gone l = l := by
  unfold gone; rw [List.filter_eq_self]; intro c hc; exact decide_eq_true (h c hc)
theorem gone_eq (r : List UInt8) : gone (95 :: r) = gone r := rfl
theorem gone_ne {c : UInt8} (r : List UInt8) (h : c ≠ 95) : gone (c :: r) = c :: gone r := by
  unfold gone; rw [List.filter_cons_of_pos (by simpa using h)]
theorem mem_gone {c : UInt8} {l : List UInt8} : c ∈ gone l ↔ c ∈ l ∧ c ≠ 95 := by simp [gone]
theorem gone_gone (l : List UInt8) : gone (gone l) = gone l := gone_no _ fun c hc => (mem_gone.1 hc).2
theorem count_cut (n : Nat) : ∀ l : List UInt8, l.length ≤ n → Lib.replaceK [95] [] (Lib.count l [95]) l = gone l := by
  induction n with
  | zero =>
    intro l h
    obtain rfl : l = [] := List.eq_nil_of_length_eq_zero (by omega)
    rw [Lib.count_miss (index_no 95 [] (fun c hc => by cases hc)), Lib.replaceK]; rfl
  | succ n ih =>
    intro l h
    rcases split_at 95 l with hn | ⟨D, r, rfl, hD⟩
    · rw [Lib.count_miss (index_no 95 l hn), Lib.replaceK, gone_no l hn]
    · have hi := index_yes 95 D r hD
      have hc := Lib.count_hit (by simp) hi
      have hd : (D ++ 95 :: r).drop (D.length + [(95 : UInt8)].length) = r := by simp
      rw [hd] at hc
      rw [hc, Nat.add_comm, Lib.replaceK_hit _ _ _ _ _ hi, hd, ih r (by simp at h; omega), gone_append, gone_eq, gone_no D hD]
      simp
theorem replace_gone (l : List UInt8) : Lib.replaceAll l [95] [] = gone l := by
  unfold Lib.replaceAll Lib.replace
  rw [if_neg (by simp)]
  unfold Lib.replaceNum
  rw [if_pos (Or.inl (by omega))]
  exact count_cut l.length l (Nat.le_refl _)

theorem dv95 : dv 95 = 99 := by decide
theorem dv58 : dv 58 = 99 := by decide
theorem ne58 {c : UInt8} {b : Nat} (h : dv c < b) (hb : b ≤ 99) : c ≠ 58 := by intro e; rw [e, dv58] at h; omega
theorem ne95 {c : UInt8} {b : Nat} (h : dv c < b) (hb : b ≤ 99) : c ≠ 95 := by intro e; rw [e, dv95] at h; omega
theorem allD_cons (b : Nat) (c : UInt8) (l : List UInt8) : allD b (c :: l) = (decide (dv c < b) && allD b l) := by simp [allD]
theorem okD_cons (b : Nat) (c : UInt8) (l : List UInt8) : okD b (c :: l) = (decide (dv c < b) && allD b l) := by simp [okD, allD]
theorem fD_eq (b f : Nat) (l : List UInt8) : fD b f l = if allD b (gone l) = true then f else 0 := by
  induction l with
  | nil => rfl
  | cons c l ih =>
    rw [fD]
    by_cases h : c = 95
    · rw [if_pos (Or.inl h), ih, h, gone_eq]
    · rw [gone_ne _ h, allD_cons]
      by_cases hd : dv c < b
      · rw [if_pos (Or.inr hd), ih, decide_eq_true hd, Bool.true_and]
      · rw [if_neg (fun k => k.elim h hd), decide_eq_false hd, Bool.false_and, if_neg (by simp)]
theorem fG_eq (b f : Nat) (l : List UInt8) : fG b f l = if okD b (gone l) = true then f else 0 := by
  induction l with
  | nil => rfl
  | cons c l ih =>
    rw [fG]
    by_cases h : c = 95
    · rw [if_pos h, ih, h, gone_eq]
    · rw [if_neg h, gone_ne _ h, okD_cons]
      by_cases hd : dv c < b
      · rw [if_pos hd, fD_eq, decide_eq_true hd, Bool.true_and]
      · rw [if_neg hd, decide_eq_false hd, Bool.false_and, if_neg (by simp)]
/-- Digits and gaps to the end. -/
theorem fA_no (l : List UInt8) (h : ∀ c ∈ l, c ≠ 58) : fA l = if allD 10 (gone l) = true then 5 else 0 := by
  induction l with
  | nil => rfl
  | cons c l ih =>
    have h58 : c ≠ 58 := h c (by simp)
    have ih' := ih fun x hx => h x (by simp [hx])
    rw [fA]
    by_cases h9 : c = 95
    · rw [if_pos (Or.inl h9), ih', h9, gone_eq]
    · rw [gone_ne _ h9, allD_cons]
      by_cases hd : dv c < 10
      · rw [if_pos (Or.inr hd), ih', decide_eq_true hd, Bool.true_and]
      · rw [if_neg (fun k => k.elim h9 hd), if_neg h58, decide_eq_false hd, Bool.false_and, if_neg (by simp)]
theorem fA_yes (D r : List UInt8) (h : ∀ c ∈ D, c ≠ 58) : fA (D ++ 58 :: r) = if allD 10 (gone D) = true then fS 1 r else 0 := by
  induction D with
  | nil => rw [List.nil_append, fA, if_neg (by decide), if_pos rfl]; rfl
  | cons c l ih =>
    have h58 : c ≠ 58 := h c (by simp)
    have ih' := ih fun x hx => h x (by simp [hx])
    rw [List.cons_append, fA]
    by_cases h9 : c = 95
    · rw [if_pos (Or.inl h9), ih', h9, gone_eq]
    · rw [gone_ne _ h9, allD_cons]
      by_cases hd : dv c < 10
      · rw [if_pos (Or.inr hd), ih', decide_eq_true hd, Bool.true_and]
      · rw [if_neg (fun k => k.elim h9 hd), if_neg h58, decide_eq_false hd, Bool.false_and, if_neg (by simp)]
/-- May these signs be a part to the base 60, behind the first one? -/
def pr : List UInt8 → Bool
  | [a] => decide (dv a < 10)
  | [a, b] => decide (dv a < 6) && decide (dv b < 10)
  | _ => false
theorem pr1 (a : UInt8) : pr [a] = decide (dv a < 10) := rfl
theorem pr2 (a b : UInt8) : pr [a, b] = (decide (dv a < 6) && decide (dv b < 10)) := rfl
theorem pr_facts {P : List UInt8} (h : pr P = true) : okD 10 P = true ∧ P.length ≤ 2 ∧ 0 < P.length ∧ val 10 P < 60 ∧ ∀ c ∈ P, c ≠ 58 := by
  match P, h with
  | [a], h =>
    have h1 : dv a < 10 := by simpa [pr] using h
    refine ⟨by simp [okD, allD, h1], by simp, by simp, by rw [val_one]; omega, ?_⟩
    intro c hc; rw [List.mem_singleton.1 hc]; exact ne58 h1 (by omega)
  | [a, b], h =>
    have h1 : dv a < 6 ∧ dv b < 10 := by simpa [pr] using h
    refine ⟨by simp [okD, allD, h1.2]; omega, by simp, by simp, ?_, ?_⟩
    · rw [val_cons, val_one]; simp; omega
    · intro c hc
      simp at hc
      rcases hc with rfl | rfl
      · exact ne58 h1.1 (by omega)
      · exact ne58 h1.2 (by omega)
theorem fS_yes (P r : List UInt8) (h : ∀ c ∈ P, c ≠ 58) : fS 1 (P ++ 58 :: r) = if pr P = true then fS 1 r else 0 := by
  have e2 : fS 2 (58 :: r) = fS 1 r := by rw [fS2_cons, if_neg (by decide), if_pos rfl]
  have e3 : fS 3 (58 :: r) = fS 1 r := by rw [fS3_cons, if_pos rfl]
  match P, h with
  | [], _ => rw [List.nil_append, fS1_cons, if_neg (by decide), if_neg (by decide)]; rfl
  | [a], _ =>
    show fS 1 (a :: 58 :: r) = _
    rw [fS1_cons, e2, e3]
    rw [pr1]
    by_cases h6 : dv a < 6
    · rw [if_pos h6, if_pos (decide_eq_true (by omega))]
    · by_cases h10 : dv a < 10
      · rw [if_neg h6, if_pos h10, if_pos (decide_eq_true h10)]
      · rw [if_neg h6, if_neg h10, if_neg (by simpa using h10)]
  | [a, b], h =>
    have hb : b ≠ 58 := h b (by simp)
    show fS 1 (a :: b :: 58 :: r) = _
    rw [fS1_cons, fS2_cons, fS3_cons b, e3, if_neg hb]
    rw [pr2]
    by_cases h6 : dv a < 6
    · by_cases h10 : dv b < 10
      · rw [if_pos h6, if_pos h10, decide_eq_true h6, decide_eq_true h10]; rfl
      · rw [if_pos h6, if_neg h10, decide_eq_true h6, decide_eq_false h10]; rfl
    · rw [if_neg h6, decide_eq_false h6]; simp
  | a :: b :: c :: q, h =>
    have hb : b ≠ 58 := h b (by simp)
    have hc : c ≠ 58 := h c (by simp)
    show fS 1 (a :: b :: c :: (q ++ 58 :: r)) = _
    rw [fS1_cons, fS2_cons, fS3_cons b, fS3_cons c, if_neg hb, if_neg hc]
    simp [pr]
theorem fS_no (P : List UInt8) (h : ∀ c ∈ P, c ≠ 58) : fS 1 P = if pr P = true then 6 else 0 := by
  match P, h with
  | [], _ => rfl
  | [a], _ =>
    rw [fS1_cons, fS2_nil, fS3_nil]
    rw [pr1]
    by_cases h6 : dv a < 6
    · rw [if_pos h6, if_pos (decide_eq_true (by omega))]
    · by_cases h10 : dv a < 10
      · rw [if_neg h6, if_pos h10, if_pos (decide_eq_true h10)]
      · rw [if_neg h6, if_neg h10, if_neg (by simpa using h10)]
  | [a, b], h =>
    have hb : b ≠ 58 := h b (by simp)
    rw [fS1_cons, fS2_cons, fS3_cons b, fS3_nil, if_neg hb]
    rw [pr2]
    by_cases h6 : dv a < 6
    · by_cases h10 : dv b < 10
      · rw [if_pos h6, if_pos h10, decide_eq_true h6, decide_eq_true h10]; rfl
      · rw [if_pos h6, if_neg h10, decide_eq_true h6, decide_eq_false h10]; rfl
    · rw [if_neg h6, decide_eq_false h6]; simp
  | a :: b :: c :: q, h =>
    have hb : b ≠ 58 := h b (by simp)
    have hc : c ≠ 58 := h c (by simp)
    rw [fS1_cons, fS2_cons, fS3_cons b, fS3_cons c, if_neg hb, if_neg hc]
    simp [pr]
theorem sx_yes (n : Nat) (D r : List UInt8) (h : ∀ c ∈ D, c ≠ 58) : sx n 0 (D ++ 58 :: r) = sx (n * 60 + val 10 D) 0 r := sx_part D r n 0 h
theorem sx_no (n : Nat) (D : List UInt8) (h : ∀ c ∈ D, c ≠ 58) : sx n 0 D = n * 60 + val 10 D := sx_last D n 0 h
theorem sx_ge (n p : Nat) (l : List UInt8) : n ≤ sx n p l := by
  induction l generalizing n p with
  | nil => rw [sx]; omega
  | cons c l ih =>
    rw [sx]
    split
    · exact Nat.le_trans (by omega) (ih _ _)
    · exact ih _ _
theorem rd_ge (n : Nat) (l : List UInt8) : n ≤ rd n l := by
  unfold rd; split
  · exact Nat.le_refl _
  · exact sx_ge _ _ _
theorem sx_le (n p : Nat) (l : List UInt8) : sx n p l ≤ (n * 60 + p + 1) * 1000 ^ l.length := by
  induction l generalizing n p with
  | nil => rw [sx]; simp
  | cons c l ih =>
    rw [sx, List.length_cons, Nat.pow_succ]
    have hd := dv_le c
    generalize hq : (1000 : Nat) ^ l.length = q at *
    split
    · refine Nat.le_trans (ih _ _) ?_
      rw [Nat.mul_comm q 1000, ← Nat.mul_assoc]
      exact Nat.mul_le_mul_right _ (by omega)
    · refine Nat.le_trans (ih _ _) ?_
      rw [Nat.mul_comm q 1000, ← Nat.mul_assoc]
      exact Nat.mul_le_mul_right _ (by omega)
/-- The number that a body says, by its form. -/
def num (l : List UInt8) : Nat := if fB l = 1 then val 2 ((gone l).drop 2) else if fB l = 2 then val 16 ((gone l).drop 2) else if fB l = 3 then val 8 (gone l) else if fB l = 6 then sx 0 0 (gone l) else val 10 (gone l)
end M
end Go.Proofs.YtocegiffbgnogaaDoor

namespace Go.Proofs.YtocegiffbgnogaaDoor
namespace M

theorem step_six (R : List UInt8) (h : fS 1 R = 6) : ∃ P r b, Lib.cut R [58] = (P, r, b) ∧ pr P = true ∧ (r = [] ∨ fS 1 r = 6) ∧ r.length < R.length ∧ ∀ n, rd n R = rd (n * 60 + val 10 P) r := by
  have hne : R ≠ [] := by intro e; rw [e] at h; cases h
  rcases split_at 58 R with hn | ⟨P, r, rfl, hP⟩
  · rw [fS_no R hn] at h
    by_cases hp : pr R = true
    · refine ⟨R, [], false, cut_no 58 R hn, hp, Or.inl rfl, List.length_pos_iff.2 hne, fun n => ?_⟩
      unfold rd
      rw [if_neg hne, if_pos rfl, sx_no n R hn]
    · rw [if_neg hp] at h; cases h
  · rw [fS_yes P r hP] at h
    by_cases hp : pr P = true
    · rw [if_pos hp] at h
      refine ⟨P, r, true, cut_yes 58 P r hP, hp, Or.inr h, by simp; omega, fun n => ?_⟩
      have hr : r ≠ [] := by intro e; rw [e] at h; cases h
      unfold rd
      rw [if_neg hne, if_neg hr, sx_yes n P r hP]
    · rw [if_neg hp] at h; cases h
theorem fS_no95 (R : List UInt8) : ∀ k, fS k R ≠ 0 → ∀ c ∈ R, c ≠ 95 := by
  induction R with
  | nil => intro k h c hc; cases hc
  | cons b R ih =>
    intro k h
    have key : b ≠ 95 ∧ ∃ k', fS k' R ≠ 0 := by
      constructor
      · intro e
        apply h
        rw [e, fS, dv95]
        simp
      · rw [fS] at h
        split at h
        · split at h
          · exact ⟨_, h⟩
          · split at h
            · exact ⟨_, h⟩
            · exact absurd rfl h
        · split at h
          · exact ⟨_, h⟩
          · split at h
            · exact ⟨_, h⟩
            · exact absurd rfl h
    obtain ⟨hb, k', hk⟩ := key
    intro c hc
    rcases List.mem_cons.1 hc with rfl | hc
    · exact hb
    · exact ih k' hk c hc
theorem fS_gone {R : List UInt8} {k : Nat} (h : fS k R ≠ 0) : gone R = R := gone_no R (fS_no95 R k h)
theorem dv_lt_allD {b b' : Nat} (h : b ≤ b') {l : List UInt8} (hl : allD b l = true) : allD b' l = true := by
  rw [allD_iff] at hl ⊢
  intro c hc; exact Nat.lt_of_lt_of_le (hl c hc) h
/-- What each form's body is. -/
def IsForm (U : List UInt8) : Prop :=
  (∃ r, fB U = 1 ∧ gone U = 48 :: 98 :: r ∧ okD 2 r = true) ∨
  (∃ r, fB U = 2 ∧ gone U = 48 :: 120 :: r ∧ okD 16 r = true) ∨
  (fB U = 3 ∧ okD 8 (gone U) = true) ∨
  (fB U = 4 ∧ U = [48]) ∨
  (fB U = 5 ∧ okD 10 (gone U) = true ∧ (gone U).head? ≠ some 48) ∨
  (∃ D R, fB U = 6 ∧ gone U = D ++ 58 :: R ∧ okD 10 D = true ∧ D.head? ≠ some 48 ∧ fS 1 R = 6)
theorem isForm (U : List UInt8) (h : fB U ≠ 0) : IsForm U := by
  match U, h with
  | [], h => exact absurd rfl h
  | c :: r, h =>
    by_cases h48 : c = 48
    · subst h48
      have hB : fB (48 :: r) = fN r := by rw [fB, if_pos rfl]
      rw [hB] at h
      match r, h, hB with
      | [], _, hB => exact Or.inr (Or.inr (Or.inr (Or.inl ⟨hB, rfl⟩)))
      | d :: q, h, hB =>
        rw [fN] at h hB
        by_cases h98 : d = 98
        · subst h98
          rw [if_pos rfl, fG_eq] at h hB
          by_cases hd : okD 2 (gone q) = true
          · rw [if_pos hd] at hB
            exact Or.inl ⟨gone q, hB, by rw [gone_ne _ (by decide), gone_ne _ (by decide)], hd⟩
          · rw [if_neg hd] at h; exact absurd rfl h
        · by_cases h120 : d = 120
          · subst h120
            rw [if_neg h98, if_pos rfl, fG_eq] at h hB
            by_cases hd : okD 16 (gone q) = true
            · rw [if_pos hd] at hB
              exact Or.inr (Or.inl ⟨gone q, hB, by rw [gone_ne _ (by decide), gone_ne _ (by decide)], hd⟩)
            · rw [if_neg hd] at h; exact absurd rfl h
          · rw [if_neg h98, if_neg h120, fG_eq] at h hB
            by_cases hd : okD 8 (gone (d :: q)) = true
            · rw [if_pos hd] at hB
              refine Or.inr (Or.inr (Or.inl ⟨hB, ?_⟩))
              rw [gone_ne _ (by decide), okD_cons, ((okD_iff _ _).1 hd).2]; rfl
            · rw [if_neg hd] at h; exact absurd rfl h
    · by_cases hd : dv c < 10
      · have h95 : c ≠ 95 := ne95 hd (by omega)
        have hB : fB (c :: r) = fA r := by rw [fB, if_neg h48, if_pos hd]
        rw [hB] at h
        rcases split_at 58 r with hn | ⟨D, R, rfl, hD⟩
        · rw [fA_no r hn] at h hB
          by_cases ha : allD 10 (gone r) = true
          · rw [if_pos ha] at hB
            refine Or.inr (Or.inr (Or.inr (Or.inr (Or.inl ⟨hB, ?_, ?_⟩))))
            · rw [gone_ne _ h95, okD_cons, ha, decide_eq_true hd]; rfl
            · rw [gone_ne _ h95]; simpa using h48
          · rw [if_neg ha] at h; exact absurd rfl h
        · rw [fA_yes D R hD] at h hB
          by_cases ha : allD 10 (gone D) = true
          · rw [if_pos ha] at h hB
            have h6 : fS 1 R = 6 := by
              have key : ∀ (R : List UInt8) k, fS k R = 0 ∨ fS k R = 6 := by
                intro R
                induction R with
                | nil => intro k; rw [fS]; split; exact Or.inl rfl; exact Or.inr rfl
                | cons b R ih =>
                  intro k
                  rw [fS]
                  split
                  · split
                    · exact ih _
                    · split
                      · exact ih _
                      · exact Or.inl rfl
                  · split
                    · exact ih _
                    · split
                      · exact ih _
                      · exact Or.inl rfl
              rcases key R 1 with h0 | h6
              · exact absurd h0 h
              · exact h6
            refine Or.inr (Or.inr (Or.inr (Or.inr (Or.inr ⟨c :: gone D, R, hB.trans h6, ?_, ?_, by simpa using h48, h6⟩))))
            · rw [gone_ne _ h95, gone_append, gone_ne _ (by decide), fS_gone h]; rfl
            · rw [okD_cons, ha, decide_eq_true hd]; rfl
          · rw [if_neg ha] at h; exact absurd rfl h
      · exact absurd (by rw [fB, if_neg h48, if_neg hd]) h
theorem pow_le {a b c d : Nat} (h1 : a ≤ b) (h2 : c ≤ d) (hb : 0 < b) : a ^ c ≤ b ^ d :=
  Nat.le_trans (Nat.pow_le_pow_left h1 c) (Nat.pow_le_pow_right hb h2)
theorem six_lt (D R : List UInt8) (hd : allD 10 D = true) : sx (val 10 D) 0 R < 10 ^ (D.length + 2 + 3 * R.length) := by
  have h1 := sx_le (val 10 D) 0 R
  have h2 := val_lt 10 D hd
  have e : (10 : Nat) ^ (D.length + 2 + 3 * R.length) = 10 ^ D.length * 100 * 1000 ^ R.length := by
    rw [Nat.pow_add, Nat.pow_add, Nat.pow_mul]
  rw [e]
  refine Nat.lt_of_le_of_lt h1 (Nat.mul_lt_mul_of_pos_right ?_ (Nat.pow_pos (by omega)))
  omega
end M
end Go.Proofs.YtocegiffbgnogaaDoor
