/- Plain mathematics: what the machines of both schemas say of the texts over which the schemas part. -/
import Derived.Test.YtipgipgehnhgkaaGreatDoorMa
set_option linter.unusedVariables false
namespace Go.Proofs.YtipgipgehnhgkaaGreatDoor
open Go.RowKit
namespace M

theorem dg_cons (n : Nat) : ∃ c r, dg n = c :: r ∧ dv c < 10 ∧ c ≠ 43 ∧ c ≠ 45 := by
  obtain ⟨hne, hal⟩ := (okD_iff _ _).1 (dg_ok n)
  cases h : dg n with
  | nil => exact absurd h hne
  | cons c r =>
    rw [h] at hal
    have := (allD_iff _ _).1 hal c (by simp)
    exact ⟨c, r, rfl, this, by intro e; rw [e, dv43] at this; omega, by intro e; rw [e, dv45] at this; omega⟩
theorem body_49 (l : List UInt8) : isNeg (49 :: l) = false ∧ body (49 :: l) = 49 :: l := body_else _ (by decide) (by decide)
theorem body_48 (l : List UInt8) : isNeg (48 :: l) = false ∧ body (48 :: l) = 48 :: l := body_else _ (by decide) (by decide)
theorem no_infs {c : UInt8} (r : List UInt8) (h : c ≠ 46) : c :: r ∉ nans ∧ c :: r ∉ infs := by
  constructor
  · intro k
    simp only [nans, List.mem_cons, List.not_mem_nil, or_false] at k
    rcases k with k | k | k <;> exact h (List.cons.inj k).1
  · intro k
    simp only [infs, List.mem_cons, List.not_mem_nil, or_false] at k
    rcases k with k | k | k <;> exact h (List.cons.inj k).1
theorem no_moment {c0 c1 : UInt8} (r : List UInt8) (h : ¬ dv c1 < 10) : S10.M.ofS (c0 :: c1 :: r) = none := by
  cases ho : S10.M.ofS (c0 :: c1 :: r) with
  | none => rfl
  | some a =>
    obtain ⟨d0, d1, d2, d3, q, e, _, h1, _⟩ := of_head ho
    have e1 := (List.cons.inj (List.cons.inj e).2).1
    rw [e1] at h
    exact absurd h1 h
/-- A one and digits. -/
theorem one_dg (n : Nat) : txt ((val 10 (49 :: dg n) : Nat) : Int) = 49 :: dg n := by
  obtain ⟨hne, hal⟩ := (okD_iff _ _).1 (dg_ok n)
  have h : okD 10 (49 :: dg n) = true := (okD_iff _ _).2 ⟨by simp, by rw [allD_cons, hal]; decide⟩
  rw [txt_nat]
  exact (dg_of _ h ⟨by simp, by simp⟩).2.symm
/-- A one, a gap and digits. -/
theorem gap_dg (n : Nat) : form (49 :: 95 :: dg n) ≠ 0 ∧ sgn (isNeg (49 :: 95 :: dg n)) (num (body (49 :: 95 :: dg n))) = ((val 10 (49 :: dg n) : Nat) : Int) ∧
    iv (49 :: 95 :: dg n) = none ∧ gl (body (49 :: 95 :: dg n)) ≠ 4 := by
  obtain ⟨hne, hal⟩ := (okD_iff _ _).1 (dg_ok n)
  obtain ⟨h1, h2⟩ := body_49 (95 :: dg n)
  have hB : fB (49 :: 95 :: dg n) = 5 := by rw [fB, if_neg (by decide), if_pos (by decide), fA, if_pos (Or.inl rfl), fA_dig hal]
  have hg : gone (49 :: 95 :: dg n) = 49 :: dg n := by
    rw [gone_ne _ (by decide), gone_eq, gone_no _ (fun c hc => ne95 ((allD_iff _ _).1 hal c hc) (by omega))]
  refine ⟨by unfold form; rw [h2, hB]; omega, ?_, ?_, ?_⟩
  · rw [h1, h2]
    unfold num
    rw [hB, if_neg (by omega), if_neg (by omega), if_neg (by omega), if_neg (by omega), hg]
    rfl
  · unfold iv
    rw [if_neg (by simp), if_neg (by simp), h2, if_neg]
    intro k
    have := (allD_iff _ _).1 ((okD_iff _ _).1 k).2 95 (by simp)
    exact absurd this (by decide)
  · rw [h2, gl, if_neg (by decide), if_pos (by decide), gW, if_neg (by decide), if_neg (by decide), if_neg (by decide)]
    omega
theorem pw_dg (n : Nat) : pw (101 :: dg n) = some ((n : Nat) : Int) := by
  rw [pw, if_pos (Or.inl rfl), pwE, (body_dig (dg_ok n)).2, (body_dig (dg_ok n)).1, if_pos (dg_ok n), dg_val]
  rfl
theorem gE_dg (n : Nat) : gE (dg n) = 4 := by
  have h := pw_dg n
  rw [pw, if_pos (Or.inl rfl)] at h
  rw [gE_eq, h]; rfl
/-- A one, an e and digits. -/
theorem e_dg (n : Nat) : form (49 :: 101 :: dg n) = 0 ∧ flo (49 :: 101 :: dg n) = 0 ∧ S10.M.ofS (49 :: 101 :: dg n) = none ∧
    gl (body (49 :: 101 :: dg n)) = 4 ∧ Num (body (49 :: 101 :: dg n)) [49] [] [49] (101 :: dg n) (n : Nat) := by
  obtain ⟨h1, h2⟩ := body_49 (101 :: dg n)
  refine ⟨?_, ?_, no_moment _ (by decide), ?_, ?_⟩
  · unfold form; rw [h2, fB, if_neg (by decide), if_pos (by decide), fA, if_neg (by decide), if_neg (by decide)]
  · unfold flo
    rw [if_neg (no_infs _ (by decide)).1, h2, if_neg (no_infs _ (by decide)).2, fl, if_neg (by decide), if_pos (by decide), pW, if_neg (by decide), if_neg (by decide), if_neg (by decide)]
  · rw [h2, gl, if_neg (by decide), if_pos (by decide), gW, if_neg (by decide), if_neg (by decide), if_pos (Or.inl rfl), gE_dg]
  · rw [h2]
    exact ⟨rfl, Or.inl ⟨rfl, rfl⟩, by decide, by decide, by decide, pw_dg n⟩
/-- A one, a point, a nought, an e and digits. -/
theorem pe_dg (n : Nat) : form (49 :: 46 :: 48 :: 101 :: dg n) = 0 ∧ flo (49 :: 46 :: 48 :: 101 :: dg n) = 0 ∧ S10.M.ofS (49 :: 46 :: 48 :: 101 :: dg n) = none ∧
    gl (body (49 :: 46 :: 48 :: 101 :: dg n)) = 4 ∧ Num (body (49 :: 46 :: 48 :: 101 :: dg n)) [49] [48] [49, 46, 48] (101 :: dg n) (n : Nat) := by
  obtain ⟨h1, h2⟩ := body_49 (46 :: 48 :: 101 :: dg n)
  obtain ⟨c, r, e, hc, h43, h45⟩ := dg_cons n
  refine ⟨?_, ?_, no_moment _ (by decide), ?_, ?_⟩
  · unfold form; rw [h2, fB, if_neg (by decide), if_pos (by decide), fA, if_neg (by decide), if_neg (by decide)]
  · unfold flo
    rw [if_neg (no_infs _ (by decide)).1, h2, if_neg (no_infs _ (by decide)).2, fl, if_neg (by decide), if_pos (by decide), pW, if_neg (by decide), if_pos rfl, pP, if_pos (by decide), pP, if_neg (by decide), if_pos (Or.inl rfl), e, pE, if_neg (fun k => k.elim h43 h45)]
  · rw [h2, gl, if_neg (by decide), if_pos (by decide), gW, if_neg (by decide), if_pos rfl, gP, if_pos (by decide), gP, if_neg (by decide), if_pos (Or.inl rfl), gE_dg]
  · rw [h2]
    exact ⟨rfl, Or.inr rfl, by decide, by decide, by decide, pw_dg n⟩
theorem gP_dig {l : List UInt8} (h : allD 10 l = true) : gP l = 4 := by
  induction l with
  | nil => rfl
  | cons c r ih => rw [allD_cons, Bool.and_eq_true, decide_eq_true_eq] at h; rw [gP, if_pos h.1, ih h.2]
theorem fr_dig {l : List UInt8} (h : allD 10 l = true) : fr l = l ∧ bk l = [] := by
  induction l with
  | nil => exact ⟨rfl, rfl⟩
  | cons c r ih =>
    rw [allD_cons, Bool.and_eq_true, decide_eq_true_eq] at h
    obtain ⟨h1, h2⟩ := fr_yes (c := c) (r := r) ((du_iff c).2 (Or.inr h.1))
    rw [h1, h2, (ih h.2).1, (ih h.2).2]
    exact ⟨rfl, rfl⟩
/-- A nought, a point and digits. -/
theorem pt_dg (F : List UInt8) (hF : allD 10 F = true) : form (48 :: 46 :: F) = 0 ∧ flo (48 :: 46 :: F) = fl (body (48 :: 46 :: F)) ∧ flo (48 :: 46 :: F) = 1 ∧ Parts (body (48 :: 46 :: F)) [48] F 0 ∧
    gl (body (48 :: 46 :: F)) = 4 ∧ Num (body (48 :: 46 :: F)) [48] F (48 :: 46 :: F) [] 0 := by
  obtain ⟨h1, h2⟩ := body_48 (46 :: F)
  obtain ⟨h3, h4⟩ := fr_dig hF
  have hg : gone F = F := gone_no _ (fun c hc => ne95 ((allD_iff _ _).1 hF c hc) (by omega))
  have hfl : fl (48 :: 46 :: F) = 1 := by
    have := fl_yes 48 [] F (by decide) (by simp)
    rw [List.singleton_append] at this
    rw [this, if_pos (by decide), if_pos (by decide), h4]; rfl
  have hflo : flo (48 :: 46 :: F) = fl (48 :: 46 :: F) := by
    unfold flo; rw [if_neg (no_infs _ (by decide)).1, h2, if_neg (no_infs _ (by decide)).2]
  refine ⟨?_, by rw [h2]; exact hflo, hflo.trans hfl, ?_, ?_, ?_⟩
  · unfold form; rw [h2, fB, if_pos rfl, fN, if_neg (by decide), if_neg (by decide), fG, if_neg (by decide), if_neg (by decide)]
  · rw [h2]
    exact Or.inl ⟨hfl, 48, [], F, rfl, by decide, by simp, by decide, by decide, rfl, by rw [h3, hg], by rw [h4]; rfl⟩
  · rw [h2, gl, if_neg (by decide), if_pos (by decide), gW, if_neg (by decide), if_pos rfl, gP_dig hF]
  · rw [h2]
    exact ⟨by simp, Or.inr rfl, by decide, hF, by simp, rfl⟩
end M
end Go.Proofs.YtipgipgehnhgkaaGreatDoor
