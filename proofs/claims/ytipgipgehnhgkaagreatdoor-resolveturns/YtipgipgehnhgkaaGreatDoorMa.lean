/- Plain mathematics: canonical texts, and what the machines of both schemas say of them. -/
import Derived.Test.YtipgipgehnhgkaaGreatDoorBy
import Derived.Test.YtipgipgehnhgkaaGreatDoorNa
import Derived.Test.YtipgipgehnhgkaaGreatDoorTa
set_option linter.unusedVariables false
namespace Go.Proofs.YtipgipgehnhgkaaGreatDoor
open Go.RowKit
namespace M

theorem fA_dig {r : List UInt8} (h : allD 10 r = true) : fA r = 5 := by
  rw [fA_no r (fun c hc => ne58 ((allD_iff _ _).1 h c hc) (by omega)), gone_no r (fun c hc => ne95 ((allD_iff _ _).1 h c hc) (by omega)), if_pos h]
theorem can_nat (n : Nat) : fB (dg n) ≠ 0 ∧ num (dg n) = n := by
  rcases Nat.eq_zero_or_pos n with rfl | h
  · rw [dg_zero]; exact ⟨by decide, by decide⟩
  · obtain ⟨c, r, e, h48, h1, h2⟩ := dg_head n h
    have hall := dg_all n
    rw [e] at hall
    have ha := hall
    rw [allD_cons, Bool.and_eq_true, decide_eq_true_eq] at ha
    have hB : fB (c :: r) = 5 := by rw [fB, if_neg (fun k => h48 (by rw [k]; rfl)), if_pos ha.1, fA_dig ha.2]
    rw [e]
    refine ⟨by rw [hB]; omega, ?_⟩
    unfold num
    rw [hB, if_neg (by omega), if_neg (by omega), if_neg (by omega), if_neg (by omega), gone_no _ (fun x hx => ne95 ((allD_iff _ _).1 hall x hx) (by omega)), ← e, dg_val]
theorem body_dig {l : List UInt8} (h : okD 10 l = true) : isNeg l = false ∧ body l = l := by
  obtain ⟨hne, hal⟩ := (okD_iff _ _).1 h
  cases l with
  | nil => exact absurd rfl hne
  | cons c r =>
    rw [allD_cons, Bool.and_eq_true, decide_eq_true_eq] at hal
    exact body_else r (by intro e; rw [e, dv43] at hal; omega) (by intro e; rw [e, dv45] at hal; omega)
theorem txt_cases (z : Int) : (0 ≤ z ∧ txt z = dg z.natAbs) ∨ (z < 0 ∧ txt z = 45 :: dg z.natAbs) := by
  by_cases h : z < 0
  · right
    have h1 := isNeg_split (txt z) (by rw [txt_isNeg]; exact decide_eq_true h)
    rw [txt_unsign] at h1
    exact ⟨h, h1⟩
  · left
    have := txt_nat z.natAbs
    rw [show ((z.natAbs : Nat) : Int) = z by omega] at this
    exact ⟨by omega, this⟩
/-- A canonical whole number is read as it in both schemas. -/
theorem can_txt (z : Int) : form (txt z) ≠ 0 ∧ sgn (isNeg (txt z)) (num (body (txt z))) = z ∧ iv (txt z) = some z := by
  obtain ⟨h1, h2⟩ := can_nat z.natAbs
  have hk := body_dig (dg_ok z.natAbs)
  have hb : body (txt z) = dg z.natAbs ∧ sgn (isNeg (txt z)) z.natAbs = z := by
    rcases txt_cases z with ⟨hz, e⟩ | ⟨hz, e⟩
    · rw [e, hk.1, hk.2]; refine ⟨rfl, ?_⟩; show ((z.natAbs : Nat) : Int) = z; omega
    · rw [e, (body_45 _).1, (body_45 _).2]; refine ⟨rfl, ?_⟩; show -((z.natAbs : Nat) : Int) = z; omega
  refine ⟨?_, ?_, ?_⟩
  · unfold form; rw [hb.1]; exact h1
  · rw [hb.1, h2]; exact hb.2
  · have := iv_of_ok (l := txt z) (by rw [hb.1]; exact dg_ok _)
    rw [this, hb.1, dg_val, hb.2]
theorem dig_low {c : UInt8} (h : dv c < 10) : c.toNat < 64 := by have := dv_lt10 h; omega
theorem can_head (z : Int) : ∃ c r, txt z = c :: r ∧ c.toNat < 64 := by
  rcases txt_cases z with ⟨_, e⟩ | ⟨_, e⟩
  · obtain ⟨hne, hal⟩ := (okD_iff _ _).1 (dg_ok z.natAbs)
    rw [e]
    cases h : dg z.natAbs with
    | nil => exact absurd h hne
    | cons c r => rw [h] at hal; exact ⟨c, r, rfl, dig_low ((allD_iff _ _).1 hal c (by simp))⟩
  · exact ⟨_, _, e, by decide⟩
theorem tl_txt (z : Int) : tl (101 :: (pls (txt z) ++ txt z)) = some z := by
  rw [tl, if_pos (Or.inl rfl)]
  rcases txt_cases z with ⟨h, e⟩ | ⟨h, e⟩
  · have hp : pls (txt z) = [43] := by unfold pls; rw [txt_isNeg, decide_eq_false (by omega)]; rfl
    rw [hp, e, List.singleton_append, tlE, if_pos ⟨Or.inl rfl, dg_ok _⟩, dg_val]
    congr 1
    show ((z.natAbs : Nat) : Int) = z
    omega
  · have hp : pls (txt z) = [] := by unfold pls; rw [txt_isNeg, decide_eq_true h]; rfl
    rw [hp, e, List.nil_append, tlE, if_pos ⟨Or.inr rfl, dg_ok _⟩, dg_val]
    congr 1
    show -((z.natAbs : Nat) : Int) = z
    omega
theorem prt_eq (n : Bool) (D : List UInt8) (z : Int) : prt 0 n D (txt z) = mns n ++ (D ++ 46 :: (101 :: (pls (txt z) ++ txt z))) := by
  unfold prt; rw [if_neg (by decide), if_neg (by decide)]
theorem prt_body (n : Bool) (D : List UInt8) (z : Int) (hD : okD 10 D = true) : isNeg (prt 0 n D (txt z)) = n ∧ body (prt 0 n D (txt z)) = D ++ 46 :: (101 :: (pls (txt z) ++ txt z)) := by
  obtain ⟨hne, hal⟩ := (okD_iff _ _).1 hD
  rw [prt_eq]
  cases n
  · cases D with
    | nil => exact absurd rfl hne
    | cons c r =>
      rw [allD_cons, Bool.and_eq_true, decide_eq_true_eq] at hal
      exact body_else _ (by intro e; rw [e, dv43] at hal; omega) (by intro e; rw [e, dv45] at hal; omega)
  · exact body_45 _
/-- What is printed of a decimal: the old schema reads it as it. -/
theorem prt_old (n : Bool) (D : List UInt8) (z : Int) (hD : okD 10 D = true) :
    form (prt 0 n D (txt z)) = 0 ∧ flo (prt 0 n D (txt z)) = fl (body (prt 0 n D (txt z))) ∧ fl (body (prt 0 n D (txt z))) = 1 ∧ Parts (body (prt 0 n D (txt z))) D [] z := by
  obtain ⟨hb1, hb2⟩ := prt_body n D z hD
  obtain ⟨hne, hal⟩ := (okD_iff _ _).1 hD
  cases D with
  | nil => exact absurd rfl hne
  | cons c P =>
    have ha := hal
    rw [allD_cons, Bool.and_eq_true, decide_eq_true_eq] at ha
    have hP : ∀ x ∈ P, x ≠ 46 := fun x hx => ne46 ((allD_iff _ _).1 ha.2 x hx) (by omega)
    have hc : c ≠ 46 := ne46 ha.1 (by omega)
    have hg : gone P = P := gone_no _ (fun x hx => ne95 ((allD_iff _ _).1 ha.2 x hx) (by omega))
    have hdu : du 101 = false := by decide
    obtain ⟨hf1, hf2⟩ := fr_no (c := 101) (r := pls (txt z) ++ txt z) hdu
    have ht := tl_txt z
    have hfl : fl ((c :: P) ++ 46 :: (101 :: (pls (txt z) ++ txt z))) = 1 := by
      have := fl_yes c P (101 :: (pls (txt z) ++ txt z)) hc hP
      rw [this, if_pos ha.1, if_pos (fA_dig ha.2), hf2, ht]; rfl
    have hform : form (prt 0 n (c :: P) (txt z)) = 0 := by
      unfold form
      rw [hb2]
      by_cases h : fB ((c :: P) ++ 46 :: (101 :: (pls (txt z) ++ txt z))) = 0
      · exact h
      · exact absurd (by simp) (form_no46 _ h)
    refine ⟨hform, ?_, by rw [hb2]; exact hfl, ?_⟩
    · unfold flo
      rw [if_neg, if_neg]
      · rw [hb2]; intro k
        simp only [infs, List.mem_cons, List.not_mem_nil, or_false, List.cons_append] at k
        rcases k with k | k | k <;> exact hc (List.cons.inj k).1
      · intro k
        rw [prt_eq] at k
        simp only [nans, List.mem_cons, List.not_mem_nil, or_false, List.cons_append] at k
        cases n
        · rcases k with k | k | k <;> exact hc (List.cons.inj k).1
        · rcases k with k | k | k <;> exact absurd (List.cons.inj k).1 (by decide)
    · rw [hb2]
      exact Or.inl ⟨hfl, c, P, _, rfl, hc, hP, ha.1, by rw [hg]; exact ha.2, by rw [hg], by rw [hf1]; rfl, by rw [hf2]; exact ht⟩
theorem prt_head (n : Bool) (D : List UInt8) (z : Int) (hD : okD 10 D = true) : ∃ c r, prt 0 n D (txt z) = c :: r ∧ c.toNat < 64 := by
  rw [prt_eq]
  cases n
  · obtain ⟨hne, hal⟩ := (okD_iff _ _).1 hD
    cases D with
    | nil => exact absurd rfl hne
    | cons c r => exact ⟨c, _, rfl, dig_low ((allD_iff _ _).1 hal c (by simp))⟩
  · exact ⟨45, _, rfl, by decide⟩
/-- What begins with a sign below the letters is no word. -/
theorem word_no {l : List UInt8} (h : ∃ c r, l = c :: r ∧ c.toNat < 64) : l ∉ M.wN ∧ ∀ b, (M.bo b l).2 = false := by
  obtain ⟨c, r, rfl, hc⟩ := h
  have hT : c :: r ∉ M.wT := by
    intro k; simp only [M.wT, List.mem_cons, List.not_mem_nil, or_false] at k
    rcases k with k | k | k <;> (rw [(List.cons.inj k).1] at hc; exact absurd hc (by decide))
  have hF : c :: r ∉ M.wF := by
    intro k; simp only [M.wF, List.mem_cons, List.not_mem_nil, or_false] at k
    rcases k with k | k | k <;> (rw [(List.cons.inj k).1] at hc; exact absurd hc (by decide))
  have hoT : c :: r ∉ M.oT := by
    intro k; simp only [M.oT, List.mem_cons, List.not_mem_nil, or_false] at k
    rcases k with k | k | k | k | k | k | k | k <;> (rw [(List.cons.inj k).1] at hc; exact absurd hc (by decide))
  have hoF : c :: r ∉ M.oF := by
    intro k; simp only [M.oF, List.mem_cons, List.not_mem_nil, or_false] at k
    rcases k with k | k | k | k | k | k | k | k <;> (rw [(List.cons.inj k).1] at hc; exact absurd hc (by decide))
  refine ⟨?_, fun b => ?_⟩
  · intro k; simp only [M.wN, List.mem_cons, List.not_mem_nil, or_false] at k
    rcases k with k | k | k | k | k
    · cases k
    all_goals (rw [(List.cons.inj k).1] at hc; exact absurd hc (by decide))
  · unfold M.bo
    rw [decide_eq_false hT, decide_eq_false hF, decide_eq_false hoT, decide_eq_false hoF]
    cases b <;> rfl
theorem dB_dv {c : UInt8} (h : S10.M.dB c = true) : dv c < 10 := by
  unfold S10.M.dB at h
  simp only [Bool.and_eq_true, decide_eq_true_eq] at h
  rw [dv_dec h.1 h.2]; omega
theorem cnt_four {l : List UInt8} (h : S10.M.cnt 4 l = 4) : ∃ c0 c1 c2 c3 r, l = c0 :: c1 :: c2 :: c3 :: r ∧ dv c0 < 10 ∧ dv c1 < 10 ∧ dv c2 < 10 ∧ dv c3 < 10 := by
  match l, h with
  | [], h => exact absurd h (by simp [S10.M.cnt])
  | [c0], h => simp only [S10.M.cnt] at h; split at h <;> omega
  | [c0, c1], h => simp only [S10.M.cnt] at h; split at h <;> (try split at h) <;> omega
  | [c0, c1, c2], h => simp only [S10.M.cnt] at h; split at h <;> (try split at h) <;> (try split at h) <;> omega
  | c0 :: c1 :: c2 :: c3 :: r, h =>
    simp only [S10.M.cnt] at h
    split at h
    · rename_i h0
      split at h
      · rename_i h1
        split at h
        · rename_i h2
          split at h
          · rename_i h3
            exact ⟨c0, c1, c2, c3, r, rfl, dB_dv h0, dB_dv h1, dB_dv h2, dB_dv h3⟩
          · omega
        · omega
      · omega
    · omega
/-- A moment's text begins with four digits and a '-'. -/
theorem of_head {l a : List UInt8} (h : S10.M.ofS l = some a) : ∃ c0 c1 c2 c3 r, l = c0 :: c1 :: c2 :: c3 :: 45 :: r ∧ dv c0 < 10 ∧ dv c1 < 10 ∧ dv c2 < 10 ∧ dv c3 < 10 := by
  unfold S10.M.ofS at h
  split at h
  · cases h
  · rename_i X hX
    unfold S10.M.rd at hX
    split at hX
    · rename_i h4
      split at hX
      · rename_i h5
        obtain ⟨c0, c1, c2, c3, r, rfl, d0, d1, d2, d3⟩ := cnt_four h4
        cases r with
        | nil => simp at h5
        | cons c r =>
          simp at h5
          subst h5
          exact ⟨c0, c1, c2, c3, r, rfl, d0, d1, d2, d3⟩
      · cases hX
    · cases hX
theorem moment_no {c0 c1 c2 c3 : UInt8} (r : List UInt8) (d0 : dv c0 < 10) (d1 : dv c1 < 10) (d2 : dv c2 < 10) (d3 : dv c3 < 10) :
    form (c0 :: c1 :: c2 :: c3 :: 45 :: r) = 0 ∧ flo (c0 :: c1 :: c2 :: c3 :: 45 :: r) = 0 := by
  have hb : body (c0 :: c1 :: c2 :: c3 :: 45 :: r) = c0 :: c1 :: c2 :: c3 :: 45 :: r := (body_else _ (by intro e; rw [e, dv43] at d0; omega) (by intro e; rw [e, dv45] at d0; omega)).2
  have n45 : ¬ dv 45 < 10 := by decide
  have hA : fA (c1 :: c2 :: c3 :: 45 :: r) = 0 := by
    rw [fA, if_pos (Or.inr d1), fA, if_pos (Or.inr d2), fA, if_pos (Or.inr d3), fA, if_neg (by decide), if_neg (by decide)]
  have hW : pW (c1 :: c2 :: c3 :: 45 :: r) = 0 := by
    rw [pW, if_pos (Or.inr d1), pW, if_pos (Or.inr d2), pW, if_pos (Or.inr d3), pW, if_neg (by decide), if_neg (by decide), if_neg (by decide)]
  have h46 : c0 ≠ 46 := ne46 d0 (by omega)
  constructor
  · unfold form
    rw [hb, fB]
    split
    · rw [fN, if_neg (by intro e; rw [e] at d1; exact absurd d1 (by decide)), if_neg (by intro e; rw [e] at d1; exact absurd d1 (by decide)), fG_eq, if_neg]
      intro k
      have := (allD_iff _ _).1 ((okD_iff _ _).1 k).2 45 (mem_gone.2 ⟨by simp, by decide⟩)
      exact absurd this (by decide)
    · first | exact hA | rw [if_pos d0, hA]
  · unfold flo
    rw [if_neg, hb, if_neg]
    · rw [fl, if_neg h46, if_pos d0, hW]
    · intro k
      simp only [infs, List.mem_cons, List.not_mem_nil, or_false] at k
      rcases k with k | k | k <;> exact h46 (List.cons.inj k).1
    · intro k
      simp only [nans, List.mem_cons, List.not_mem_nil, or_false] at k
      rcases k with k | k | k <;> exact h46 (List.cons.inj k).1
end M
end Go.Proofs.YtipgipgehnhgkaaGreatDoor
