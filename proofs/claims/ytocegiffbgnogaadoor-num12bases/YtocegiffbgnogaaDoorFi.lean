/- Walk of float11's Of. -/
import Derived.Test.YtocegiffbgnogaaDoorFh
set_option linter.unusedVariables false
namespace Go.Proofs.YtocegiffbgnogaaDoor
open Go.RowKit
namespace M
theorem fS_chars (R : List UInt8) : ∀ k, fS k R ≠ 0 → ∀ c ∈ R, dv c < 10 ∨ c = 58 := by
  induction R with
  | nil => intro k h c hc; cases hc
  | cons b R ih =>
    intro k h
    have key : (dv b < 10 ∨ b = 58) ∧ ∃ k', fS k' R ≠ 0 := by
      rw [fS] at h
      by_cases hk : k = 1
      · rw [if_pos hk] at h
        by_cases h6 : dv b < 6
        · rw [if_pos h6] at h; exact ⟨Or.inl (by omega), _, h⟩
        · rw [if_neg h6] at h
          by_cases h10 : dv b < 10
          · rw [if_pos h10] at h; exact ⟨Or.inl h10, _, h⟩
          · rw [if_neg h10] at h; exact absurd rfl h
      · rw [if_neg hk] at h
        by_cases h2 : k = 2 ∧ dv b < 10
        · rw [if_pos h2] at h; exact ⟨Or.inl h2.2, _, h⟩
        · rw [if_neg h2] at h
          by_cases h58 : b = 58
          · rw [if_pos h58] at h; exact ⟨Or.inr h58, _, h⟩
          · rw [if_neg h58] at h; exact absurd rfl h
    obtain ⟨hb, k', hk⟩ := key
    intro c hc
    rcases List.mem_cons.1 hc with rfl | hc
    · exact hb
    · exact ih k' hk c hc
/-- A sign that a power's letter is not. -/
def lo (c : UInt8) : Prop := c ≠ 101 ∧ c ≠ 69 ∧ c.toNat < 128
theorem lo_dig {c : UInt8} (h : dv c < 10) : lo c := by
  refine ⟨?_, ?_, dv_low h⟩
  · intro e; rw [e, dv101] at h; omega
  · intro e; rw [e, dv69] at h; omega
theorem lo_46 : lo 46 := by unfold lo; decide
theorem lo_58 : lo 58 := by unfold lo; decide
theorem tl_gone {X : List UInt8} {z : Int} (h : tl X = some z) : gone X = X := by
  refine gone_no X ?_
  cases X with
  | nil => intro c hc; cases hc
  | cons e r =>
    rw [tl] at h
    by_cases he : e = 101 ∨ e = 69
    · rw [if_pos he] at h
      cases r with
      | nil => rw [tlE] at h; cases h
      | cons g ds =>
        rw [tlE] at h
        by_cases hg : (g = 43 ∨ g = 45) ∧ okD 10 ds = true
        · have hall := (allD_iff _ _).1 ((okD_iff _ _).1 hg.2).2
          intro c hc
          rcases List.mem_cons.1 hc with rfl | hc
          · rcases he with rfl | rfl <;> decide
          · rcases List.mem_cons.1 hc with rfl | hc
            · rcases hg.1 with rfl | rfl <;> decide
            · exact ne95 (hall c hc) (by omega)
        · rw [if_neg hg] at h; cases h
    · rw [if_neg he] at h; cases h
/-- The text of a form without its gaps: ahead of the point, behind it, the power. -/
structure Shape (L W F H X : List UInt8) (z : Int) : Prop where
  eq : gone L = (H ++ 46 :: F) ++ X
  low : ∀ c ∈ H ++ 46 :: F, c ≠ 101 ∧ c ≠ 69 ∧ c.toNat < 128
  no46 : ∀ c ∈ H, c ≠ 46
  pow : tl X = some z
  digF : allD 10 F = true
  plain : fl L ≠ 3 → W = H ∧ allD 10 H = true ∧ (fl L = 1 ↔ H ≠ []) ∧ (H = [] → F ≠ [])
  six : fl L = 3 → ∃ D R, H = D ++ 58 :: R ∧ okD 10 D = true ∧ fS 1 R = 6 ∧ W = dg (sx (val 10 D) 0 R) ∧ z = 0 ∧ X = []
  le : (H ++ 46 :: F).length + X.length ≤ L.length
theorem fl_le3 (L : List UInt8) (h : fl L ≠ 0) : fl L = 1 ∨ fl L = 2 ∨ fl L = 3 := by
  obtain ⟨W, F, z, hp⟩ := isParts L h
  rcases hp with ⟨h, _⟩ | ⟨h, _⟩ | ⟨h, _⟩
  · exact Or.inl h
  · exact Or.inr (Or.inl h)
  · exact Or.inr (Or.inr h)
theorem shape {L W F : List UInt8} {z : Int} (h : Parts L W F z) : ∃ H X, Shape L W F H X z := by
  have hlen := gone_len L
  rcases h with ⟨h1, c, P, l, rfl, hc, hP, hd, ha, rfl, rfl, ht⟩ | ⟨h1, l, rfl, hg, rfl, rfl, ht⟩ | ⟨h1, c, D, R, l, rfl, hc, hP, hd, hD, ha, hR, hbk, rfl, rfl, rfl⟩
  · have hF := gone_du (fr_du l)
    have h95 : c ≠ 95 := ne95 hd (by omega)
    have e : gone (c :: P ++ 46 :: l) = ((c :: gone P) ++ 46 :: gone (fr l)) ++ bk l := by
      rw [gone_append, gone_ne P h95, gone_ne l (by decide), ← tl_gone ht]
      conv => lhs; rw [← fr_bk l]
      rw [gone_append, tl_gone ht]; simp
    have hH : allD 10 (c :: gone P) = true := by rw [allD_cons, decide_eq_true hd, ha]; rfl
    refine ⟨c :: gone P, bk l, e, ?_, ?_, ht, hF, fun _ => ⟨rfl, hH, ⟨fun _ => by simp, fun _ => h1⟩, fun k => by cases k⟩, fun k => absurd (h1.symm.trans k) (by omega), ?_⟩
    · intro x hx
      rcases List.mem_append.1 hx with hx | hx
      · exact lo_dig ((allD_iff _ _).1 hH x hx)
      · rcases List.mem_cons.1 hx with rfl | hx
        · exact lo_46
        · exact lo_dig ((allD_iff _ _).1 hF x hx)
    · intro x hx; exact ne46 ((allD_iff _ _).1 hH x hx) (by omega)
    · rw [e, List.length_append] at hlen; exact hlen
  · have hF := gone_du (fr_du l)
    have e : gone (46 :: l) = ([] ++ 46 :: gone (fr l)) ++ bk l := by
      rw [gone_ne l (by decide), ← tl_gone ht]
      conv => lhs; rw [← fr_bk l]
      rw [gone_append, tl_gone ht]; rfl
    refine ⟨[], bk l, e, ?_, ?_, ht, hF, fun _ => ⟨rfl, rfl, ⟨fun k => absurd (h1.symm.trans k) (by omega), fun k => absurd rfl k⟩, fun _ => hg⟩, fun k => absurd (h1.symm.trans k) (by omega), ?_⟩
    · intro x hx
      rcases List.mem_cons.1 hx with rfl | hx
      · exact lo_46
      · exact lo_dig ((allD_iff _ _).1 hF x hx)
    · intro x hx; cases hx
    · rw [e, List.length_append] at hlen; exact hlen
  · have hF := gone_du (fr_du l)
    have h95 : c ≠ 95 := ne95 hd (by omega)
    have hfr : fr l = l := by have := fr_bk l; rw [hbk, List.append_nil] at this; exact this
    have hRg : gone R = R := fS_gone (k := 1) (by omega)
    have e : gone (c :: (D ++ 58 :: R) ++ 46 :: l) = (((c :: gone D) ++ 58 :: R) ++ 46 :: gone (fr l)) ++ [] := by
      rw [gone_append, gone_ne _ h95, gone_append, gone_ne R (by decide), gone_ne l (by decide), hRg, hfr]; simp
    have hH : allD 10 (c :: gone D) = true := by rw [allD_cons, decide_eq_true hd, ha]; rfl
    have hRc := fS_chars R 1 (by omega)
    refine ⟨(c :: gone D) ++ 58 :: R, [], e, ?_, ?_, rfl, hF, fun k => absurd h1 k, fun _ => ⟨c :: gone D, R, rfl, ?_, hR, rfl, rfl, rfl⟩, ?_⟩
    · intro x hx
      rcases List.mem_append.1 hx with hx | hx
      · rcases List.mem_append.1 hx with hx | hx
        · exact lo_dig ((allD_iff _ _).1 hH x hx)
        · rcases List.mem_cons.1 hx with rfl | hx
          · exact lo_58
          · rcases hRc x hx with h | rfl
            · exact lo_dig h
            · exact lo_58
      · rcases List.mem_cons.1 hx with rfl | hx
        · exact lo_46
        · exact lo_dig ((allD_iff _ _).1 hF x hx)
    · intro x hx
      rcases List.mem_append.1 hx with hx | hx
      · exact ne46 ((allD_iff _ _).1 hH x hx) (by omega)
      · rcases List.mem_cons.1 hx with rfl | hx
        · decide
        · rcases hRc x hx with h | rfl
          · exact ne46 h (by omega)
          · decide
    · exact (okD_iff _ _).2 ⟨by simp, hH⟩
    · rw [e, List.length_append] at hlen; exact hlen
end M
end Go.Proofs.YtocegiffbgnogaaDoor
