/- What Of answers of digits, a point, digits, a power; of parts to the base 60. -/
import Derived.Test.YtiainpdfidgcfaaGreatDoorGa
import Derived.Test.YtiainpdfidgcfaaGreatDoorWn
set_option linter.unusedVariables false
namespace Go.Proofs.YtiainpdfidgcfaaGreatDoor
open Go.RowKit
namespace M

theorem tl_head {X : List UInt8} {z : Int} (h : tl X = some z) : X = [] ∨ ∃ e r, X = e :: r ∧ (e = 101 ∨ e = 69) := by
  cases X with
  | nil => exact Or.inl rfl
  | cons e r =>
    rw [tl] at h
    by_cases he : e = 101 ∨ e = 69
    · exact Or.inr ⟨e, r, rfl, he⟩
    · rw [if_neg he] at h; cases h
theorem fr_app (A X : List UInt8) (hA : ∀ c ∈ A, du c = true) (hX : X = [] ∨ ∃ e r, X = e :: r ∧ (e = 101 ∨ e = 69)) : fr (A ++ X) = A ∧ bk (A ++ X) = X := by
  induction A with
  | nil =>
    rcases hX with rfl | ⟨e, r, rfl, he⟩
    · exact ⟨rfl, rfl⟩
    · refine fr_no (du_no ?_)
      rcases he with rfl | rfl <;> decide
  | cons c A ih =>
    have h := ih fun x hx => hA x (by simp [hx])
    rw [List.cons_append, (fr_yes (hA c (by simp))).1, (fr_yes (hA c (by simp))).2, h.1, h.2]
    exact ⟨rfl, rfl⟩
theorem du_46 {l : List UInt8} (h : ∀ c ∈ l, du c = true) : ∀ c ∈ l, c ≠ 46 := by
  intro c hc e
  have := h c hc
  rw [e] at this
  exact absurd this (by decide)
/-- Form 1, put together. -/
theorem parts_one (c : UInt8) (P A X : List UInt8) (z : Int) (hc : dv c < 10) (hP : ∀ x ∈ P, du x = true) (hA : ∀ x ∈ A, du x = true) (hX : tl X = some z) : Parts (c :: P ++ 46 :: (A ++ X)) (c :: gone P) (gone A) z := by
  obtain ⟨e1, e2⟩ := fr_app A X hA (tl_head hX)
  have h46 : c ≠ 46 := ne46 hc (by omega)
  have ha := gone_du hP
  refine Or.inl ⟨?_, c, P, A ++ X, rfl, h46, du_46 hP, hc, ha, rfl, by rw [e1], by rw [e2]; exact hX⟩
  rw [fl_yes c P _ h46 (du_46 hP), if_pos hc, e2, hX]
  rcases fA_cases P with ⟨h5, _⟩ | ⟨_, hb, _⟩ | ⟨_, hb⟩
  · rw [if_pos h5]; rfl
  · rw [ha] at hb; cases hb
  · rw [ha] at hb; cases hb
/-- Form 2, put together. -/
theorem parts_two (A X : List UInt8) (z : Int) (hA : ∀ x ∈ A, du x = true) (hg : gone A ≠ []) (hX : tl X = some z) : Parts (46 :: (A ++ X)) [] (gone A) z := by
  obtain ⟨e1, e2⟩ := fr_app A X hA (tl_head hX)
  refine Or.inr (Or.inl ⟨?_, A ++ X, rfl, by rw [e1]; exact hg, rfl, by rw [e1], by rw [e2]; exact hX⟩)
  rw [fl_two, e1, if_neg hg, e2, hX]; rfl
/-- Form 3, put together. -/
theorem parts_six (c : UInt8) (D R A : List UInt8) (hc : dv c < 10) (hD : ∀ x ∈ D, du x = true) (hR : fS 1 R = 6) (hA : ∀ x ∈ A, du x = true) : Parts (c :: (D ++ 58 :: R) ++ 46 :: A) (dg (sx (val 10 (c :: gone D)) 0 R)) (gone A) 0 := by
  have e := fr_app A [] hA (Or.inl rfl)
  rw [List.append_nil] at e
  obtain ⟨e1, e2⟩ := e
  have h46 : c ≠ 46 := ne46 hc (by omega)
  have ha := gone_du hD
  have hR46 : ∀ x ∈ R, x ≠ 46 := fun x hx => by
    rcases fS_chars R 1 (by omega) x hx with k | rfl
    · exact ne46 k (by omega)
    · decide
  have hD58 : ∀ x ∈ D, x ≠ 58 := fun x hx k => by
    have := hD x hx
    rw [k] at this
    exact absurd this (by decide)
  have hP : ∀ x ∈ D ++ 58 :: R, x ≠ 46 := by
    intro x hx
    rcases List.mem_append.1 hx with hx | hx
    · exact du_46 hD x hx
    · rcases List.mem_cons.1 hx with rfl | hx
      · decide
      · exact hR46 x hx
  have h6 : fA (D ++ 58 :: R) = 6 := by rw [fA_yes D R hD58, if_pos ha, hR]
  refine Or.inr (Or.inr ⟨?_, c, D, R, A, rfl, h46, hP, hc, hD58, ha, hR, e2, rfl, by rw [e1], rfl⟩)
  rw [fl_yes c _ A h46 hP, if_pos hc, if_neg (by omega), if_pos h6, if_pos e2]
theorem flo_of_fl {l : List UInt8} (h : fl (body l) ≠ 0) : flo l = fl (body l) := by
  unfold flo
  by_cases h1 : l ∈ nans
  · obtain ⟨_, _, _, h2, h3⟩ := nan_cut h1
    rw [h3, h2] at h; exact absurd rfl h
  · rw [if_neg h1]
    by_cases h2 : body l ∈ infs
    · simp only [infs, List.mem_cons, List.not_mem_nil, or_false] at h2
      rcases h2 with h2 | h2 | h2 <;> rw [h2] at h <;> exact absurd (by decide) h
    · rw [if_neg h2]
theorem parts_fl {L W F : List UInt8} {z : Int} (h : Parts L W F z) : fl L ≠ 0 := by
  rcases h with ⟨h, _⟩ | ⟨h, _⟩ | ⟨h, _⟩ <;> omega
end M
/-- Of is Make of the parts. -/
theorem of_run (s : ByteArray) (w : World) (he : Env w) (hs : s.size ≤ 100) (W F : List UInt8) (z : Int) (hP : M.Parts (M.body s.data.toList) W F z) (k : Int) (n ok : Bool) (D E : ByteArray)
    (cM : ∀ W', Tab W' → Calls Tryz.prog 23 #[.bool (M.isNeg s.data.toList), .string (bA W), .string (bA F), .string (tx z)] W' fun e w' => e = .returned (.tuple #[dV k n D E, .bool ok]) ∧ Below W'.heap.size W' w') :
    Calls Tryz.prog 9 #[.string s] w fun e w' => e = .returned (.tuple #[dV k n D E, .bool ok]) ∧ Below w.heap.size w w' := by
  have h0 := M.parts_fl hP
  have hf := M.flo_of_fl h0
  obtain ⟨H, X, hS⟩ := M.shape hP
  rcases M.fl_le3 _ h0 with h | h | h
  · exact fof_plain s w he (by omega) W F H X z hS hf (by omega) k n ok D E cM
  · exact fof_plain s w he (by omega) W F H X z hS hf (by omega) k n ok D E cM
  · exact fof_six s w he (by omega) W F H X z hS hf (by omega) k n ok D E cM
theorem digs_du (l : List UInt8) : ∀ x ∈ digs l, M.du x = true := fun x hx => (M.du_iff x).2 (Or.inr ((M.allD_iff _ _).1 (digs_all l) x hx))
theorem digs_gone (l : List UInt8) : M.gone (digs l) = digs l := M.gone_no _ fun x hx => M.ne95 ((M.allD_iff _ _).1 (digs_all l) x hx) (by omega)
theorem body_dig {c : UInt8} {r : List UInt8} (hc : M.dv c < 10) : M.body (c :: r) = c :: r ∧ M.isNeg (c :: r) = false := by
  have h43 : c ≠ 43 := by intro e; rw [e, M.dv43] at hc; omega
  have h45 : c ≠ 45 := by intro e; rw [e, M.dv45] at hc; omega
  exact ⟨(head_else h43 h45).2, (head_else h43 h45).1⟩
theorem body_46 (r : List UInt8) : M.body (46 :: r) = 46 :: r ∧ M.isNeg (46 :: r) = false := ⟨(head_else (by decide) (by decide)).2, (head_else (by decide) (by decide)).1⟩
end Go.Proofs.YtiainpdfidgcfaaGreatDoor
