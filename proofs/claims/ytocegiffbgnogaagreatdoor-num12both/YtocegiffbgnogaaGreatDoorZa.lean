/- What the document's Float11 answers, whatever is asked; where both schemas read a number, it is one. -/
import Derived.Test.YtocegiffbgnogaaGreatDoorPk
import Derived.Test.YtocegiffbgnogaaGreatDoorFq
import Derived.Test.YtocegiffbgnogaaGreatDoorYe
set_option linter.unusedVariables false
namespace Go.Proofs.YtocegiffbgnogaaGreatDoor
open Go.RowKit

/-- What the document's Float11 answers of s, F its form. -/
def Old (s : ByteArray) (F : Nat) : Prop := ∃ (k : Int) (n : Bool) (D E : ByteArray),
  (∀ w, Calls Tryz.prog 8 #[.string s] w fun e w' => e = .returned (.tuple #[dV k n D E, .int .i64 (F : Nat)]) ∧ Below w.heap.size w w')
theorem body_digs {L W F X : List UInt8} (hL : L = W ++ 46 :: (F ++ X)) (hW : M.allD 10 W = true) : ∀ x ∈ W, x ≠ 46 := fun x hx => M.ne46 ((M.allD_iff _ _).1 hW x hx) (by omega)
theorem du_of_all {l : List UInt8} (h : M.allD 10 l = true) : (∀ x ∈ l, M.du x = true) ∧ M.gone l = l :=
  ⟨fun x hx => (M.du_iff x).2 (Or.inr ((M.allD_iff _ _).1 h x hx)), M.gone_no _ fun x hx => M.ne95 ((M.allD_iff _ _).1 h x hx) (by omega)⟩
/-- The old schema's form of a text that the new schema takes for a decimal with a point. -/
theorem fr_all (F X : List UInt8) (hF : M.allD 10 F = true) (hX : X = [] ∨ ∃ e r, X = e :: r ∧ (e = 101 ∨ e = 69)) : M.fr (F ++ X) = F ∧ M.bk (F ++ X) = X := by
  induction F with
  | nil =>
    rcases hX with rfl | ⟨e, r, rfl, he⟩
    · exact ⟨rfl, rfl⟩
    · refine M.fr_no (M.du_no ?_)
      rcases he with rfl | rfl <;> decide
  | cons c A ih =>
    rw [M.allD_cons, Bool.and_eq_true, decide_eq_true_eq] at hF
    have h := ih hF.2
    have hc : M.du c = true := (M.du_iff c).2 (Or.inr hF.1)
    rw [List.cons_append, (M.fr_yes hc).1, (M.fr_yes hc).2, h.1, h.2]
    exact ⟨rfl, rfl⟩
/-- The powers that the old schema reads are the new one's. -/
theorem tl_pw {X : List UInt8} {z : Int} (h : M.tl X = some z) : M.pw X = some z := by
  cases X with
  | nil => exact h
  | cons e r =>
    rw [M.tl] at h
    rw [M.pw]
    by_cases he : e = 101 ∨ e = 69
    · rw [if_pos he] at h ⊢
      cases r with
      | nil => rw [M.tlE] at h; cases h
      | cons g ds =>
        rw [M.tlE] at h
        by_cases hg : (g = 43 ∨ g = 45) ∧ M.okD 10 ds = true
        · rw [if_pos hg] at h
          rw [M.pwE]
          rcases hg.1 with rfl | rfl
          · rw [(M.body_43 ds).2, (M.body_43 ds).1, if_pos hg.2]; exact h
          · rw [(M.body_45 ds).2, (M.body_45 ds).1, if_pos hg.2]; exact h
        · rw [if_neg hg] at h; cases h
    · rw [if_neg he] at h; cases h
theorem old_none (s : ByteArray) (c : ∀ w, Calls Tryz.prog 8 #[.string s] w fun e w' => e = .returned (.tuple #[dZ, .int .i64 0]) ∧ Below w.heap.size w w') : Old s 0 := ⟨0, false, ⟨#[]⟩, ⟨#[]⟩, c⟩
/-- Make's answer, told apart. -/
theorem make_some (neg : Bool) (A F : ByteArray) (z : Int) (hA : A.size ≤ 400) (hF : F.size ≤ 400) (hX : (tx z).size ≤ 101) (h1 : M.okD 10 (A.data.toList ++ F.data.toList) = true) :
    ∃ (k : Int) (n : Bool) (D E : ByteArray), (∀ W, Tab W → Calls Tryz.prog 20 #[.bool neg, .string A, .string F, .string (tx z)] W fun e w' => e = .returned (.tuple #[dV k n D E, .bool true]) ∧ Below W.heap.size W w') ∧ (∀ W, Calls Tryz.prog 25 #[.bool neg, .string A, .string F, .string (tx z)] W fun e w' => e = .returned (.tuple #[dV k n D E, .bool true]) ∧ Below W.heap.size W w') := by
  obtain ⟨k, n, D, E, _, _, g, r⟩ := make_both neg A F z hA hF hX h1
  exact ⟨k, n, D, E, g, r⟩
theorem pw_small {X : List UInt8} {z : Int} (h : M.pw X = some z) : (tx z).size ≤ X.length + 1 := by
  rcases M.pw_head h with rfl | ⟨e, r, rfl, _, hp⟩
  · rw [M.pw] at h; obtain rfl := Option.some.inj h; rw [tx0]; decide
  · rw [M.pwE] at hp
    by_cases hd : M.okD 10 (M.body r) = true
    · rw [if_pos hd] at hp
      obtain rfl := Option.some.inj hp
      obtain ⟨hne, hal⟩ := (M.okD_iff _ _).1 hd
      have h1 := M.val_lt 10 _ hal
      have h2 := tx_len (M.sgn (M.isNeg r) (M.val 10 (M.body r))) (M.body r).length (List.length_pos_iff.2 hne) (by rw [sgn_abs]; exact h1)
      have h3 := M.body_len r
      simp only [List.length_cons]; omega
    · rw [if_neg hd] at hp; cases hp
theorem nint_any (s : ByteArray) (w : World) (hs : s.size ≤ 1000) :
    Calls Tryz.prog 5 #[.string s] w fun e w' => e = .returned (tailV (M.iv s.data.toList)) ∧ Below w.heap.size w w' := by
  cases h : M.iv s.data.toList with
  | none => exact (nint_no s w hs h).mono fun e w' k => ⟨k.1, k.2 ▸ Below.refl _ _⟩
  | some z => exact nint_yes s z w hs h
end Go.Proofs.YtocegiffbgnogaaGreatDoor
