/- The law Num12Prints: its walk. -/
import Derived.Test.YtipgipgehnhgkaaGreatDoorBv
import Derived.Test.YtipgipgehnhgkaaGreatDoorBo
set_option linter.unusedVariables false
namespace Go.Proofs.YtipgipgehnhgkaaGreatDoor
open Go.RowKit
namespace M
theorem pw_txt (z : Int) : pw (101 :: (pls (txt z) ++ txt z)) = some z := by
  rw [pw, if_pos (Or.inl rfl), pwE]
  by_cases h : z < 0
  · have e : txt z = 45 :: dg z.natAbs := by
      have h1 := isNeg_split (txt z) (by rw [txt_isNeg]; exact decide_eq_true h)
      rw [txt_unsign] at h1; exact h1
    have hp : pls (txt z) = [] := by unfold pls; rw [txt_isNeg, decide_eq_true h]; rfl
    rw [hp, e, List.nil_append, (body_45 _).2, (body_45 _).1, if_pos (dg_ok _), dg_val]
    congr 1
    show -((z.natAbs : Nat) : Int) = z
    omega
  · have hp : pls (txt z) = [43] := by unfold pls; rw [txt_isNeg, decide_eq_false h]; rfl
    have e : txt z = dg z.natAbs := by
      have := txt_nat z.natAbs
      rw [show ((z.natAbs : Nat) : Int) = z by omega] at this; exact this
    rw [hp, e, List.singleton_append, (body_43 _).2, (body_43 _).1, if_pos (dg_ok _), dg_val]
    congr 1
    show ((z.natAbs : Nat) : Int) = z
    omega
/-- What is printed of a decimal is read as it. -/
theorem prt_read (n : Bool) (D : List UInt8) (z : Int) (hD : okD 10 D = true) : isNeg (prt 0 n D (txt z)) = n ∧ gl (body (prt 0 n D (txt z))) = 4 ∧ Num (body (prt 0 n D (txt z))) D [] (D ++ [46]) (101 :: (pls (txt z) ++ txt z)) z := by
  have hp : prt 0 n D (txt z) = mns n ++ (D ++ 46 :: ([] ++ 101 :: (pls (txt z) ++ txt z))) := by unfold prt; rw [if_neg (by decide), if_neg (by decide)]; rfl
  obtain ⟨hne, hal⟩ := (okD_iff _ _).1 hD
  have hx := pw_txt z
  obtain ⟨g1, g2, g3, g4⟩ := num_dot D [] (101 :: (pls (txt z) ++ txt z)) z hal rfl (by simpa using hne) hx
  have hb : isNeg (prt 0 n D (txt z)) = n ∧ body (prt 0 n D (txt z)) = D ++ 46 :: ([] ++ 101 :: (pls (txt z) ++ txt z)) := by
    rw [hp]
    cases n
    · cases D with
      | nil => exact absurd rfl hne
      | cons c r =>
        rw [allD_cons, Bool.and_eq_true, decide_eq_true_eq] at hal
        have h43 : c ≠ 43 := by intro e; rw [e, dv43] at hal; omega
        have h45 : c ≠ 45 := by intro e; rw [e, dv45] at hal; omega
        exact body_else _ h43 h45
    · exact body_45 _
  rw [hb.2]
  refine ⟨hb.1, g1, ⟨by simp, Or.inr rfl, hal, rfl, by simpa using hne, hx⟩⟩
end M
end Go.Proofs.YtipgipgehnhgkaaGreatDoor
