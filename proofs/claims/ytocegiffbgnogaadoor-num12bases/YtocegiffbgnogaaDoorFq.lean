/- That float11's Of and the document's Float11 answer the same. -/
import Derived.Test.YtocegiffbgnogaaDoorRj
import Derived.Test.YtocegiffbgnogaaDoorFi
set_option linter.unusedVariables false
namespace Go.Proofs.YtocegiffbgnogaaDoor
open Go.RowKit

/-- Both sides' Make answer the same, and that there is a decimal. -/
theorem make_both (neg : Bool) (A F : ByteArray) (z : Int) (hA : A.size ≤ 400) (hF : F.size ≤ 400) (hX : (tx z).size ≤ 101) (h1 : M.okD 10 (A.data.toList ++ F.data.toList) = true) :
    ∃ (k : Int) (n : Bool) (D E : ByteArray), D.size ≤ 1000 ∧ E.size ≤ 1000 ∧ (∀ W, Tab W → Calls Tryd.prog 26 #[.bool neg, .string A, .string F, .string (tx z)] W fun e w' => e = .returned (.tuple #[dV k n D E, .bool true]) ∧ Below W.heap.size W w') ∧ (∀ W, Calls Tryd.prog 12 #[.bool neg, .string A, .string F, .string (tx z)] W fun e w' => e = .returned (.tuple #[dV k n D E, .bool true]) ∧ Below W.heap.size W w') := by
  by_cases hv : M.val 10 (A.data.toList ++ F.data.toList) = 0
  · exact ⟨_, _, _, _, (by decide), (by decide), fun W _ => make_zero neg A F z W (by omega) (by omega) (by omega) h1 hv, fun W => rmake_zero neg A F z W (by omega) (by omega) (by omega) h1 hv⟩
  · obtain ⟨c, t, hc, hct⟩ := M.exists_ct _ (Nat.pos_of_ne_zero hv)
    obtain ⟨m, hm⟩ := M.ct_of_val ((M.okD_iff _ _).1 h1).2 hc hct
    have h3 := congrArg List.length hm
    simp only [List.length_append, List.length_replicate, ← sz_list] at h3
    have h4 := M.txt_abs z
    rw [← tx_size] at h4
    have h5 : 10 ^ (tx z).size ≤ 10 ^ 101 := Nat.pow_le_pow_right (by omega) hX
    have h6 : (10 : Nat) ^ 102 = 10 ^ 101 * 10 := Nat.pow_succ ..
    have h7 : 1000 ≤ 10 ^ 101 := Nat.le_trans (show 1000 ≤ 10 ^ 3 by decide) (Nat.pow_le_pow_right (by omega) (by omega))
    have h8 := tx_len (z + ((t : Int) - F.size)) 102 (by omega) (by generalize (10 : Nat) ^ 102 = P at *; generalize (10 : Nat) ^ 101 = Q at *; omega)
    exact ⟨_, _, _, _, by rw [bA_size]; omega, by omega, fun W hW => make_yes neg A F z c t W hW (by omega) (by omega) (by omega) h1 hc hct, fun W => rmake_yes neg A F z c t W (by omega) (by omega) (by omega) h1 hc hct⟩
theorem body_less {l : List UInt8} (h : l ∉ M.nans) (hb : M.body l ∈ M.nans) : (M.body l).length < l.length := by
  match l, h, hb with
  | [], _, hb => exact absurd hb (by decide)
  | c :: r, h, hb =>
    have key : M.body (c :: r) = r ∨ M.body (c :: r) = c :: r := by
      by_cases h1 : c = 43
      · left; exact (head_43 h1).2
      · by_cases h2 : c = 45
        · left; exact (head_45 h2).2
        · right; exact (head_else h1 h2).2
    rcases key with e | e
    · rw [e]; simp
    · rw [e] at hb; exact absurd hb h
end Go.Proofs.YtocegiffbgnogaaDoor
