/- That float11's Of and the document's Float11 answer the same. -/
import Derived.Test.YtocegiffbgnogaaGreatDoorRj
import Derived.Test.YtocegiffbgnogaaGreatDoorFi
import Derived.Test.YtocegiffbgnogaaGreatDoorFn
import Derived.Test.YtocegiffbgnogaaGreatDoorFo
import Derived.Test.YtocegiffbgnogaaGreatDoorFp
set_option linter.unusedVariables false
namespace Go.Proofs.YtocegiffbgnogaaGreatDoor
open Go.RowKit

theorem tl_small {X : List UInt8} {z : Int} (h : M.tl X = some z) : (tx z).size ≤ X.length + 1 := by
  cases X with
  | nil => rw [M.tl] at h; obtain rfl := Option.some.inj h; rw [tx0]; decide
  | cons e r =>
    rw [M.tl] at h
    by_cases he : e = 101 ∨ e = 69
    · rw [if_pos he] at h
      cases r with
      | nil => rw [M.tlE] at h; cases h
      | cons g ds =>
        rw [M.tlE] at h
        by_cases hg : (g = 43 ∨ g = 45) ∧ M.okD 10 ds = true
        · rw [if_pos hg] at h
          obtain rfl := Option.some.inj h
          obtain ⟨hne, hal⟩ := (M.okD_iff _ _).1 hg.2
          have h1 := M.val_lt 10 ds hal
          have h2 := tx_len (M.sgn (decide (g = 45)) (M.val 10 ds)) ds.length (List.length_pos_iff.2 hne) (by rw [sgn_abs]; exact h1)
          simp only [List.length_cons]; omega
        · rw [if_neg hg] at h; cases h
    · rw [if_neg he] at h; cases h
theorem shape_small {L W F H X : List UInt8} {z : Int} (h : M.Shape L W F H X z) (h0 : M.fl L ≠ 0) (hL : L.length ≤ 100) : (bA W).size ≤ 400 ∧ (bA F).size ≤ 400 ∧ (tx z).size ≤ 101 ∧ M.okD 10 ((bA W).data.toList ++ (bA F).data.toList) = true := by
  have hle := h.le
  simp only [List.length_append, List.length_cons] at hle
  rw [bA_size, bA_size, bA_toList, bA_toList]
  have hz := tl_small h.pow
  by_cases h3 : M.fl L = 3
  · obtain ⟨D, R, rfl, hD, hR, hW, _, _⟩ := h.six h3
    have hd := (M.okD_iff _ _).1 hD
    have hsx := M.six_lt D R hd.2
    have hw := M.dg_len_le _ _ (by omega) hsx
    rw [← hW] at hw
    simp only [List.length_append, List.length_cons] at hle
    refine ⟨by omega, by omega, by omega, ?_⟩
    rw [M.okD_iff, M.allD_append, h.digF, hW, M.dg_all]
    exact ⟨fun e => M.dg_ne _ (List.append_eq_nil_iff.1 e).1, rfl⟩
  · obtain ⟨rfl, hW, h1, h2⟩ := h.plain h3
    refine ⟨by omega, by omega, by omega, ?_⟩
    rw [M.okD_iff, M.allD_append, h.digF, hW]
    refine ⟨fun e => ?_, rfl⟩
    obtain ⟨e1, e2⟩ := List.append_eq_nil_iff.1 e
    exact h2 e1 e2
/-- Both sides' Make answer the same, and that there is a decimal. -/
theorem make_both (neg : Bool) (A F : ByteArray) (z : Int) (hA : A.size ≤ 400) (hF : F.size ≤ 400) (hX : (tx z).size ≤ 101) (h1 : M.okD 10 (A.data.toList ++ F.data.toList) = true) :
    ∃ (k : Int) (n : Bool) (D E : ByteArray), D.size ≤ 1000 ∧ E.size ≤ 1000 ∧ (∀ W, Tab W → Calls Tryz.prog 20 #[.bool neg, .string A, .string F, .string (tx z)] W fun e w' => e = .returned (.tuple #[dV k n D E, .bool true]) ∧ Below W.heap.size W w') ∧ (∀ W, Calls Tryz.prog 25 #[.bool neg, .string A, .string F, .string (tx z)] W fun e w' => e = .returned (.tuple #[dV k n D E, .bool true]) ∧ Below W.heap.size W w') := by
  by_cases hv : M.val 10 (A.data.toList ++ F.data.toList) = 0
  · exact ⟨_, _, _, _, (by decide), (by decide), fun W _ => make_zero neg A F z W (by omega) (by omega) (by omega) h1 hv, fun W => rmake_zero neg A F z W (by omega) (by omega) (by omega) h1 hv⟩
  · obtain ⟨c, t, hc, hct⟩ := M.exists_ct _ (Nat.pos_of_ne_zero hv)
    obtain ⟨m, hm⟩ := M.ct_of_val ((M.okD_iff _ _).1 h1).2 hc hct
    have h3 := congrArg List.length hm
    simp only [List.length_append, List.length_replicate, ← sz_list] at h3
    have h4 := M.txt_abs z
    rw [← tx_size] at h4
    have h5 : 10 ^ (tx z).size ≤ 10 ^ 101 := Nat.pow_le_pow_right (by omega) hX
    have h6 : (10 : Nat) ^ 102 = 10 ^ 101 * 10 := Nat.pow_succ ..
    have h7 : 1000 ≤ 10 ^ 101 := Nat.le_trans (show 1000 ≤ 10 ^ 3 by decide) (Nat.pow_le_pow_right (by omega) (by omega))
    have h8 := tx_len (z + ((t : Int) - F.size)) 102 (by omega) (by generalize (10 : Nat) ^ 102 = P at *; generalize (10 : Nat) ^ 101 = Q at *; omega)
    exact ⟨_, _, _, _, by rw [bA_size]; omega, by omega, fun W hW => make_yes neg A F z c t W hW (by omega) (by omega) (by omega) h1 hc hct, fun W => rmake_yes neg A F z c t W (by omega) (by omega) (by omega) h1 hc hct⟩
theorem body_less {l : List UInt8} (h : l ∉ M.nans) (hb : M.body l ∈ M.nans) : (M.body l).length < l.length := by
  match l, h, hb with
  | [], _, hb => exact absurd hb (by decide)
  | c :: r, h, hb =>
    have key : M.body (c :: r) = r ∨ M.body (c :: r) = c :: r := by
      by_cases h1 : c = 43
      · left; exact (head_43 h1).2
      · by_cases h2 : c = 45
        · left; exact (head_45 h2).2
        · right; exact (head_else h1 h2).2
    rcases key with e | e
    · rw [e]; simp
    · rw [e] at hb; exact absurd hb h
theorem nan_cut {l : List UInt8} (h : l ∈ M.nans) : ∃ r, l = 46 :: r ∧ M.tl (M.bk r) = none ∧ M.fl l = 0 ∧ M.body l = l := by
  simp only [M.nans, List.mem_cons, List.not_mem_nil, or_false] at h
  rcases h with rfl | rfl | rfl
  · exact ⟨_, rfl, by decide, by decide, by decide⟩
  · exact ⟨_, rfl, by decide, by decide, by decide⟩
  · exact ⟨_, rfl, by decide, by decide, by decide⟩
end Go.Proofs.YtocegiffbgnogaaGreatDoor
