/- Plain mathematics, on: encoded text that is cut short. No program in it. -/
import Derived.Test.YthlbeoakaebcpaaDoorMb
set_option linter.unusedVariables false
namespace Go.Proofs.YthlbeoakaebcpaaDoor.M
open Go.Lib

theorem by8_take (l : List UInt8) (n i : Nat) (h : i < n) : by8 (l.take n) i = by8 l i := by
  unfold by8; rw [List.getD_eq_getElem?_getD, List.getD_eq_getElem?_getD, List.getElem?_take, if_pos h]
theorem nx8_cut (c q : Nat) (hc : IsScalar c) (hq : q < (utf8 c).length) : (nx8 ((utf8 c).take q)).2 = 0 := by
  generalize hr : (utf8 c).take q = rest
  unfold nx8
  split
  · rfl
  · rename_i hb
    have hi := dN_inv rest (fun e => hb (Or.inl e)) (fun e => hb (Or.inr e))
    have hrl : rest.length ≤ q := by rw [← hr, List.length_take]; omega
    have e1 : utf8 c = utf8 (dN rest).1 ++ (rest.drop (dN rest).2 ++ (utf8 c).drop q) := by
      rw [← List.append_assoc, ← hi.2.2.1, List.take_append_drop, ← hr, List.take_append_drop]
    have h1 := dN_enc c [] hc
    rw [List.append_nil, e1, dN_enc _ _ hi.1, ← e1] at h1
    have h2 := congrArg Prod.snd h1
    simp only at h2
    have h3 := hi.2.1; have h4 := hi.2.2.2
    omega
theorem nx16_cut (be : Bool) (c q : Nat) (hc : IsScalar c) (hq : q < (utf16 be c).length) : (nx16 be ((utf16 be c).take q)).2 = 0 := by
  have hlen : ((utf16 be c).take q).length = q := by rw [List.length_take]; omega
  unfold IsScalar at hc
  unfold nx16
  rw [hlen]
  by_cases h2 : q < 2
  · rw [if_pos h2]
  rw [if_neg h2]
  have hbig : ¬ c < 65536 := by
    intro h; unfold utf16 at hq; rw [if_pos h, unit2_length] at hq; omega
  have hq4 : q < 4 := by unfold utf16 at hq; rw [if_neg hbig, List.length_append, unit2_length, unit2_length] at hq; omega
  have hrd : rd2 be ((utf16 be c).take q) 0 = 55296 + (c - 65536) / 1024 := by
    have h0 : rd2 be ((utf16 be c).take q) 0 = rd2 be (utf16 be c) 0 := by unfold rd2; rw [by8_take _ _ _ (by omega), by8_take _ _ _ (by omega)]
    rw [h0]; unfold utf16; rw [if_neg hbig]
    exact rd2_unit2 be _ _ (by omega)
  rw [hrd, if_neg (by omega), if_pos (by omega)]
theorem nx32_cut (be : Bool) (l : List UInt8) (h : l.length < 4) : (nx32 be l).2 = 0 := by unfold nx32; rw [if_pos h]
/-- A scalar that is cut short is none. -/
theorem nx_cut (e c q : Nat) (he : 1 ≤ e ∧ e ≤ 5) (hc : IsScalar c) (hq : q < (enc1 e c).length) : (nx e ((enc1 e c).take q)).2 = 0 := by
  rcases five he with rfl | rfl | rfl | rfl | rfl
  · rw [enc1_1] at hq ⊢; rw [nx_1]; exact nx8_cut c q hc hq
  · rw [enc1_2] at hq ⊢; rw [nx_2]; exact nx16_cut true c q hc hq
  · rw [enc1_3] at hq ⊢; rw [nx_3]; exact nx16_cut false c q hc hq
  · rw [enc1_4] at hq ⊢; rw [unit4_length] at hq; rw [nx_4]; exact nx32_cut true _ (by rw [List.length_take]; omega)
  · rw [enc1_5] at hq ⊢; rw [unit4_length] at hq; rw [nx_5]; exact nx32_cut false _ (by rw [List.length_take]; omega)
/-- Encoded text, cut short: whole scalars, and at most three bytes behind them at which none begins. -/
theorem cut (e : Nat) (he : 1 ≤ e ∧ e ≤ 5) (cs : List Nat) : (∀ c ∈ cs, IsScalar c) → ∀ q, q ≤ (encAll e cs).length →
    ∃ j rest, j ≤ cs.length ∧ (encAll e cs).take q = encAll e (cs.take j) ++ rest ∧ rest.length ≤ 3 ∧ (nx e rest).2 = 0 := by
  induction cs with
  | nil => intro _ q hq; exact ⟨0, [], by simp, by simp [encAll], by simp, by rw [nx_nil]⟩
  | cons c cs ih =>
    intro hs q hq
    have hc := hs c (by simp)
    have hl := enc1_length e c he
    by_cases h : q < (enc1 e c).length
    · refine ⟨0, (enc1 e c).take q, by simp, ?_, by rw [List.length_take]; omega, nx_cut e c q he hc h⟩
      rw [encAll_cons, List.take_append_of_le_length (by omega), List.take_zero, encAll_nil, List.nil_append]
    · rw [encAll_cons, List.length_append] at hq
      obtain ⟨j, rest, h1, h2, h3, h4⟩ := ih (fun x hx => hs x (by simp [hx])) (q - (enc1 e c).length) (by omega)
      refine ⟨j + 1, rest, by simp; omega, ?_, h3, h4⟩
      rw [List.take_succ_cons, encAll_cons, encAll_cons, List.append_assoc, ← h2, List.take_append, List.take_of_length_le (by omega)]
theorem encAll_take_prefix (cs : List Nat) (j : Nat) : (encAll 1 cs).take (encAll 1 (cs.take j)).length = encAll 1 (cs.take j) := by
  have h : encAll 1 cs = encAll 1 (cs.take j) ++ encAll 1 (cs.drop j) := by rw [← encAll_append, List.take_append_drop]
  rw [h, List.take_left]
theorem encAll_take_le (e : Nat) (cs : List Nat) (j : Nat) : (encAll e (cs.take j)).length ≤ (encAll e cs).length := by
  have h : encAll e cs = encAll e (cs.take j) ++ encAll e (cs.drop j) := by rw [← encAll_append, List.take_append_drop]
  rw [h, List.length_append]; omega

end Go.Proofs.YthlbeoakaebcpaaDoor.M
