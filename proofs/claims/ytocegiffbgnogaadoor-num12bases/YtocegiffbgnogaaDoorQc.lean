/- What Make, Float and Int answer of digits, a point, digits, a power, and of these with a sign behind. -/
import Derived.Test.YtocegiffbgnogaaDoorPk
import Derived.Test.YtocegiffbgnogaaDoorPj
import Derived.Test.YtocegiffbgnogaaDoorWn
import Derived.Test.YtocegiffbgnogaaDoorFs
set_option linter.unusedVariables false
namespace Go.Proofs.YtocegiffbgnogaaDoor
open Go.RowKit
namespace M
theorem body_chars {r : List UInt8} (h : okD 10 (body r) = true) : ∀ c ∈ r, dv c < 10 ∨ c = 43 ∨ c = 45 := by
  have hall := (allD_iff _ _).1 ((okD_iff _ _).1 h).2
  cases r with
  | nil => intro c hc; cases hc
  | cons g ds =>
    intro c hc
    by_cases h43 : g = 43
    · subst h43
      rw [(body_43 ds).2] at hall
      rcases List.mem_cons.1 hc with rfl | hc
      · exact Or.inr (Or.inl rfl)
      · exact Or.inl (hall c hc)
    · by_cases h45 : g = 45
      · subst h45
        rw [(body_45 ds).2] at hall
        rcases List.mem_cons.1 hc with rfl | hc
        · exact Or.inr (Or.inr rfl)
        · exact Or.inl (hall c hc)
      · rw [(body_else ds h43 h45).2] at hall
        exact Or.inl (hall c hc)
/-- A decimal's text has no gap. -/
theorem four_no95 {l : List UInt8} (h : gl l = 4) : ∀ c ∈ l, c ≠ 95 := by
  obtain ⟨Q, z, hN, hp⟩ := isNum h
  have key : ∀ c, dv c < 10 → c ≠ 95 := fun c hc => ne95 hc (by omega)
  have hW := (allD_iff _ _).1 hN.w
  have hF := (allD_iff _ _).1 hN.f
  rw [hN.eq]
  intro c hc
  rcases List.mem_append.1 hc with hc | hc
  · rcases hN.q with ⟨e, _⟩ | e
    · rw [e] at hc; exact key c (hW c hc)
    · rw [e] at hc
      rcases List.mem_append.1 hc with hc | hc
      · exact key c (hW c hc)
      · rcases List.mem_cons.1 hc with rfl | hc
        · decide
        · exact key c (hF c hc)
  · rcases pw_head hp with e | ⟨e, r, hx, he, hr⟩
    · rw [e] at hc; cases hc
    · rw [hx] at hc
      rcases List.mem_cons.1 hc with rfl | hc
      · rcases he with rfl | rfl <;> decide
      · rw [pwE] at hr
        by_cases hd : okD 10 (body r) = true
        · rcases body_chars hd c hc with k | rfl | rfl
          · exact key c k
          · decide
          · decide
        · rw [if_neg hd] at hr; cases hr
theorem body_end (l : List UInt8) : ∃ m, body (l ++ [95]) = m ++ [95] := by
  cases l with
  | nil => exact ⟨[], by decide⟩
  | cons c r =>
    rw [List.cons_append]
    by_cases h43 : c = 43
    · subst h43; exact ⟨r, (body_43 _).2⟩
    · by_cases h45 : c = 45
      · subst h45; exact ⟨r, (body_45 _).2⟩
      · exact ⟨c :: r, (body_else _ h43 h45).2⟩
theorem gap_no (l : List UInt8) : l ++ [95] ∉ nans ∧ body (l ++ [95]) ∉ infs ∧ gl (body (l ++ [95])) ≠ 4 := by
  obtain ⟨m, hm⟩ := body_end l
  have key : ∀ m : List UInt8, m ++ [95] ∉ nans ∧ m ++ [95] ∉ infs := by
    intro m
    constructor
    · intro k
      simp only [nans, List.mem_cons, List.not_mem_nil, or_false] at k
      rcases k with k | k | k <;> (have := congrArg List.getLast? k; simp at this)
    · intro k
      simp only [infs, List.mem_cons, List.not_mem_nil, or_false] at k
      rcases k with k | k | k <;> (have := congrArg List.getLast? k; simp at this)
  refine ⟨(key l).1, ?_, ?_⟩
  · rw [hm]; exact (key m).2
  · intro h
    rw [hm] at h
    exact four_no95 h 95 (by simp) rfl
/-- The text of digits, a point or none, a power or none. -/
def Txt (L W F X : List UInt8) : Prop := L = W ++ 46 :: (F ++ X) ∨ (L = W ++ X ∧ F = [] ∧ X ≠ [] ∧ W ≠ [])
theorem txt_num {L W F X : List UInt8} {z : Int} (h : Txt L W F X) (hW : allD 10 W = true) (hF : allD 10 F = true) (hne : W ++ F ≠ []) (hX : pw X = some z) : gl L = 4 ∧ ∃ Q, Num L W F Q X z := by
  rcases h with rfl | ⟨rfl, rfl, h2, h3⟩
  · exact ⟨(num_dot W F X z hW hF hne hX).1, W ++ 46 :: F, ⟨by simp, Or.inr rfl, hW, hF, hne, hX⟩⟩
  · exact ⟨(num_bare W X z hW h3 hX h2).1, W, ⟨rfl, Or.inl ⟨rfl, rfl⟩, hW, hF, hne, hX⟩⟩
theorem txt_head {L W F X : List UInt8} (h : Txt L W F X) (hW : allD 10 W = true) : ∃ c r, L = c :: r ∧ c ≠ 43 ∧ c ≠ 45 := by
  cases W with
  | nil =>
    rcases h with rfl | ⟨_, _, _, h3⟩
    · exact ⟨46, F ++ X, rfl, by decide, by decide⟩
    · exact absurd rfl h3
  | cons c r =>
    rw [allD_cons, Bool.and_eq_true, decide_eq_true_eq] at hW
    have h43 : c ≠ 43 := by intro e; rw [e, dv43] at hW; omega
    have h45 : c ≠ 45 := by intro e; rw [e, dv45] at hW; omega
    rcases h with rfl | ⟨rfl, _, _, _⟩
    · exact ⟨c, _, rfl, h43, h45⟩
    · exact ⟨c, _, rfl, h43, h45⟩
end M
theorem cat_list (A B : ByteArray) : (A ++ B).data.toList = A.data.toList ++ B.data.toList := append_list A B
/-- What the law's calls answer. -/
theorem parts_say (neg : Bool) (HB SS : ByteArray) (L W F X : List UInt8) (z : Int) (hH : (neg = true ∧ HB = ⟨#[45]⟩) ∨ (neg = false ∧ HB = ⟨#[]⟩)) (hSS : SS.data.toList = L) (hT : M.Txt L W F X) (hW : M.allD 10 W = true) (hF : M.allD 10 F = true) (hne : W ++ F ≠ []) (hX : M.pw X = some z) (zs : SS.size ≤ 100) (zW : W.length ≤ 30) (zF : F.length ≤ 30) (zX : X.length ≤ 40) :
    ∃ (k : Int) (n : Bool) (D E : ByteArray),
      (∀ W', Calls Tryd.prog 12 #[.bool neg, .string (bA W), .string (bA F), .string (tx z)] W' fun e w' => e = .returned (.tuple #[dV k n D E, .bool true]) ∧ Below W'.heap.size W' w') ∧
      (∀ W', Env W' → Calls Tryd.prog 10 #[.string (HB ++ SS)] W' fun e w' => e = .returned (.tuple #[dV k n D E, .bool true]) ∧ Below W'.heap.size W' w') ∧
      (∀ W', Calls Tryd.prog 8 #[.string (HB ++ SS)] W' fun e w' => e = .returned (.tuple #[.string ⟨#[]⟩, .bool false]) ∧ W' = w') ∧
      (∀ W', Calls Tryd.prog 10 #[.string (HB ++ SS ++ ⟨#[95]⟩)] W' fun e w' => e = .returned (.tuple #[dZ, .bool false]) ∧ Below W'.heap.size W' w') := by
  obtain ⟨h4, Q, hN⟩ := M.txt_num hT hW hF hne hX
  obtain ⟨c, r, hc, h43, h45⟩ := M.txt_head hT hW
  have hz := pw_small hX
  obtain ⟨k, n, D, E, _, _, g, rr⟩ := make_both neg (bA W) (bA F) z (by rw [bA_size]; omega) (by rw [bA_size]; omega) (by omega) (by rw [bA_toList, bA_toList, M.okD_iff, M.allD_append, hW, hF]; exact ⟨hne, rfl⟩)
  have hHs : HB.size ≤ 1 := by rcases hH with ⟨_, rfl⟩ | ⟨_, rfl⟩ <;> decide
  have hsz : (HB ++ SS).size ≤ 101 := by rw [append_sz]; omega
  have hb : M.body (HB ++ SS).data.toList = L ∧ M.isNeg (HB ++ SS).data.toList = neg := by
    rw [cat_list, hSS]
    rcases hH with ⟨rfl, rfl⟩ | ⟨rfl, rfl⟩
    · exact ⟨(M.body_45 L).2, (M.body_45 L).1⟩
    · show M.body L = L ∧ M.isNeg L = false
      rw [hc]
      exact ⟨(M.body_else r h43 h45).2, (M.body_else r h43 h45).1⟩
  refine ⟨k, n, D, E, rr, fun W' he => ?_, fun W' => ?_, fun W' => ?_⟩
  · refine nflo_yes _ W' he (by omega) W F Q X z (by rw [hb.1]; exact hN) (by rw [hb.1]; exact h4) k n true D E ?_
    rw [hb.2]; exact g
  · exact nint_no _ W' (by omega) (M.iv_none_of_four (by rw [hb.1]; exact h4))
  · obtain ⟨g1, g2, g3⟩ := M.gap_no (HB ++ SS).data.toList
    have e : (HB ++ SS ++ ⟨#[95]⟩).data.toList = (HB ++ SS).data.toList ++ [95] := cat_list _ _
    exact nflo_no _ W' (by rw [append_sz]; show _ + 1 ≤ _; omega) (by rw [e]; exact g1) (by rw [e]; exact g2) (by rw [e]; exact g3)
/-- The power's text. -/
theorem pow_say (down bare : Bool) (El : List UInt8) (hE : M.okD 10 El = true) : ∃ SG : ByteArray, ((down = true ∧ SG = ⟨#[45]⟩) ∨ (down = false ∧ bare = false ∧ SG = ⟨#[43]⟩) ∨ (down = false ∧ bare = true ∧ SG = ⟨#[]⟩)) ∧ M.pw (101 :: (SG.data.toList ++ El)) = some (M.sgn down (M.val 10 El)) ∧ SG.size ≤ 1 := by
  obtain ⟨hne, hal⟩ := (M.okD_iff _ _).1 hE
  cases down
  · cases bare
    · refine ⟨⟨#[43]⟩, Or.inr (Or.inl ⟨rfl, rfl, rfl⟩), ?_, by decide⟩
      show M.pw (101 :: 43 :: El) = _
      rw [M.pw, if_pos (Or.inl rfl), M.pwE, (M.body_43 El).2, (M.body_43 El).1, if_pos hE]
    · refine ⟨⟨#[]⟩, Or.inr (Or.inr ⟨rfl, rfl, rfl⟩), ?_, by decide⟩
      show M.pw (101 :: El) = _
      cases El with
      | nil => exact absurd rfl hne
      | cons c r =>
        have hal' := hal
        rw [M.allD_cons, Bool.and_eq_true, decide_eq_true_eq] at hal'
        have h43 : c ≠ 43 := by intro e; rw [e, M.dv43] at hal'; omega
        have h45 : c ≠ 45 := by intro e; rw [e, M.dv45] at hal'; omega
        rw [M.pw, if_pos (Or.inl rfl), M.pwE, (M.body_else r h43 h45).2, (M.body_else r h43 h45).1, if_pos hE]
  · refine ⟨⟨#[45]⟩, Or.inl ⟨rfl, rfl⟩, ?_, by decide⟩
    show M.pw (101 :: 45 :: El) = _
    rw [M.pw, if_pos (Or.inl rfl), M.pwE, (M.body_45 El).2, (M.body_45 El).1, if_pos hE]
end Go.Proofs.YtocegiffbgnogaaDoor
