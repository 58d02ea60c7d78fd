/- That num12's Int and Float and the document's Int12 and Float12 answer the same. -/
import Derived.Test.YtocegiffbgnogaaDoorPi
import Derived.Test.YtocegiffbgnogaaDoorFq
set_option linter.unusedVariables false
namespace Go.Proofs.YtocegiffbgnogaaDoor
open Go.RowKit

theorem pw_small {X : List UInt8} {z : Int} (h : M.pw X = some z) : (tx z).size ≤ X.length + 1 := by
  rcases M.pw_head h with rfl | ⟨e, r, rfl, _, hp⟩
  · rw [M.pw] at h; obtain rfl := Option.some.inj h; rw [tx0]; decide
  · rw [M.pwE] at hp
    by_cases hd : M.okD 10 (M.body r) = true
    · rw [if_pos hd] at hp
      obtain rfl := Option.some.inj hp
      obtain ⟨hne, hal⟩ := (M.okD_iff _ _).1 hd
      have h1 := M.val_lt 10 _ hal
      have h2 := tx_len (M.sgn (M.isNeg r) (M.val 10 (M.body r))) (M.body r).length (List.length_pos_iff.2 hne) (by rw [sgn_abs]; exact h1)
      have h3 := M.body_len r
      simp only [List.length_cons]; omega
    · rw [if_neg hd] at hp; cases hp
theorem iv_of_ok {l : List UInt8} (h : M.okD 10 (M.body l) = true) : M.iv l = some (M.sgn (M.isNeg l) (M.val 10 (M.body l))) := by
  have h3 := (M.gl_whole _).2 h
  rcases form_iv l with ⟨d, _, e, _, _⟩ | ⟨d, _, e, _, _⟩ | ⟨_, _, e⟩ | ⟨hf, e⟩
  · rw [e, (M.body_else _ (by decide) (by decide)).2, M.gl_mark _ _ (Or.inl rfl)] at h3; omega
  · rw [e, (M.body_else _ (by decide) (by decide)).2, M.gl_mark _ _ (Or.inr rfl)] at h3; omega
  · exact e
  · exfalso
    unfold M.iv at e
    by_cases h1 : l.take 2 = [48, 111]
    · rw [M.take2 h1, (M.body_else _ (by decide) (by decide)).2, M.gl_mark _ _ (Or.inl rfl)] at h3; omega
    · by_cases h2 : l.take 2 = [48, 120]
      · rw [M.take2 h2, (M.body_else _ (by decide) (by decide)).2, M.gl_mark _ _ (Or.inr rfl)] at h3; omega
      · rw [if_neg h1, if_neg h2, if_pos h] at e; cases e
theorem iv_inf {l : List UInt8} (h : M.body l ∈ M.infs) : M.iv l = none := by
  simp only [M.infs, List.mem_cons, List.not_mem_nil, or_false] at h
  rcases form_iv l with ⟨d, _, e, _, _⟩ | ⟨d, _, e, _, _⟩ | ⟨_, ho, _⟩ | ⟨_, e⟩
  · rw [e, (M.body_else _ (by decide) (by decide)).2] at h; rcases h with h | h | h <;> simp at h
  · rw [e, (M.body_else _ (by decide) (by decide)).2] at h; rcases h with h | h | h <;> simp at h
  · rcases h with h | h | h <;> rw [h] at ho <;> exact absurd ho (by decide)
  · exact e
theorem iv_nan {l : List UInt8} (h : l ∈ M.nans) : M.iv l = none ∧ M.body l = l := by
  simp only [M.nans, List.mem_cons, List.not_mem_nil, or_false] at h
  rcases h with rfl | rfl | rfl <;> decide
theorem nint_any (s : ByteArray) (w : World) (hs : s.size ≤ 1000) :
    Calls Tryd.prog 8 #[.string s] w fun e w' => e = .returned (tailV (M.iv s.data.toList)) ∧ Below w.heap.size w w' := by
  cases h : M.iv s.data.toList with
  | none => exact (nint_no s w hs h).mono fun e w' k => ⟨k.1, k.2 ▸ Below.refl _ _⟩
  | some z => exact nint_yes s z w hs h
/-- What Float and Float12 answer of s. -/
def Both (s : ByteArray) : Prop := ∃ (k : Int) (n ok : Bool) (D E : ByteArray),
  (∀ w, Env w → Calls Tryd.prog 10 #[.string s] w fun e w' => e = .returned (.tuple #[dV k n D E, .bool ok]) ∧ Below w.heap.size w w') ∧
  (∀ w, Calls Tryd.prog 11 #[.string s] w fun e w' => e = .returned (.tuple #[dV k n D E, .bool ok]) ∧ Below w.heap.size w w')
theorem float_agree (s : ByteArray) (hs : s.size ≤ 100) : Both s := by
  have hbl := M.body_len s.data.toList
  rw [← sz_list] at hbl
  by_cases hnan : s.data.toList ∈ M.nans
  · obtain ⟨hv, hb⟩ := iv_nan hnan
    refine ⟨2, false, true, ⟨#[]⟩, ⟨#[]⟩, fun w he => nflo_nan s w hnan, fun w => rflo_odd s w hs hv 2 false fun g hg W => ?_⟩
    have hg' : g = false := by rw [hg, bA_size, hb, ← sz_list]; simp
    subst hg'
    exact rodd_nans (bA (M.body s.data.toList)) (M.isNeg s.data.toList) false W (by rw [bA_toList, hb]; exact hnan)
  by_cases hinf : M.body s.data.toList ∈ M.infs
  · exact ⟨1, M.isNeg s.data.toList, true, ⟨#[]⟩, ⟨#[]⟩, fun w he => nflo_inf s w (by omega) hnan hinf, fun w => rflo_odd s w hs (iv_inf hinf) 1 _ fun g _ W => rodd_infs _ _ g W (by rw [bA_toList]; exact hinf)⟩
  cases hv : M.iv s.data.toList with
  | some z =>
    exact ⟨0, false, false, ⟨#[]⟩, ⟨#[]⟩, fun w he => nflo_no s w (by omega) hnan hinf (fun k => by rw [M.iv_none_of_four k] at hv; cases hv), fun w => rflo_whole s z w hs hv⟩
  | none =>
    have c2 : ∀ g, g = decide ((bA (M.body s.data.toList)).size < s.size) → ∀ W, Calls Tryd.prog 27 #[.string (bA (M.body s.data.toList)), .bool (M.isNeg s.data.toList), .bool g] W fun e w' => e = .returned (.tuple #[dZ, .bool false]) ∧ Below W.heap.size W w' := by
      intro g hg W
      by_cases hbn : M.body s.data.toList ∈ M.nans
      · have hlt := body_less hnan hbn
        have hg' : g = true := by rw [hg, bA_size, sz_list]; exact decide_eq_true hlt
        subst hg'
        exact rodd_nans (bA (M.body s.data.toList)) (M.isNeg s.data.toList) true W (by rw [bA_toList]; exact hbn)
      · exact rodd_no _ _ g W (by rw [bA_toList]; exact hinf) (by rw [bA_toList]; exact hbn)
    cases hp : M.pw (M.ex (M.body s.data.toList)) with
    | none =>
      have h4 : M.gl (M.body s.data.toList) ≠ 4 := by
        rw [M.gl_eq, hp]
        split
        · omega
        · split
          · omega
          · simp
      refine ⟨0, false, false, ⟨#[]⟩, ⟨#[]⟩, fun w he => nflo_no s w (by omega) hnan hinf h4, fun w => ?_⟩
      by_cases h46 : (M.rs (M.body s.data.toList)).head? = some 46
      · exact rflo_dn s w hs hv hinf c2 h46 hp
      · exact rflo_nn s w hs hv hinf c2 h46 hp
    | some z =>
      have key : ∃ (k : Int) (n ok : Bool) (D E : ByteArray), (∀ w, Env w → Calls Tryd.prog 10 #[.string s] w fun e w' => e = .returned (.tuple #[dV k n D E, .bool ok]) ∧ Below w.heap.size w w') ∧
          (∀ W', Calls Tryd.prog 12 #[.bool (M.isNeg s.data.toList), .string (bA (M.hd (M.body s.data.toList))), .string (bA (M.fc (M.body s.data.toList))), .string (tx z)] W' fun e w' => e = .returned (.tuple #[dV k n D E, .bool ok]) ∧ Below W'.heap.size W' w') := by
        have hxl := M.ex_len (M.body s.data.toList)
        have hzs := pw_small hp
        by_cases h4 : M.gl (M.body s.data.toList) = 4
        · obtain ⟨Q, z', hN, hp'⟩ := M.isNum h4
          obtain rfl := Option.some.inj (hp'.symm.trans hp)
          have hl := congrArg List.length hN.eq
          rw [List.length_append] at hl
          have hq : (M.hd (M.body s.data.toList)).length ≤ Q.length ∧ (M.fc (M.body s.data.toList)).length ≤ Q.length := by
            rcases hN.q with ⟨h1, h2⟩ | h1
            · rw [h1, h2]; simp
            · rw [h1]; simp; omega
          obtain ⟨k, n, D, E, _, _, g3, g4⟩ := make_both (M.isNeg s.data.toList) (bA (M.hd (M.body s.data.toList))) (bA (M.fc (M.body s.data.toList))) z' (by rw [bA_size]; omega) (by rw [bA_size]; omega) (by omega)
            (by rw [bA_toList, bA_toList, M.okD_iff, M.allD_append, hN.w, hN.f]; exact ⟨hN.ne, rfl⟩)
          exact ⟨k, n, true, D, E, fun w he => nflo_yes s w he (by omega) _ _ Q _ z' hN h4 k n true D E g3, g4⟩
        · have hempty : M.hd (M.body s.data.toList) ++ M.fc (M.body s.data.toList) = [] := by
            by_cases he : M.hd (M.body s.data.toList) ++ M.fc (M.body s.data.toList) = []
            · exact he
            · exfalso
              have e := M.gl_eq (M.body s.data.toList)
              rw [if_neg he, hp] at e
              by_cases hr : M.rs (M.body s.data.toList) = []
              · rw [if_pos hr] at e
                rw [iv_of_ok ((M.gl_whole _).1 e)] at hv
                cases hv
              · rw [if_neg hr] at e
                exact h4 e
          obtain ⟨e1, e2⟩ := List.append_eq_nil_iff.1 hempty
          refine ⟨0, false, false, ⟨#[]⟩, ⟨#[]⟩, fun w he => nflo_no s w (by omega) hnan hinf h4, fun W' => ?_⟩
          rw [e1, e2]
          exact rmake_no _ (bA []) (bA []) (tx z) W' (by decide) (by decide) (by omega) (Or.inl (by decide))
      obtain ⟨k, n, ok, D, E, g1, g2⟩ := key
      refine ⟨k, n, ok, D, E, g1, fun w => ?_⟩
      by_cases h46 : (M.rs (M.body s.data.toList)).head? = some 46
      · exact rflo_dy s w z hs hv hinf c2 h46 hp k n ok D E g2
      · exact rflo_ny s w z hs hv hinf c2 h46 hp k n ok D E g2
end Go.Proofs.YtocegiffbgnogaaDoor
