/- What both schemas say of one text. -/
import Derived.Test.YtocegiffbgnogaaGreatDoorZa
set_option linter.unusedVariables false
namespace Go.Proofs.YtocegiffbgnogaaGreatDoor
open Go.RowKit

theorem iv_nan' {l : List UInt8} (h : l ∈ M.nans) : M.body l = l := by
  simp only [M.nans, List.mem_cons, List.not_mem_nil, or_false] at h
  rcases h with rfl | rfl | rfl <;> decide
/-- A whole number of the new schema: the old one's form is at most 3, or says the same. -/
theorem int_both {l : List UInt8} {z : Int} (h : M.iv l = some z) : M.fB (M.body l) ≤ 3 ∨ M.sgn (M.isNeg l) (M.num (M.body l)) = z := by
  rcases form_iv l with ⟨d, _, hl, _, e⟩ | ⟨d, _, hl, _, e⟩ | ⟨_, ho, e⟩ | ⟨_, e⟩
  · left
    rw [hl, (M.body_else _ (by decide) (by decide)).2, M.fB, if_pos rfl, M.fN, if_neg (by decide), if_neg (by decide), M.fG_eq]
    split <;> omega
  · left
    rw [hl, (M.body_else _ (by decide) (by decide)).2, M.fB, if_pos rfl, M.fN, if_neg (by decide), if_pos rfl, M.fG_eq]
    split <;> omega
  · obtain rfl := Option.some.inj (h.symm.trans e)
    obtain ⟨hne, hal⟩ := (M.okD_iff _ _).1 ho
    generalize M.body l = U at *
    obtain ⟨hdu, hg⟩ := du_of_all hal
    have hnum : M.fB U = 4 ∨ M.fB U = 5 → M.num U = M.val 10 U := by
      intro k
      unfold M.num
      rw [if_neg (by omega), if_neg (by omega), if_neg (by omega), if_neg (by omega), hg]
    cases U with
    | nil => exact absurd rfl hne
    | cons c r =>
      rw [M.allD_cons, Bool.and_eq_true, decide_eq_true_eq] at hal
      by_cases h48 : c = 48
      · subst h48
        cases r with
        | nil => right; rw [hnum (Or.inl rfl)]
        | cons d q =>
          left
          rw [M.allD_cons, Bool.and_eq_true, decide_eq_true_eq] at hal
          have h98 : d ≠ 98 := by intro k; rw [k] at hal; exact absurd hal.2.1 (by decide)
          have h120 : d ≠ 120 := by intro k; rw [k] at hal; exact absurd hal.2.1 (by decide)
          rw [M.fB, if_pos rfl, M.fN, if_neg h98, if_neg h120, M.fG_eq]
          split <;> omega
      · right
        have h58 : ∀ x ∈ r, x ≠ 58 := fun x hx => M.ne58 ((M.allD_iff _ _).1 hal.2 x hx) (by omega)
        have h5 : M.fB (c :: r) = 5 := by
          rw [M.fB, if_neg h48, if_pos hal.1, M.fA_no r h58, (du_of_all hal.2).2, if_pos hal.2]
        rw [hnum (Or.inr h5)]
  · rw [h] at e; cases e
theorem gl_odd {l : List UInt8} (h : l ∈ M.nans ∨ l ∈ M.infs) : M.gl l = 0 := by
  simp only [M.nans, M.infs, List.mem_cons, List.not_mem_nil, or_false] at h
  rcases h with (rfl | rfl | rfl) | (rfl | rfl | rfl) <;> decide
/-- The document's Float11 answers something, of every short text. -/
theorem old_any (s : ByteArray) (hs : s.size ≤ 100) : ∃ F, Old s F := by
  by_cases hnan : s.data.toList ∈ M.nans
  · have hb := iv_nan' hnan
    exact ⟨5, 2, false, ⟨#[]⟩, ⟨#[]⟩, fun w => rf_n s w (by omega) (by rw [hb]; exact hnan) (by rw [hb, bA_size, ← sz_list]; omega)⟩
  by_cases hinf : M.body s.data.toList ∈ M.infs
  · exact ⟨4, 1, M.isNeg s.data.toList, ⟨#[]⟩, ⟨#[]⟩, fun w => rf_i s w (by omega) hinf⟩
  have hbl := M.body_len s.data.toList
  rw [← sz_list] at hbl
  have plain : ∀ (W F : List UInt8) (z : Int), M.Parts (M.body s.data.toList) W F z → ∃ (k : Int) (n : Bool) (D E : ByteArray), (∀ W', Calls Tryz.prog 25 #[.bool (M.isNeg s.data.toList), .string (bA W), .string (bA F), .string (tx z)] W' fun e w' => e = .returned (.tuple #[dV k n D E, .bool true]) ∧ Below W'.heap.size W' w') := by
    intro W F z hP
    have h0 : M.fl (M.body s.data.toList) ≠ 0 := by rcases hP with ⟨h, _⟩ | ⟨h, _⟩ | ⟨h, _⟩ <;> omega
    obtain ⟨H, X, hS⟩ := M.shape hP
    obtain ⟨h1, h2, h3, h4⟩ := shape_small hS h0 (by omega)
    obtain ⟨k, n, D, E, _, g⟩ := make_some (M.isNeg s.data.toList) (bA W) (bA F) z h1 h2 h3 h4
    exact ⟨k, n, D, E, g⟩
  by_cases hbn : M.body s.data.toList ∈ M.nans
  · obtain ⟨r, hr, ht, h0, _⟩ := nan_cut hbn
    have hlt := body_less hnan hbn
    exact ⟨0, old_none s fun w => rf_z7 s w r (by omega) hr (by simp) ht (by rw [bA_size, sz_list]; exact hlt) fun W => by
      have := rodd_nans (bA (M.body s.data.toList)) (M.isNeg s.data.toList) true W (by rw [bA_toList]; exact hbn)
      simpa using this⟩
  rcases M.split_at 46 (M.body s.data.toList) with hn | ⟨P, l, hL, hP⟩
  · exact ⟨0, old_none s fun w => rf_z1 s w (by omega) hinf hbn hn⟩
  · cases ht : M.tl (M.bk l) with
    | none => exact ⟨0, old_none s fun w => rf_z2 s w P l (by omega) hinf hbn hL hP ht⟩
    | some z =>
      match P, hP, hL with
      | [], hP, hL =>
        rw [List.nil_append] at hL
        by_cases hg : M.gone (M.fr l) = []
        · exact ⟨0, old_none s fun w => rf_z3 s w l z (by omega) hinf hbn hL (by simp) ht hg⟩
        · have h2 : M.fl (M.body s.data.toList) = 2 := by rw [hL, M.fl_two, if_neg hg, ht]; rfl
          obtain ⟨k, n, D, E, cM⟩ := plain [] (M.gone (M.fr l)) z (Or.inr (Or.inl ⟨h2, l, hL, hg, rfl, rfl, ht⟩))
          exact ⟨2, k, n, D, E, fun w => rf_y2 s w l z (by omega) hinf hbn hL (by simp) ht hg k n true D E cM⟩
      | c :: P, hP, hL =>
        have hc : c ≠ 46 := hP c (by simp)
        have hP' : ∀ x ∈ P, x ≠ 46 := fun x hx => hP x (by simp [hx])
        have e := M.fl_yes c P l hc hP'
        by_cases hd : M.dv c < 10
        · rw [if_pos hd] at e
          rcases M.fA_cases P with ⟨h5, ha⟩ | ⟨h6, hb, D0, R, rfl, hD, ha, hR⟩ | ⟨h0, hb⟩
          · rw [if_pos h5, ht] at e
            have h1 : M.fl (M.body s.data.toList) = 1 := by rw [hL, e]; rfl
            obtain ⟨k, n, D, E, cM⟩ := plain (c :: M.gone P) (M.gone (M.fr l)) z (Or.inl ⟨h1, c, P, l, hL, hc, hP', hd, ha, rfl, rfl, ht⟩)
            exact ⟨1, k, n, D, E, fun w => rf_y1 s w c P l z (by omega) hinf hbn hL hP ht hd ha k n true D E cM⟩
          · rw [if_neg (by omega), if_pos h6] at e
            by_cases hbk : M.bk l = []
            · rw [if_pos hbk] at e
              have h3 : M.fl (M.body s.data.toList) = 3 := by rw [hL, e]
              have hz : z = 0 := by rw [hbk, M.tl] at ht; exact (Option.some.inj ht).symm
              obtain ⟨k, n, D, E, cM⟩ := plain _ (M.gone (M.fr l)) z (Or.inr (Or.inr ⟨h3, c, D0, R, l, hL, hc, hP', hd, hD, ha, hR, hbk, rfl, rfl, hz⟩))
              refine ⟨3, k, n, D, E, fun w => ?_⟩
              refine rf_y3 s w c D0 R l z (by omega) hinf hbn hL hP ht hd hD ha hR hbk k n true D E ?_
              have hx : bA (M.dg (M.sx (M.val 10 (c :: M.gone D0)) 0 R)) = tx ((M.sx (M.val 10 (c :: M.gone D0)) 0 R : Nat) : Int) := by unfold tx; rw [M.txt_nat]
              rw [hx] at cM
              exact cM
            · exact ⟨0, old_none s fun w => rf_z6 s w c D0 R l z (by omega) hinf hbn hL hP ht hd hD ha hR hbk⟩
          · exact ⟨0, old_none s fun w => rf_z5 s w c P l z (by omega) hinf hbn hL hP ht hd hb h0⟩
        · exact ⟨0, old_none s fun w => rf_z4 s w c P l z (by omega) hinf hbn hL hP ht hd⟩
/-- What Float and the document's Float11 answer: where both read a decimal, it is one. -/
theorem flo_both (s : ByteArray) (hs : s.size ≤ 100) : ∃ (k : Int) (n ok : Bool) (D E : ByteArray) (k' : Int) (n' : Bool) (D' E' : ByteArray) (F : Nat),
    (∀ w, Env w → Calls Tryz.prog 7 #[.string s] w fun e w' => e = .returned (.tuple #[dV k n D E, .bool ok]) ∧ Below w.heap.size w w') ∧
    (∀ w, Calls Tryz.prog 8 #[.string s] w fun e w' => e = .returned (.tuple #[dV k' n' D' E', .int .i64 (F : Nat)]) ∧ Below w.heap.size w w') ∧
    (ok = false ∨ F = 0 ∨ (k = k' ∧ n = n' ∧ D = D' ∧ E = E')) := by
  by_cases hnan : s.data.toList ∈ M.nans
  · have hb := iv_nan' hnan
    exact ⟨2, false, true, ⟨#[]⟩, ⟨#[]⟩, 2, false, ⟨#[]⟩, ⟨#[]⟩, 5, fun w _ => nflo_nan s w hnan, fun w => rf_n s w (by omega) (by rw [hb]; exact hnan) (by rw [hb, bA_size, ← sz_list]; omega), Or.inr (Or.inr ⟨rfl, rfl, rfl, rfl⟩)⟩
  by_cases hinf : M.body s.data.toList ∈ M.infs
  · exact ⟨1, M.isNeg s.data.toList, true, ⟨#[]⟩, ⟨#[]⟩, 1, M.isNeg s.data.toList, ⟨#[]⟩, ⟨#[]⟩, 4, fun w _ => nflo_inf s w (by omega) hnan hinf, fun w => rf_i s w (by omega) hinf, Or.inr (Or.inr ⟨rfl, rfl, rfl, rfl⟩)⟩
  by_cases h4 : M.gl (M.body s.data.toList) = 4
  · have hbl := M.body_len s.data.toList
    rw [← sz_list] at hbl
    have hbn : M.body s.data.toList ∉ M.nans := fun k => by rw [gl_odd (Or.inl k)] at h4; omega
    obtain ⟨Q, z, hN, hp⟩ := M.isNum h4
    generalize hWe : M.hd (M.body s.data.toList) = W at *
    generalize hFe : M.fc (M.body s.data.toList) = F at *
    generalize hXe : M.ex (M.body s.data.toList) = X at *
    have hl := congrArg List.length hN.eq
    rw [List.length_append] at hl
    have hq : W.length ≤ Q.length ∧ F.length ≤ Q.length := by
      rcases hN.q with ⟨h1, h2⟩ | h1
      · rw [h1, h2]; simp
      · rw [h1]; simp; omega
    have hzs : (tx z).size ≤ 101 := by
      have := pw_small hp
      omega
    obtain ⟨k, n, D, E, g, r⟩ := make_some (M.isNeg s.data.toList) (bA W) (bA F) z (by rw [bA_size]; omega) (by rw [bA_size]; omega) hzs
      (by rw [bA_toList, bA_toList, M.okD_iff, M.allD_append, hN.w, hN.f]; exact ⟨hN.ne, rfl⟩)
    have cC : ∀ w, Env w → Calls Tryz.prog 7 #[.string s] w fun e w' => e = .returned (.tuple #[dV k n D E, .bool true]) ∧ Below w.heap.size w w' := fun w he => nflo_yes s w he (by omega) W F Q X z hN h4 k n true D E g
    have none_ : (∀ w, Calls Tryz.prog 8 #[.string s] w fun e w' => e = .returned (.tuple #[dZ, .int .i64 0]) ∧ Below w.heap.size w w') → _ := fun c => (⟨k, n, true, D, E, 0, false, ⟨#[]⟩, ⟨#[]⟩, 0, cC, c, Or.inr (Or.inl rfl)⟩ : ∃ (k : Int) (n ok : Bool) (D E : ByteArray) (k' : Int) (n' : Bool) (D' E' : ByteArray) (F : Nat),
      (∀ w, Env w → Calls Tryz.prog 7 #[.string s] w fun e w' => e = .returned (.tuple #[dV k n D E, .bool ok]) ∧ Below w.heap.size w w') ∧
      (∀ w, Calls Tryz.prog 8 #[.string s] w fun e w' => e = .returned (.tuple #[dV k' n' D' E', .int .i64 (F : Nat)]) ∧ Below w.heap.size w w') ∧
      (ok = false ∨ F = 0 ∨ (k = k' ∧ n = n' ∧ D = D' ∧ E = E')))
    have hX0 : X = [] ∨ ∃ e r, X = e :: r ∧ (e = 101 ∨ e = 69) := by
      rcases M.pw_head hp with h | ⟨e, r, h, he, _⟩
      · exact Or.inl h
      · exact Or.inr ⟨e, r, h, he⟩
    have hW46 : ∀ x ∈ W, x ≠ 46 := fun x hx => M.ne46 ((M.allD_iff _ _).1 hN.w x hx) (by omega)
    rcases hN.q with ⟨h1, h2⟩ | h1
    · refine none_ fun w => rf_z1 s w (by omega) hinf hbn ?_
      rw [hN.eq, h1]
      intro x hx
      rcases List.mem_append.1 hx with hx | hx
      · exact hW46 x hx
      · rcases M.pw_head hp with h | ⟨e, r, h, he, hr⟩
        · rw [h] at hx; cases hx
        · rw [h] at hx
          rw [M.pwE] at hr
          by_cases hd : M.okD 10 (M.body r) = true
          · have hall := (M.allD_iff _ _).1 ((M.okD_iff _ _).1 hd).2
            rcases List.mem_cons.1 hx with rfl | hx
            · rcases he with rfl | rfl <;> decide
            · cases r with
              | nil => cases hx
              | cons g ds =>
                by_cases h43 : g = 43
                · subst h43
                  rw [(M.body_43 ds).2] at hall
                  rcases List.mem_cons.1 hx with rfl | hx
                  · decide
                  · exact M.ne46 (hall x hx) (by omega)
                · by_cases h45 : g = 45
                  · subst h45
                    rw [(M.body_45 ds).2] at hall
                    rcases List.mem_cons.1 hx with rfl | hx
                    · decide
                    · exact M.ne46 (hall x hx) (by omega)
                  · rw [(M.body_else ds h43 h45).2] at hall
                    exact M.ne46 (hall x hx) (by omega)
          · rw [if_neg hd] at hr; cases hr
    · have hL : M.body s.data.toList = W ++ 46 :: (F ++ X) := by rw [hN.eq, h1]; simp
      obtain ⟨f1, f2⟩ := fr_all F X hN.f hX0
      obtain ⟨_, gF⟩ := du_of_all hN.f
      cases ht : M.tl X with
      | none => exact none_ fun w => rf_z2 s w W (F ++ X) (by omega) hinf hbn hL hW46 (by rw [f2]; exact ht)
      | some z' =>
        obtain rfl := Option.some.inj ((tl_pw ht).symm.trans hp)
        cases W with
        | nil =>
          have hFn : F ≠ [] := by have := hN.ne; simpa using this
          refine ⟨k, n, true, D, E, k, n, D, E, 2, cC, fun w => rf_y2 s w (F ++ X) z' (by omega) hinf hbn hL (by simp) (by rw [f2]; exact ht) (by rw [f1, gF]; exact hFn) k n true D E ?_, Or.inr (Or.inr ⟨rfl, rfl, rfl, rfl⟩)⟩
          rw [f1, gF]
          exact r
        | cons c P =>
          have hcw := hN.w
          rw [M.allD_cons, Bool.and_eq_true, decide_eq_true_eq] at hcw
          obtain ⟨_, gP⟩ := du_of_all hcw.2
          refine ⟨k, n, true, D, E, k, n, D, E, 1, cC, fun w => rf_y1 s w c P (F ++ X) z' (by omega) hinf hbn hL hW46 (by rw [f2]; exact ht) hcw.1 (by rw [gP]; exact hcw.2) k n true D E ?_, Or.inr (Or.inr ⟨rfl, rfl, rfl, rfl⟩)⟩
          rw [f1, gF, gP]
          exact r
  · obtain ⟨F, k', n', D', E', c⟩ := old_any s hs
    exact ⟨0, false, false, ⟨#[]⟩, ⟨#[]⟩, k', n', D', E', F, fun w _ => nflo_no s w (by omega) hnan hinf h4, c, Or.inl rfl⟩
end Go.Proofs.YtocegiffbgnogaaGreatDoor
