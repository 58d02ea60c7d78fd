/- That float11's Of and the document's Float11 answer the same. Plain mathematics of what is put on a text; the law Float11Apart: its walk. -/
import Derived.Test.YtipgipgehnhgkaaGreatDoorBc
import Derived.Test.YtipgipgehnhgkaaGreatDoorBh
import Derived.Test.YtipgipgehnhgkaaGreatDoorBi
import Derived.Test.YtipgipgehnhgkaaGreatDoorBk
import Derived.Test.YtipgipgehnhgkaaGreatDoorBl
import Derived.Test.YtipgipgehnhgkaaGreatDoorBm
set_option linter.unusedVariables false
namespace Go.Proofs.YtipgipgehnhgkaaGreatDoor
open Go.RowKit

theorem tl_small {X : List UInt8} {z : Int} (h : M.tl X = some z) : (tx z).size ≤ X.length + 1 := by
  cases X with
  | nil => rw [M.tl] at h; obtain rfl := Option.some.inj h; rw [tx0]; decide
  | cons e r =>
    rw [M.tl] at h
    by_cases he : e = 101 ∨ e = 69
    · rw [if_pos he] at h
      cases r with
      | nil => rw [M.tlE] at h; cases h
      | cons g ds =>
        rw [M.tlE] at h
        by_cases hg : (g = 43 ∨ g = 45) ∧ M.okD 10 ds = true
        · rw [if_pos hg] at h
          obtain rfl := Option.some.inj h
          obtain ⟨hne, hal⟩ := (M.okD_iff _ _).1 hg.2
          have h1 := M.val_lt 10 ds hal
          have h2 := tx_len (M.sgn (decide (g = 45)) (M.val 10 ds)) ds.length (List.length_pos_iff.2 hne) (by rw [sgn_abs]; exact h1)
          simp only [List.length_cons]; omega
        · rw [if_neg hg] at h; cases h
    · rw [if_neg he] at h; cases h
theorem shape_small {L W F H X : List UInt8} {z : Int} (h : M.Shape L W F H X z) (h0 : M.fl L ≠ 0) (hL : L.length ≤ 100) : (bA W).size ≤ 400 ∧ (bA F).size ≤ 400 ∧ (tx z).size ≤ 101 ∧ M.okD 10 ((bA W).data.toList ++ (bA F).data.toList) = true := by
  have hle := h.le
  simp only [List.length_append, List.length_cons] at hle
  rw [bA_size, bA_size, bA_toList, bA_toList]
  have hz := tl_small h.pow
  by_cases h3 : M.fl L = 3
  · obtain ⟨D, R, rfl, hD, hR, hW, _, _⟩ := h.six h3
    have hd := (M.okD_iff _ _).1 hD
    have hsx := M.six_lt D R hd.2
    have hw := M.dg_len_le _ _ (by omega) hsx
    rw [← hW] at hw
    simp only [List.length_append, List.length_cons] at hle
    refine ⟨by omega, by omega, by omega, ?_⟩
    rw [M.okD_iff, M.allD_append, h.digF, hW, M.dg_all]
    exact ⟨fun e => M.dg_ne _ (List.append_eq_nil_iff.1 e).1, rfl⟩
  · obtain ⟨rfl, hW, h1, h2⟩ := h.plain h3
    refine ⟨by omega, by omega, by omega, ?_⟩
    rw [M.okD_iff, M.allD_append, h.digF, hW]
    refine ⟨fun e => ?_, rfl⟩
    obtain ⟨e1, e2⟩ := List.append_eq_nil_iff.1 e
    exact h2 e1 e2
/-- Both sides' Make answer the same, and that there is a decimal. -/
theorem make_both (neg : Bool) (A F : ByteArray) (z : Int) (hA : A.size ≤ 400) (hF : F.size ≤ 400) (hX : (tx z).size ≤ 101) (h1 : M.okD 10 (A.data.toList ++ F.data.toList) = true) :
    ∃ (k : Int) (n : Bool) (D E : ByteArray), D.size ≤ 1000 ∧ E.size ≤ 1000 ∧ (∀ W, Tab W → Calls Tryz.prog 52 #[.bool neg, .string A, .string F, .string (tx z)] W fun e w' => e = .returned (.tuple #[dV k n D E, .bool true]) ∧ Below W.heap.size W w') ∧ (∀ W, Calls Tryz.prog 72 #[.bool neg, .string A, .string F, .string (tx z)] W fun e w' => e = .returned (.tuple #[dV k n D E, .bool true]) ∧ Below W.heap.size W w') := by
  by_cases hv : M.val 10 (A.data.toList ++ F.data.toList) = 0
  · exact ⟨_, _, _, _, (by decide), (by decide), fun W _ => make_zero neg A F z W (by omega) (by omega) (by omega) h1 hv, fun W => rmake_zero neg A F z W (by omega) (by omega) (by omega) h1 hv⟩
  · obtain ⟨c, t, hc, hct⟩ := M.exists_ct _ (Nat.pos_of_ne_zero hv)
    obtain ⟨m, hm⟩ := M.ct_of_val ((M.okD_iff _ _).1 h1).2 hc hct
    have h3 := congrArg List.length hm
    simp only [List.length_append, List.length_replicate, ← sz_list] at h3
    have h4 := M.txt_abs z
    rw [← tx_size] at h4
    have h5 : 10 ^ (tx z).size ≤ 10 ^ 101 := Nat.pow_le_pow_right (by omega) hX
    have h6 : (10 : Nat) ^ 102 = 10 ^ 101 * 10 := Nat.pow_succ ..
    have h7 : 1000 ≤ 10 ^ 101 := Nat.le_trans (show 1000 ≤ 10 ^ 3 by decide) (Nat.pow_le_pow_right (by omega) (by omega))
    have h8 := tx_len (z + ((t : Int) - F.size)) 102 (by omega) (by generalize (10 : Nat) ^ 102 = P at *; generalize (10 : Nat) ^ 101 = Q at *; omega)
    exact ⟨_, _, _, _, by rw [bA_size]; omega, by omega, fun W hW => make_yes neg A F z c t W hW (by omega) (by omega) (by omega) h1 hc hct, fun W => rmake_yes neg A F z c t W (by omega) (by omega) (by omega) h1 hc hct⟩
/-- What both sides answer of s. -/
def Both (s : ByteArray) : Prop := ∃ (k : Int) (n : Bool) (D E : ByteArray), D.size ≤ 1000 ∧ E.size ≤ 1000 ∧
  (∀ w, Env w → Calls Tryz.prog 23 #[.string s] w fun e w' => e = .returned (.tuple #[dV k n D E, .bool (decide (M.flo s.data.toList ≠ 0))]) ∧ Below w.heap.size w w') ∧
  (∀ w, Calls Tryz.prog 35 #[.string s] w fun e w' => e = .returned (.tuple #[dV k n D E, .int .i64 (M.flo s.data.toList : Nat)]) ∧ Below w.heap.size w w')
theorem both_none (s : ByteArray) (hs : s.size ≤ 100) (h : M.flo s.data.toList = 0) (c : ∀ w, Calls Tryz.prog 35 #[.string s] w fun e w' => e = .returned (.tuple #[dZ, .int .i64 0]) ∧ Below w.heap.size w w') : Both s := by
  refine ⟨0, false, ⟨#[]⟩, ⟨#[]⟩, (by decide), (by decide), fun w he => ?_, fun w => ?_⟩
  · rw [h]; exact fof_no s w (by omega) h
  · rw [h]; exact c w
theorem both_plain (s : ByteArray) (hs : s.size ≤ 100) (W F : List UInt8) (z : Int) (hP : M.Parts (M.body s.data.toList) W F z) (hf : M.flo s.data.toList = M.fl (M.body s.data.toList)) (hf0 : M.flo s.data.toList = 1 ∨ M.flo s.data.toList = 2)
    (c : ∀ (k : Int) (n ok : Bool) (D E : ByteArray), (∀ W', Calls Tryz.prog 72 #[.bool (M.isNeg s.data.toList), .string (bA W), .string (bA F), .string (tx z)] W' fun e w' => e = .returned (.tuple #[dV k n D E, .bool ok]) ∧ Below W'.heap.size W' w') → ∀ w, Calls Tryz.prog 35 #[.string s] w fun e w' => e = .returned (.tuple #[dV k n D E, .int .i64 (M.flo s.data.toList : Nat)]) ∧ Below w.heap.size w w') : Both s := by
  obtain ⟨H, X, hS⟩ := M.shape hP
  have hbl := M.body_len s.data.toList
  rw [← sz_list] at hbl
  obtain ⟨h1, h2, h3, h4⟩ := shape_small hS (by omega) (by omega)
  obtain ⟨k, n, D, E, g1, g2, g3, g4⟩ := make_both (M.isNeg s.data.toList) (bA W) (bA F) z h1 h2 h3 h4
  refine ⟨k, n, D, E, g1, g2, fun w he => ?_, fun w => c k n true D E g4 w⟩
  rw [decide_eq_true (by omega)]
  exact fof_plain s w he (by omega) W F H X z hS hf hf0 k n true D E g3
theorem both_six (s : ByteArray) (hs : s.size ≤ 100) (W F : List UInt8) (z : Int) (hP : M.Parts (M.body s.data.toList) W F z) (hf : M.flo s.data.toList = M.fl (M.body s.data.toList)) (hf0 : M.flo s.data.toList = 3)
    (c : ∀ (k : Int) (n ok : Bool) (D E : ByteArray), (∀ W', Calls Tryz.prog 72 #[.bool (M.isNeg s.data.toList), .string (bA W), .string (bA F), .string (tx z)] W' fun e w' => e = .returned (.tuple #[dV k n D E, .bool ok]) ∧ Below W'.heap.size W' w') → ∀ w, Calls Tryz.prog 35 #[.string s] w fun e w' => e = .returned (.tuple #[dV k n D E, .int .i64 (M.flo s.data.toList : Nat)]) ∧ Below w.heap.size w w') : Both s := by
  obtain ⟨H, X, hS⟩ := M.shape hP
  have hbl := M.body_len s.data.toList
  rw [← sz_list] at hbl
  obtain ⟨h1, h2, h3, h4⟩ := shape_small hS (by omega) (by omega)
  obtain ⟨k, n, D, E, g1, g2, g3, g4⟩ := make_both (M.isNeg s.data.toList) (bA W) (bA F) z h1 h2 h3 h4
  refine ⟨k, n, D, E, g1, g2, fun w he => ?_, fun w => c k n true D E g4 w⟩
  rw [decide_eq_true (by omega)]
  exact fof_six s w he (by omega) W F H X z hS hf hf0 k n true D E g3
theorem body_less {l : List UInt8} (h : l ∉ M.nans) (hb : M.body l ∈ M.nans) : (M.body l).length < l.length := by
  match l, h, hb with
  | [], _, hb => exact absurd hb (by decide)
  | c :: r, h, hb =>
    have key : M.body (c :: r) = r ∨ M.body (c :: r) = c :: r := by
      by_cases h1 : c = 43
      · left; exact (head_43 h1).2
      · by_cases h2 : c = 45
        · left; exact (head_45 h2).2
        · right; exact (head_else h1 h2).2
    rcases key with e | e
    · rw [e]; simp
    · rw [e] at hb; exact absurd hb h
theorem nan_cut {l : List UInt8} (h : l ∈ M.nans) : ∃ r, l = 46 :: r ∧ M.tl (M.bk r) = none ∧ M.fl l = 0 ∧ M.body l = l := by
  simp only [M.nans, List.mem_cons, List.not_mem_nil, or_false] at h
  rcases h with rfl | rfl | rfl
  · exact ⟨_, rfl, by decide, by decide, by decide⟩
  · exact ⟨_, rfl, by decide, by decide, by decide⟩
  · exact ⟨_, rfl, by decide, by decide, by decide⟩
/-- Of every short text both sides answer the same. -/
theorem float_agree (s : ByteArray) (hs : s.size ≤ 100) : Both s := by
  by_cases hnan : s.data.toList ∈ M.nans
  · have hf : M.flo s.data.toList = 5 := by unfold M.flo; rw [if_pos hnan]
    obtain ⟨_, _, _, _, hb⟩ := nan_cut hnan
    refine ⟨2, false, ⟨#[]⟩, ⟨#[]⟩, (by decide), (by decide), fun w he => ?_, fun w => ?_⟩
    · rw [hf]; exact fof_nan s w (by omega) hf
    · rw [hf]; exact rf_n s w (by omega) (by rw [hb]; exact hnan) (by rw [hb, bA_size, ← sz_list]; omega)
  by_cases hinf : M.body s.data.toList ∈ M.infs
  · have hf : M.flo s.data.toList = 4 := by unfold M.flo; rw [if_neg hnan, if_pos hinf]
    refine ⟨1, M.isNeg s.data.toList, ⟨#[]⟩, ⟨#[]⟩, (by decide), (by decide), fun w he => ?_, fun w => ?_⟩
    · rw [hf]; exact fof_inf s w (by omega) hf
    · rw [hf]; exact rf_i s w (by omega) hinf
  have hf : M.flo s.data.toList = M.fl (M.body s.data.toList) := by unfold M.flo; rw [if_neg hnan, if_neg hinf]
  by_cases hbn : M.body s.data.toList ∈ M.nans
  · obtain ⟨r, hr, ht, h0, _⟩ := nan_cut hbn
    have hlt := body_less hnan hbn
    exact both_none s hs (hf.trans h0) fun w => rf_z7 s w r (by omega) hr (by simp) ht (by rw [bA_size, sz_list]; exact hlt) fun W => by
      have := rodd_nans (bA (M.body s.data.toList)) (M.isNeg s.data.toList) true W (by rw [bA_toList]; exact hbn)
      simpa using this
  rcases M.split_at 46 (M.body s.data.toList) with hn | ⟨P, l, hL, hP⟩
  · exact both_none s hs (hf.trans (M.fl_no _ hn)) fun w => rf_z1 s w (by omega) hinf hbn hn
  · cases ht : M.tl (M.bk l) with
    | none =>
      refine both_none s hs (hf.trans ?_) fun w => rf_z2 s w P l (by omega) hinf hbn hL hP ht
      rw [hL]
      match P, hP with
      | [], _ => rw [List.nil_append, M.fl_two, ht]; simp
      | c :: P, hP =>
        rw [M.fl_yes c P l (hP c (by simp)) (fun x hx => hP x (by simp [hx])), ht]
        have : M.fA P = 6 → M.bk l ≠ [] := fun _ e => by rw [e] at ht; cases ht
        split
        · split
          · rfl
          · split
            · rename_i h6; rw [if_neg (this h6)]
            · rfl
        · rfl
    | some z =>
      match P, hP, hL with
      | [], hP, hL =>
        rw [List.nil_append] at hL
        by_cases hg : M.gone (M.fr l) = []
        · exact both_none s hs (by rw [hf, hL, M.fl_two, if_pos hg]) fun w => rf_z3 s w l z (by omega) hinf hbn hL (by simp) ht hg
        · have h2 : M.fl (M.body s.data.toList) = 2 := by rw [hL, M.fl_two, if_neg hg, ht]; rfl
          refine both_plain s hs [] (M.gone (M.fr l)) z (Or.inr (Or.inl ⟨h2, l, hL, hg, rfl, rfl, ht⟩)) hf (Or.inr (hf.trans h2)) fun k n ok D E cM w => ?_
          rw [hf, h2]
          exact rf_y2 s w l z (by omega) hinf hbn hL (by simp) ht hg k n ok D E cM
      | c :: P, hP, hL =>
        have hc : c ≠ 46 := hP c (by simp)
        have hP' : ∀ x ∈ P, x ≠ 46 := fun x hx => hP x (by simp [hx])
        have e := M.fl_yes c P l hc hP'
        by_cases hd : M.dv c < 10
        · rw [if_pos hd] at e
          rcases M.fA_cases P with ⟨h5, ha⟩ | ⟨h6, hb, D0, R, rfl, hD, ha, hR⟩ | ⟨h0, hb⟩
          · rw [if_pos h5, ht] at e
            have h1 : M.fl (M.body s.data.toList) = 1 := by rw [hL, e]; rfl
            refine both_plain s hs (c :: M.gone P) (M.gone (M.fr l)) z (Or.inl ⟨h1, c, P, l, hL, hc, hP', hd, ha, rfl, rfl, ht⟩) hf (Or.inl (hf.trans h1)) fun k n ok D E cM w => ?_
            rw [hf, h1]
            exact rf_y1 s w c P l z (by omega) hinf hbn hL hP ht hd ha k n ok D E cM
          · rw [if_neg (by omega), if_pos h6] at e
            by_cases hbk : M.bk l = []
            · rw [if_pos hbk] at e
              have h3 : M.fl (M.body s.data.toList) = 3 := by rw [hL, e]
              have hz : z = 0 := by rw [hbk, M.tl] at ht; exact (Option.some.inj ht).symm
              refine both_six s hs _ (M.gone (M.fr l)) z (Or.inr (Or.inr ⟨h3, c, D0, R, l, hL, hc, hP', hd, hD, ha, hR, hbk, rfl, rfl, hz⟩)) hf (hf.trans h3) fun k n ok D E cM w => ?_
              rw [hf, h3]
              refine rf_y3 s w c D0 R l z (by omega) hinf hbn hL hP ht hd hD ha hR hbk k n ok D E ?_
              have hx : bA (M.dg (M.sx (M.val 10 (c :: M.gone D0)) 0 R)) = tx ((M.sx (M.val 10 (c :: M.gone D0)) 0 R : Nat) : Int) := by unfold tx; rw [M.txt_nat]
              rw [hx] at cM
              exact cM
            · rw [if_neg hbk] at e
              exact both_none s hs (by rw [hf, hL, e]) fun w => rf_z6 s w c D0 R l z (by omega) hinf hbn hL hP ht hd hD ha hR hbk
          · rw [if_neg (by omega), if_neg (by omega)] at e
            exact both_none s hs (by rw [hf, hL, e]) fun w => rf_z5 s w c P l z (by omega) hinf hbn hL hP ht hd hb h0
        · rw [if_neg hd] at e
          exact both_none s hs (by rw [hf, hL, e]) fun w => rf_z4 s w c P l z (by omega) hinf hbn hL hP ht hd
end Go.Proofs.YtipgipgehnhgkaaGreatDoor

namespace Go.Proofs.YtipgipgehnhgkaaGreatDoor
open Go.RowKit
namespace M
theorem body_cases (c : UInt8) (l : List UInt8) : body (c :: l) = l ∨ body (c :: l) = c :: l := by
  by_cases h1 : c = 43
  · left; exact (head_43 h1).2
  · by_cases h2 : c = 45
    · left; exact (head_45 h2).2
    · right; exact (head_else h1 h2).2
theorem body_append {l : List UInt8} (h : l ≠ []) (m : List UInt8) : body (l ++ m) = body l ++ m := by
  match l, h with
  | c :: r, _ =>
    rw [List.cons_append]
    by_cases h1 : c = 43
    · rw [(head_43 h1).2, (head_43 h1).2]
    · by_cases h2 : c = 45
      · rw [(head_45 h2).2, (head_45 h2).2]
      · rw [(head_else h1 h2).2, (head_else h1 h2).2]; rfl
theorem isNeg_append {l : List UInt8} (h : l ≠ []) (m : List UInt8) : isNeg (l ++ m) = isNeg l := by
  match l, h with
  | c :: r, _ => simp [isNeg]
theorem mem_okD {b : Nat} {l : List UInt8} (h : okD b l = true) (hb : b ≤ 99) : (46 : UInt8) ∉ l := by
  intro hm
  have := (allD_iff _ _).1 ((okD_iff _ _).1 h).2 46 hm
  rw [dv46] at this; omega
theorem form_no46 (U : List UInt8) (h : fB U ≠ 0) : (46 : UInt8) ∉ U := by
  intro hm
  have hg : (46 : UInt8) ∈ gone U := mem_gone.2 ⟨hm, by decide⟩
  rcases isForm U h with ⟨r, _, e, hd⟩ | ⟨r, _, e, hd⟩ | ⟨_, hd⟩ | ⟨_, e⟩ | ⟨_, hd, _⟩ | ⟨D, R, _, e, hd, _, hR⟩
  · rw [e] at hg
    rcases List.mem_cons.1 hg with k | hg
    · exact absurd k (by decide)
    rcases List.mem_cons.1 hg with k | hg
    · exact absurd k (by decide)
    exact mem_okD hd (by omega) hg
  · rw [e] at hg
    rcases List.mem_cons.1 hg with k | hg
    · exact absurd k (by decide)
    rcases List.mem_cons.1 hg with k | hg
    · exact absurd k (by decide)
    exact mem_okD hd (by omega) hg
  · exact mem_okD hd (by omega) hg
  · rw [e] at hm; exact absurd hm (by decide)
  · exact mem_okD hd (by omega) hg
  · rw [e] at hg
    rcases List.mem_append.1 hg with hg | hg
    · exact mem_okD hd (by omega) hg
    · rcases List.mem_cons.1 hg with k | hg
      · exact absurd k (by decide)
      · rcases fS_chars R 1 (by omega) 46 hg with k | k
        · rw [dv46] at k; omega
        · exact absurd k (by decide)
theorem tl_chars {X : List UInt8} {z : Int} (h : tl X = some z) : ∀ c ∈ X, dv c < 10 ∨ c = 101 ∨ c = 69 ∨ c = 43 ∨ c = 45 := by
  cases X with
  | nil => intro c hc; cases hc
  | cons e r =>
    rw [tl] at h
    by_cases he : e = 101 ∨ e = 69
    · rw [if_pos he] at h
      cases r with
      | nil => rw [tlE] at h; cases h
      | cons g ds =>
        rw [tlE] at h
        by_cases hg : (g = 43 ∨ g = 45) ∧ okD 10 ds = true
        · have hall := (allD_iff _ _).1 ((okD_iff _ _).1 hg.2).2
          intro c hc
          rcases List.mem_cons.1 hc with rfl | hc
          · rcases he with k | k
            · exact Or.inr (Or.inl k)
            · exact Or.inr (Or.inr (Or.inl k))
          · rcases List.mem_cons.1 hc with rfl | hc
            · rcases hg.1 with k | k
              · exact Or.inr (Or.inr (Or.inr (Or.inl k)))
              · exact Or.inr (Or.inr (Or.inr (Or.inr k)))
            · exact Or.inl (hall c hc)
        · rw [if_neg hg] at h; cases h
    · rw [if_neg he] at h; cases h
/-- A sign that a decimal may have. -/
def okc (c : UInt8) : Bool := decide (dv c < 10) || [95, 46, 58, 101, 69, 43, 45, 105, 110, 102, 73, 78, 70, 97, 65].contains c
theorem okc_dig {c : UInt8} (h : dv c < 10) : okc c = true := by unfold okc; rw [decide_eq_true h]; rfl
theorem count_none {l : List UInt8} (h : (46 : UInt8) ∉ l) : l.count 46 = 0 := List.count_eq_zero.2 h
theorem count_gone (l : List UInt8) : (gone l).count 46 = l.count 46 := by
  induction l with
  | nil => rfl
  | cons c l ih =>
    by_cases h : c = 95
    · rw [h, gone_eq, ih]; simp
    · rw [gone_ne l h, List.count_cons, List.count_cons, ih]
theorem fl_facts (L : List UInt8) (h : fl L ≠ 0) : L.count 46 = 1 ∧ ∀ c ∈ L, okc c = true := by
  obtain ⟨W, F, z, hp⟩ := isParts L h
  obtain ⟨H, X, hS⟩ := shape hp
  have hF : (46 : UInt8) ∉ F := fun k => by have := (allD_iff _ _).1 hS.digF 46 k; rw [dv46] at this; omega
  have hX : (46 : UInt8) ∉ X := fun k => by
    rcases tl_chars hS.pow 46 k with k | k | k | k | k
    · rw [dv46] at k; omega
    all_goals exact absurd k (by decide)
  have hHo : ∀ c ∈ H, okc c = true := by
    by_cases h3 : fl L = 3
    · obtain ⟨D, R, rfl, hD, hR, _⟩ := hS.six h3
      intro c hc
      rcases List.mem_append.1 hc with hc | hc
      · exact okc_dig ((allD_iff _ _).1 ((okD_iff _ _).1 hD).2 c hc)
      · rcases List.mem_cons.1 hc with rfl | hc
        · decide
        · rcases fS_chars R 1 (by omega) c hc with k | rfl
          · exact okc_dig k
          · decide
    · intro c hc; exact okc_dig ((allD_iff _ _).1 (hS.plain h3).2.1 c hc)
  constructor
  · rw [← count_gone, hS.eq, List.count_append, List.count_append, List.count_cons, count_none hF, count_none hX, count_none (fun k => hS.no46 46 k rfl)]; simp
  · intro c hc
    by_cases h95 : c = 95
    · rw [h95]; decide
    · have hg : c ∈ gone L := mem_gone.2 ⟨hc, h95⟩
      rw [hS.eq] at hg
      rcases List.mem_append.1 hg with hg | hg
      · rcases List.mem_append.1 hg with hg | hg
        · exact hHo c hg
        · rcases List.mem_cons.1 hg with rfl | hg
          · decide
          · exact okc_dig ((allD_iff _ _).1 hS.digF c hg)
      · rcases tl_chars hS.pow c hg with k | rfl | rfl | rfl | rfl
        · exact okc_dig k
        all_goals decide
theorem flo_cases (l : List UInt8) (h : flo l ≠ 0) : l ∈ nans ∨ body l ∈ infs ∨ fl (body l) ≠ 0 := by
  unfold flo at h
  by_cases h1 : l ∈ nans
  · exact Or.inl h1
  · rw [if_neg h1] at h
    by_cases h2 : body l ∈ infs
    · exact Or.inr (Or.inl h2)
    · rw [if_neg h2] at h; exact Or.inr (Or.inr h)
theorem flo_facts (l : List UInt8) (h : flo l ≠ 0) : (body l).count 46 = 1 ∧ ∀ c ∈ body l, okc c = true := by
  rcases flo_cases l h with h | h | h
  · simp only [nans, List.mem_cons, List.not_mem_nil, or_false] at h
    rcases h with rfl | rfl | rfl <;> decide
  · simp only [infs, List.mem_cons, List.not_mem_nil, or_false] at h
    rcases h with h | h | h <;> rw [h] <;> decide
  · exact fl_facts _ h
theorem flo_le5 (l : List UInt8) : flo l ≤ 5 := by
  unfold flo
  split
  · omega
  · split
    · omega
    · by_cases h : fl (body l) = 0
      · omega
      · rcases fl_le3 _ h with h | h | h <;> omega
theorem flo_ne {l : List UInt8} (h : flo l ≠ 0) : l ≠ [] := by intro e; rw [e] at h; exact h (by decide)
theorem flo_zero_mem (l : List UInt8) (c : UInt8) (hc : c ∈ body l) (ho : okc c = false) : flo l = 0 := by
  by_cases h : flo l = 0
  · exact h
  · have := (flo_facts l h).2 c hc
    rw [ho] at this; cases this
theorem flo_app_bad {l : List UInt8} (h : flo l ≠ 0) (c : UInt8) (ho : okc c = false) : flo (l ++ [c]) = 0 :=
  flo_zero_mem _ c (by rw [body_append (flo_ne h)]; simp) ho
theorem flo_cons_bad (l : List UInt8) (c : UInt8) (h1 : c ≠ 43) (h2 : c ≠ 45) (ho : okc c = false) : flo (c :: l) = 0 :=
  flo_zero_mem _ c (by rw [(head_else h1 h2).2]; simp) ho
theorem flo_two {l : List UInt8} (h : flo l ≠ 0) : flo (l ++ [46, 46]) = 0 := by
  by_cases h2 : flo (l ++ [46, 46]) = 0
  · exact h2
  · have h3 := (flo_facts _ h2).1
    rw [body_append (flo_ne h), List.count_append, (flo_facts l h).1] at h3
    exact absurd h3 (by decide)
theorem flo_signs (l : List UInt8) : flo (43 :: 45 :: l) = 0 := by
  by_cases h : flo (43 :: 45 :: l) = 0
  · exact h
  · have hb : body (43 :: 45 :: l) = 45 :: l := (head_43 rfl).2
    rcases flo_cases _ h with h | h | h
    · exact absurd h (by simp [nans])
    · rw [hb] at h; exact absurd h (by simp [infs])
    · rw [hb, fl, if_neg (by decide), if_neg (by decide)] at h; exact absurd rfl h
theorem flo_form {l : List UInt8} (h : flo l ≠ 0) : form l = 0 := by
  by_cases hf : form l = 0
  · exact hf
  · have h1 := form_no46 _ hf
    have h2 := (flo_facts l h).1
    rw [count_none h1] at h2; omega
theorem flo_form_app {l : List UInt8} (h : flo l ≠ 0) (c : UInt8) : form (l ++ [c]) = 0 := by
  by_cases hf : form (l ++ [c]) = 0
  · exact hf
  · have h1 := form_no46 _ hf
    have h2 := (flo_facts l h).1
    have h3 : (46 : UInt8) ∈ body l := by
      have : 0 < (body l).count 46 := by omega
      exact List.count_pos_iff.1 this
    exact absurd (by rw [body_append (flo_ne h)]; exact List.mem_append_left _ h3) h1
end M
theorem cat1 (b : UInt8) (s : ByteArray) : ((⟨#[b]⟩ : ByteArray) ++ s).data.toList = b :: s.data.toList := by rw [append_list]; rfl
theorem cat2 (b : UInt8) (s : ByteArray) : (s ++ (⟨#[b]⟩ : ByteArray)).data.toList = s.data.toList ++ [b] := by rw [append_list]
theorem sz1 (b : UInt8) (s : ByteArray) : ((⟨#[b]⟩ : ByteArray) ++ s).size = 1 + s.size := by rw [append_sz]; rfl
theorem sz2 (b : UInt8) (s : ByteArray) : (s ++ (⟨#[b]⟩ : ByteArray)).size = s.size + 1 := by rw [append_sz]; rfl
end Go.Proofs.YtipgipgehnhgkaaGreatDoor
