/- That float11's Of and the document's Float11 answer the same. Plain mathematics of what is put on a text; the law Float11Apart: its walk. That num12's Int and Float and the document's Int12 and Float12 answer the same. The law Num12Prints: its walk. -/
import Derived.Test.YtipgipgehnhgkaaGreatDoorBh
import Derived.Test.YtipgipgehnhgkaaGreatDoorBi
import Derived.Test.YtipgipgehnhgkaaGreatDoorBt
import Derived.Test.YtipgipgehnhgkaaGreatDoorBo
set_option linter.unusedVariables false
namespace Go.Proofs.YtipgipgehnhgkaaGreatDoor
open Go.RowKit

theorem tl_small {X : List UInt8} {z : Int} (h : M.tl X = some z) : (tx z).size ≤ X.length + 1 := by
  cases X with
  | nil => rw [M.tl] at h; obtain rfl := Option.some.inj h; rw [tx0]; decide
  | cons e r =>
    rw [M.tl] at h
    by_cases he : e = 101 ∨ e = 69
    · rw [if_pos he] at h
      cases r with
      | nil => rw [M.tlE] at h; cases h
      | cons g ds =>
        rw [M.tlE] at h
        by_cases hg : (g = 43 ∨ g = 45) ∧ M.okD 10 ds = true
        · rw [if_pos hg] at h
          obtain rfl := Option.some.inj h
          obtain ⟨hne, hal⟩ := (M.okD_iff _ _).1 hg.2
          have h1 := M.val_lt 10 ds hal
          have h2 := tx_len (M.sgn (decide (g = 45)) (M.val 10 ds)) ds.length (List.length_pos_iff.2 hne) (by rw [sgn_abs]; exact h1)
          simp only [List.length_cons]; omega
        · rw [if_neg hg] at h; cases h
    · rw [if_neg he] at h; cases h
theorem shape_small {L W F H X : List UInt8} {z : Int} (h : M.Shape L W F H X z) (h0 : M.fl L ≠ 0) (hL : L.length ≤ 100) : (bA W).size ≤ 400 ∧ (bA F).size ≤ 400 ∧ (tx z).size ≤ 101 ∧ M.okD 10 ((bA W).data.toList ++ (bA F).data.toList) = true := by
  have hle := h.le
  simp only [List.length_append, List.length_cons] at hle
  rw [bA_size, bA_size, bA_toList, bA_toList]
  have hz := tl_small h.pow
  by_cases h3 : M.fl L = 3
  · obtain ⟨D, R, rfl, hD, hR, hW, _, _⟩ := h.six h3
    have hd := (M.okD_iff _ _).1 hD
    have hsx := M.six_lt D R hd.2
    have hw := M.dg_len_le _ _ (by omega) hsx
    rw [← hW] at hw
    simp only [List.length_append, List.length_cons] at hle
    refine ⟨by omega, by omega, by omega, ?_⟩
    rw [M.okD_iff, M.allD_append, h.digF, hW, M.dg_all]
    exact ⟨fun e => M.dg_ne _ (List.append_eq_nil_iff.1 e).1, rfl⟩
  · obtain ⟨rfl, hW, h1, h2⟩ := h.plain h3
    refine ⟨by omega, by omega, by omega, ?_⟩
    rw [M.okD_iff, M.allD_append, h.digF, hW]
    refine ⟨fun e => ?_, rfl⟩
    obtain ⟨e1, e2⟩ := List.append_eq_nil_iff.1 e
    exact h2 e1 e2
end Go.Proofs.YtipgipgehnhgkaaGreatDoor

namespace Go.Proofs.YtipgipgehnhgkaaGreatDoor
open Go.RowKit
namespace M
theorem mem_okD {b : Nat} {l : List UInt8} (h : okD b l = true) (hb : b ≤ 99) : (46 : UInt8) ∉ l := by
  intro hm
  have := (allD_iff _ _).1 ((okD_iff _ _).1 h).2 46 hm
  rw [dv46] at this; omega
theorem form_no46 (U : List UInt8) (h : fB U ≠ 0) : (46 : UInt8) ∉ U := by
  intro hm
  have hg : (46 : UInt8) ∈ gone U := mem_gone.2 ⟨hm, by decide⟩
  rcases isForm U h with ⟨r, _, e, hd⟩ | ⟨r, _, e, hd⟩ | ⟨_, hd⟩ | ⟨_, e⟩ | ⟨_, hd, _⟩ | ⟨D, R, _, e, hd, _, hR⟩
  · rw [e] at hg
    rcases List.mem_cons.1 hg with k | hg
    · exact absurd k (by decide)
    rcases List.mem_cons.1 hg with k | hg
    · exact absurd k (by decide)
    exact mem_okD hd (by omega) hg
  · rw [e] at hg
    rcases List.mem_cons.1 hg with k | hg
    · exact absurd k (by decide)
    rcases List.mem_cons.1 hg with k | hg
    · exact absurd k (by decide)
    exact mem_okD hd (by omega) hg
  · exact mem_okD hd (by omega) hg
  · rw [e] at hm; exact absurd hm (by decide)
  · exact mem_okD hd (by omega) hg
  · rw [e] at hg
    rcases List.mem_append.1 hg with hg | hg
    · exact mem_okD hd (by omega) hg
    · rcases List.mem_cons.1 hg with k | hg
      · exact absurd k (by decide)
      · rcases fS_chars R 1 (by omega) 46 hg with k | k
        · rw [dv46] at k; omega
        · exact absurd k (by decide)
end M
end Go.Proofs.YtipgipgehnhgkaaGreatDoor

namespace Go.Proofs.YtipgipgehnhgkaaGreatDoor
open Go.RowKit

theorem iv_of_ok {l : List UInt8} (h : M.okD 10 (M.body l) = true) : M.iv l = some (M.sgn (M.isNeg l) (M.val 10 (M.body l))) := by
  have h3 := (M.gl_whole _).2 h
  rcases form_iv l with ⟨d, _, e, _, _⟩ | ⟨d, _, e, _, _⟩ | ⟨_, _, e⟩ | ⟨hf, e⟩
  · rw [e, (M.body_else _ (by decide) (by decide)).2, M.gl_mark _ _ (Or.inl rfl)] at h3; omega
  · rw [e, (M.body_else _ (by decide) (by decide)).2, M.gl_mark _ _ (Or.inr rfl)] at h3; omega
  · exact e
  · exfalso
    unfold M.iv at e
    by_cases h1 : l.take 2 = [48, 111]
    · rw [M.take2 h1, (M.body_else _ (by decide) (by decide)).2, M.gl_mark _ _ (Or.inl rfl)] at h3; omega
    · by_cases h2 : l.take 2 = [48, 120]
      · rw [M.take2 h2, (M.body_else _ (by decide) (by decide)).2, M.gl_mark _ _ (Or.inr rfl)] at h3; omega
      · rw [if_neg h1, if_neg h2, if_pos h] at e; cases e
end Go.Proofs.YtipgipgehnhgkaaGreatDoor

namespace Go.Proofs.YtipgipgehnhgkaaGreatDoor
open Go.RowKit
namespace M
theorem pw_txt (z : Int) : pw (101 :: (pls (txt z) ++ txt z)) = some z := by
  rw [pw, if_pos (Or.inl rfl), pwE]
  by_cases h : z < 0
  · have e : txt z = 45 :: dg z.natAbs := by
      have h1 := isNeg_split (txt z) (by rw [txt_isNeg]; exact decide_eq_true h)
      rw [txt_unsign] at h1; exact h1
    have hp : pls (txt z) = [] := by unfold pls; rw [txt_isNeg, decide_eq_true h]; rfl
    rw [hp, e, List.nil_append, (body_45 _).2, (body_45 _).1, if_pos (dg_ok _), dg_val]
    congr 1
    show -((z.natAbs : Nat) : Int) = z
    omega
  · have hp : pls (txt z) = [43] := by unfold pls; rw [txt_isNeg, decide_eq_false h]; rfl
    have e : txt z = dg z.natAbs := by
      have := txt_nat z.natAbs
      rw [show ((z.natAbs : Nat) : Int) = z by omega] at this; exact this
    rw [hp, e, List.singleton_append, (body_43 _).2, (body_43 _).1, if_pos (dg_ok _), dg_val]
    congr 1
    show ((z.natAbs : Nat) : Int) = z
    omega
/-- What is printed of a decimal is read as it. -/
theorem prt_read (n : Bool) (D : List UInt8) (z : Int) (hD : okD 10 D = true) : isNeg (prt 0 n D (txt z)) = n ∧ gl (body (prt 0 n D (txt z))) = 4 ∧ Num (body (prt 0 n D (txt z))) D [] (D ++ [46]) (101 :: (pls (txt z) ++ txt z)) z := by
  have hp : prt 0 n D (txt z) = mns n ++ (D ++ 46 :: ([] ++ 101 :: (pls (txt z) ++ txt z))) := by unfold prt; rw [if_neg (by decide), if_neg (by decide)]; rfl
  obtain ⟨hne, hal⟩ := (okD_iff _ _).1 hD
  have hx := pw_txt z
  obtain ⟨g1, g2, g3, g4⟩ := num_dot D [] (101 :: (pls (txt z) ++ txt z)) z hal rfl (by simpa using hne) hx
  have hb : isNeg (prt 0 n D (txt z)) = n ∧ body (prt 0 n D (txt z)) = D ++ 46 :: ([] ++ 101 :: (pls (txt z) ++ txt z)) := by
    rw [hp]
    cases n
    · cases D with
      | nil => exact absurd rfl hne
      | cons c r =>
        rw [allD_cons, Bool.and_eq_true, decide_eq_true_eq] at hal
        have h43 : c ≠ 43 := by intro e; rw [e, dv43] at hal; omega
        have h45 : c ≠ 45 := by intro e; rw [e, dv45] at hal; omega
        exact body_else _ h43 h45
    · exact body_45 _
  rw [hb.2]
  refine ⟨hb.1, g1, ⟨by simp, Or.inr rfl, hal, rfl, by simpa using hne, hx⟩⟩
end M
end Go.Proofs.YtipgipgehnhgkaaGreatDoor
