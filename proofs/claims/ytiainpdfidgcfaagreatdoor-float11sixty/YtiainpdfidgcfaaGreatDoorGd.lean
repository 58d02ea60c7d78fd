/- The law Float11Parts: its walk. -/
import Derived.Test.YtiainpdfidgcfaaGreatDoorGc
set_option linter.unusedVariables false
namespace Go.Proofs.YtiainpdfidgcfaaGreatDoor
open Go.RowKit
namespace M
theorem second_odd {d : UInt8} {r l : List UInt8} (hd : dv d < 10) (h : 46 :: d :: r = l) : l ∉ infs ∧ l ∉ nans := by
  subst h
  have key : ∀ x : UInt8, dv x = 99 → d ≠ x := fun x hx e => by rw [e, hx] at hd; omega
  constructor
  · intro h
    simp only [infs, List.mem_cons, List.not_mem_nil, or_false, List.cons.injEq] at h
    rcases h with ⟨_, h, _⟩ | ⟨_, h, _⟩ | ⟨_, h, _⟩
    · exact key 105 (by decide) h
    · exact key 73 (by decide) h
    · exact key 73 (by decide) h
  · intro h
    simp only [nans, List.mem_cons, List.not_mem_nil, or_false, List.cons.injEq] at h
    rcases h with ⟨_, h, _⟩ | ⟨_, h, _⟩ | ⟨_, h, _⟩
    · exact key 110 (by decide) h
    · exact key 78 (by decide) h
    · exact key 78 (by decide) h
/-- Digits, a point, digits, a power. -/
theorem parts_digits (Wl F X : List UInt8) (z : Int) (hW : allD 10 Wl = true) (hF : allD 10 F = true) (hne : Wl ≠ [] ∨ F ≠ []) (hX : tl X = some z) :
    Parts (Wl ++ 46 :: (F ++ X)) Wl F z ∧ fl (Wl ++ 46 :: (F ++ X)) = (if Wl = [] then 2 else 1) ∧ body (Wl ++ 46 :: (F ++ X)) = Wl ++ 46 :: (F ++ X) ∧ isNeg (Wl ++ 46 :: (F ++ X)) = false := by
  have dF : ∀ x ∈ F, du x = true := fun x hx => (du_iff x).2 (Or.inr ((allD_iff _ _).1 hF x hx))
  have gF : gone F = F := gone_no _ fun x hx => ne95 ((allD_iff _ _).1 hF x hx) (by omega)
  obtain ⟨e1, e2⟩ := fr_app F X dF (tl_head hX)
  cases Wl with
  | nil =>
    have hF0 : F ≠ [] := hne.resolve_left (fun k => k rfl)
    have h := parts_two F X z dF (by rw [gF]; exact hF0) hX
    rw [gF] at h
    rw [List.nil_append]
    refine ⟨h, ?_, (body_46 _).1, (body_46 _).2⟩
    rw [if_pos rfl, fl_two, e1, gF, if_neg hF0, e2, hX]; rfl
  | cons c P =>
    rw [allD_cons, Bool.and_eq_true, decide_eq_true_eq] at hW
    obtain ⟨hc, hP⟩ := hW
    have dP : ∀ x ∈ P, du x = true := fun x hx => (du_iff x).2 (Or.inr ((allD_iff _ _).1 hP x hx))
    have gP : gone P = P := gone_no _ fun x hx => ne95 ((allD_iff _ _).1 hP x hx) (by omega)
    have h := parts_one c P F X z hc dP dF hX
    rw [gP, gF] at h
    refine ⟨h, ?_, (body_dig (r := P ++ 46 :: (F ++ X)) hc).1, (body_dig (r := P ++ 46 :: (F ++ X)) hc).2⟩
    rw [if_neg (by simp), fl_yes c P _ (ne46 hc (by omega)) (du_46 dP), if_pos hc, e2, hX]
    rcases fA_cases P with ⟨h5, _⟩ | ⟨_, hb, _⟩ | ⟨_, hb⟩
    · rw [if_pos h5]; rfl
    · rw [gone_du dP] at hb; cases hb
    · rw [gone_du dP] at hb; cases hb
theorem bad_digits (Wl F X : List UInt8) (hW : allD 10 Wl = true) (hF : allD 10 F = true) (hne : Wl ≠ [] ∨ F ≠ []) (hX : ∃ e r, X = e :: r ∧ (e = 101 ∨ e = 69)) (ht : tl X = none) : flo (Wl ++ 46 :: (F ++ X)) = 0 := by
  cases Wl with
  | cons c P =>
    rw [allD_cons, Bool.and_eq_true, decide_eq_true_eq] at hW
    exact fl_bad_tail c P F X hW.1 hW.2 hF hX ht
  | nil =>
    have hF0 : F ≠ [] := hne.resolve_left (fun k => k rfl)
    have dF : ∀ x ∈ F, du x = true := fun x hx => (du_iff x).2 (Or.inr ((allD_iff _ _).1 hF x hx))
    obtain ⟨e1, e2⟩ := fr_app F X dF (Or.inr hX)
    rw [List.nil_append]
    have hb := (body_46 (F ++ X)).1
    have hs : 46 :: (F ++ X) ∉ infs ∧ 46 :: (F ++ X) ∉ nans := by
      cases F with
      | nil => exact absurd rfl hF0
      | cons d r =>
        rw [allD_cons, Bool.and_eq_true, decide_eq_true_eq] at hF
        exact second_odd hF.1 rfl
    unfold flo
    rw [if_neg hs.2, hb, if_neg hs.1, fl_two, e1, e2, ht]
    split <;> rfl
end M
set_option maxRecDepth 100000 in
set_option maxHeartbeats 40000000 in
theorem parts_pow (s f e : ByteArray) (U Dn neg : Bool) (LB GB SB : UInt8) (FV : Nat) (w : World) (he : Env w) (h1 : s.size ≤ 30) (h2 : f.size ≤ 30) (h3 : 1 ≤ e.size) (h4 : e.size ≤ 30) (h5 : 1 ≤ s.size + f.size)
    (hU : (U = true ∧ LB = 69) ∨ (U = false ∧ LB = 101)) (hD : (Dn = true ∧ GB = 45) ∨ (Dn = false ∧ GB = 43)) (hN : (neg = true ∧ SB = 45) ∨ (neg = false ∧ SB = 43)) (hZ : (s.size = 0 ∧ FV = 2) ∨ (s.size ≠ 0 ∧ FV = 1))
    (BW BF BE Z : ByteArray) (k : Int) (n : Bool) (D E : ByteArray) (b1 : BW.size ≤ 30) (b2 : BF.size ≤ 30) (b3 : BE.size ≤ 30)
    (cW : ∀ W, Calls Tryz.prog 13 #[.string s] W fun e w' => e = .returned (.string BW) ∧ Below W.heap.size W w')
    (cF : ∀ W, Calls Tryz.prog 13 #[.string f] W fun e w' => e = .returned (.string BF) ∧ Below W.heap.size W w')
    (cE : ∀ W, Calls Tryz.prog 13 #[.string e] W fun e w' => e = .returned (.string BE) ∧ Below W.heap.size W w')
    (cI : ∀ W, Calls Tryz.prog 11 #[.string (BW ++ ⟨#[46]⟩ ++ BF ++ ⟨#[LB]⟩ ++ BE)] W fun e w' => e = .returned (.bool false) ∧ W = w')
    (cN : ∀ W, Calls Tryz.prog 14 #[.bool Dn, .string BE] W fun e w' => e = .returned (.string Z) ∧ W = w')
    (cM : ∀ W, Calls Tryz.prog 15 #[.bool neg, .string BW, .string BF, .string Z] W fun e w' => e = .returned (.tuple #[dV k n D E, .bool true]) ∧ Below W.heap.size W w')
    (cO : ∀ W, Env W → Calls Tryz.prog 9 #[.string (⟨#[SB]⟩ ++ (BW ++ ⟨#[46]⟩ ++ BF ++ ⟨#[LB]⟩ ++ ⟨#[GB]⟩ ++ BE))] W fun e w' => e = .returned (.tuple #[dV k n D E, .bool true]) ∧ Below W.heap.size W w')
    (cA : ∀ W, Calls Tryz.prog 12 #[.string (BW ++ ⟨#[46]⟩ ++ BF ++ ⟨#[LB]⟩ ++ ⟨#[GB]⟩ ++ BE)] W fun e w' => e = .returned (.int .i64 (FV : Nat)) ∧ W = w')
    (cB : ∀ W, Calls Tryz.prog 12 #[.string (⟨#[SB]⟩ ++ (BW ++ ⟨#[46]⟩ ++ BF ++ ⟨#[LB]⟩ ++ ⟨#[GB]⟩ ++ BE))] W fun e w' => e = .returned (.int .i64 (FV : Nat)) ∧ W = w') :
    Calls Tryz.prog 4 #[.string s, .string f, .string e, .bool neg, .bool Dn, .bool true, .bool U] w fun e w' => e = .returned (.bool true) ∧ Below w.heap.size w w' := by
  have d1 : decide ((s.size : Int) + (f.size : Int) < 1) = false := decide_eq_false (by omega)
  have d2 : decide (30 < s.size) = false := decide_eq_false (by omega)
  have d3 : decide (30 < f.size) = false := decide_eq_false (by omega)
  have d4 : decide (e.size < 1) = false := decide_eq_false (by omega)
  have d5 : decide (30 < e.size) = false := decide_eq_false (by omega)
  have eG := eqG
  have e4 := eql4
  obtain ⟨S2, hS2⟩ : ∃ S2, BW ++ ⟨#[46]⟩ ++ BF ++ ⟨#[LB]⟩ ++ ⟨#[GB]⟩ ++ BE = S2 := ⟨_, rfl⟩
  have hS2z : S2.size ≤ 95 := by rw [← hS2]; simp only [append_sz]; show BW.size + 1 + BF.size + 1 + 1 + BE.size ≤ 95; omega
  obtain ⟨SS, hSS⟩ : ∃ SS, BW ++ ⟨#[46]⟩ ++ BF = SS := ⟨_, rfl⟩
  have hSz : SS.size ≤ 61 := by rw [← hSS]; simp only [append_sz]; show BW.size + 1 + BF.size ≤ 61; omega
  rw [hS2] at cO cA cB
  rw [hSS] at cI hS2
  have hz0 : (((s.size : Int) == 0) = true ∧ FV = 2) ∨ (((s.size : Int) == 0) = false ∧ FV = 1) := by
    rcases hZ with ⟨a, b⟩ | ⟨a, b⟩
    · exact Or.inl ⟨beq_iff_eq.2 (by omega), b⟩
    · exact Or.inr ⟨beq_eq_false_iff_ne.2 (by omega), b⟩
  clear hZ
  have hf0 : ((s.size : Int) == 0) = true → ((f.size : Int) == 0) = false := fun h => beq_eq_false_iff_ne.2 (by have := beq_iff_eq.1 h; omega)
  rcases hU with ⟨rfl, rfl⟩ | ⟨rfl, rfl⟩ <;> rcases hD with ⟨rfl, rfl⟩ | ⟨rfl, rfl⟩ <;> rcases hN with ⟨rfl, rfl⟩ | ⟨rfl, rfl⟩ <;> rcases hz0 with ⟨hq, rfl⟩ | ⟨hq, rfl⟩
  all_goals first | have hq2 := hf0 hq | skip
  all_goals
    clear hf0
    go_enter Tryz.func4, Tryz.ntmps4
    go_wp2_with fail
    refine (known_any _ he).mono ?_
    rintro r w1 ⟨rfl, hb1⟩
    go_wp2_with fail
    refine (cW _).mono ?_
    rintro r w2 ⟨rfl, hw2⟩
    have B2 : Below w.heap.size w w2 := below_on hb1 hw2
    go_wp2_with fail
    refine (cF _).mono ?_
    rintro r w3 ⟨rfl, hw3⟩
    have B3 : Below w.heap.size w w3 := below_on B2 hw3
    clear hb1 hw2 B2 hw3
    go_wp2_with fail
    refine (cE _).mono ?_
    rintro r w4 ⟨rfl, hw4⟩
    have B4 : Below w.heap.size w w4 := below_on B3 hw4
    go_wp2_with fail
    refine (cI _).mono ?_
    rintro r w' ⟨rfl, rfl⟩
    go_wp2_with fail
    refine (cE _).mono ?_
    rintro r w5 ⟨rfl, hw5⟩
    have B5 : Below w.heap.size w w5 := below_on B4 hw5
    clear B3 hw4 B4 hw5
    go_wp2_with fail
    refine (cE _).mono ?_
    rintro r w6 ⟨rfl, hw6⟩
    have B6 : Below w.heap.size w w6 := below_on B5 hw6
    go_wp2_with fail
    refine (cN _).mono ?_
    rintro r w' ⟨rfl, rfl⟩
    go_wp2_with fail
    refine (cW _).mono ?_
    rintro r w7 ⟨rfl, hw7⟩
    have B7 : Below w.heap.size w w7 := below_on B6 hw7
    clear B5 hw6 B6 hw7
    go_wp2_with fail
    refine (cF _).mono ?_
    rintro r w8 ⟨rfl, hw8⟩
    have B8 : Below w.heap.size w w8 := below_on B7 hw8
    go_wp2_with fail
    refine (cM _).mono ?_
    rintro r w9 ⟨rfl, hw9⟩
    have B9 : Below w.heap.size w w9 := below_on B8 hw9
    clear B7 hw8 B8 hw9
    have E9 := env_new (he.next B9) (.cells #[.int .i64 k, .bool n, .string D, .string E] 26)
    go_wp2_with fail
    refine (cO _ E9).mono ?_
    rintro r w10 ⟨rfl, hw10⟩
    have K10 := (Blk.made w9 k n D E).next hw10
    have B10 : Below w.heap.size w w10 := below_over B9 hw10
    clear hw10 B9 E9
    obtain ⟨p, hp⟩ : ∃ p, w9.heap.size = p := ⟨_, rfl⟩
    rw [hp] at K10 ⊢
    clear hp
    have lp := K10.lt
    obtain ⟨p0, p1, p2, p3⟩ := K10.cells
    go_wp2_with fail
    refine (cA _).mono ?_
    rintro r w' ⟨rfl, rfl⟩
    go_wp2_with fail
    refine (cB _).mono ?_
    rintro r w' ⟨rfl, rfl⟩
    go_wp2
    go_ret
    exact ⟨rfl, B10.alloc B10.size _⟩
end Go.Proofs.YtiainpdfidgcfaaGreatDoor
