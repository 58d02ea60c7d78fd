/- The law Float11Parts: its walk, on. -/
import Derived.Test.YtiainpdfidgcfaaGreatDoorGd
set_option linter.unusedVariables false
namespace Go.Proofs.YtiainpdfidgcfaaGreatDoor
open Go.RowKit

set_option maxRecDepth 100000 in
set_option maxHeartbeats 4000000 in
theorem parts_short (s f e : ByteArray) (neg Dn pw U : Bool) (w : World) (he : Env w) (hs : s.size ≤ maxLen) (hf : f.size ≤ maxLen) (hee : e.size ≤ maxLen) (h : s.size + f.size < 1 ∨ 30 < s.size ∨ 30 < f.size ∨ e.size < 1 ∨ 30 < e.size) :
    Calls Tryz.prog 4 #[.string s, .string f, .string e, .bool neg, .bool Dn, .bool pw, .bool U] w fun e w' => e = .returned (.bool true) ∧ Below w.heap.size w w' := by
  unfold maxLen at hs hf hee
  by_cases a0 : wrap64 ((s.size : Int) + (f.size : Int)) < 1
  · have y0 : decide (wrap64 ((s.size : Int) + (f.size : Int)) < 1) = true := decide_eq_true a0
    go_enter Tryz.func4, Tryz.ntmps4
    go_wp2_with fail
    refine (known_any _ he).mono ?_
    rintro r w1 ⟨rfl, hb1⟩
    clear h
    go_wp2
    go_ret
    exact ⟨rfl, hb1⟩
  · have y0 : decide (wrap64 ((s.size : Int) + (f.size : Int)) < 1) = false := decide_eq_false a0
    have h : 30 < s.size ∨ 30 < f.size ∨ e.size < 1 ∨ 30 < e.size := by unfold wrap64 at a0; omega
    by_cases a1 : 30 < s.size
    · have d1 : decide (30 < s.size) = true := decide_eq_true (by omega)
      have x1 : decide ((30 : Int) < (s.size : Int)) = true := decide_eq_true (by omega)
      clear a0
      go_enter Tryz.func4, Tryz.ntmps4
      go_wp2_with fail
      refine (known_any _ he).mono ?_
      rintro r w1 ⟨rfl, hb1⟩
      clear h
      go_wp2
      go_ret
      exact ⟨rfl, hb1⟩
    · have d1 : decide (30 < s.size) = false := decide_eq_false (by omega)
      have x1 : decide ((30 : Int) < (s.size : Int)) = false := decide_eq_false (by omega)
      by_cases a2 : 30 < f.size
      · have d2 : decide (30 < f.size) = true := decide_eq_true (by omega)
        have x2 : decide ((30 : Int) < (f.size : Int)) = true := decide_eq_true (by omega)
        clear a0
        go_enter Tryz.func4, Tryz.ntmps4
        go_wp2_with fail
        refine (known_any _ he).mono ?_
        rintro r w1 ⟨rfl, hb1⟩
        clear h
        go_wp2
        go_ret
        exact ⟨rfl, hb1⟩
      · have d2 : decide (30 < f.size) = false := decide_eq_false (by omega)
        have x2 : decide ((30 : Int) < (f.size : Int)) = false := decide_eq_false (by omega)
        have d0 : decide ((s.size : Int) + (f.size : Int) < 1) = false := decide_eq_false (by unfold wrap64 at a0; omega)
        by_cases a3 : e.size < 1
        · have d3 : decide (e.size < 1) = true := decide_eq_true (by omega)
          have x3 : decide ((e.size : Int) < 1) = true := decide_eq_true (by omega)
          clear a0
          go_enter Tryz.func4, Tryz.ntmps4
          go_wp2_with fail
          refine (known_any _ he).mono ?_
          rintro r w1 ⟨rfl, hb1⟩
          clear h
          go_wp2
          go_ret
          exact ⟨rfl, hb1⟩
        · have d3 : decide (e.size < 1) = false := decide_eq_false (by omega)
          have x3 : decide ((e.size : Int) < 1) = false := decide_eq_false (by omega)
          have d4 : decide (30 < e.size) = true := decide_eq_true (by omega)
          have x4 : decide ((30 : Int) < (e.size : Int)) = true := decide_eq_true (by omega)
          clear a0
          go_enter Tryz.func4, Tryz.ntmps4
          go_wp2_with fail
          refine (known_any _ he).mono ?_
          rintro r w1 ⟨rfl, hb1⟩
          clear h
          go_wp2
          go_ret
          exact ⟨rfl, hb1⟩
set_option maxRecDepth 100000 in
set_option maxHeartbeats 8000000 in
theorem parts_np (s f e : ByteArray) (U Dn neg : Bool) (SB : UInt8) (FV : Nat) (w : World) (he : Env w) (h1 : s.size ≤ 30) (h2 : f.size ≤ 30) (h3 : 1 ≤ e.size) (h4 : e.size ≤ 30) (h5 : 1 ≤ s.size + f.size)
    (hN : (neg = true ∧ SB = 45) ∨ (neg = false ∧ SB = 43)) (hZ : (s.size = 0 ∧ FV = 2) ∨ (s.size ≠ 0 ∧ FV = 1))
    (BW BF : ByteArray) (k : Int) (n : Bool) (D E : ByteArray) (b1 : BW.size ≤ 30) (b2 : BF.size ≤ 30)
    (cW : ∀ W, Calls Tryz.prog 13 #[.string s] W fun e w' => e = .returned (.string BW) ∧ Below W.heap.size W w')
    (cF : ∀ W, Calls Tryz.prog 13 #[.string f] W fun e w' => e = .returned (.string BF) ∧ Below W.heap.size W w')
    (cM : ∀ W, Calls Tryz.prog 15 #[.bool neg, .string BW, .string BF, .string ⟨#[48]⟩] W fun e w' => e = .returned (.tuple #[dV k n D E, .bool true]) ∧ Below W.heap.size W w')
    (cO : ∀ W, Env W → Calls Tryz.prog 9 #[.string (⟨#[SB]⟩ ++ (BW ++ ⟨#[46]⟩ ++ BF))] W fun e w' => e = .returned (.tuple #[dV k n D E, .bool true]) ∧ Below W.heap.size W w')
    (cA : ∀ W, Calls Tryz.prog 12 #[.string (BW ++ ⟨#[46]⟩ ++ BF)] W fun e w' => e = .returned (.int .i64 (FV : Nat)) ∧ W = w')
    (cB : ∀ W, Calls Tryz.prog 12 #[.string (⟨#[SB]⟩ ++ (BW ++ ⟨#[46]⟩ ++ BF))] W fun e w' => e = .returned (.int .i64 (FV : Nat)) ∧ W = w') :
    Calls Tryz.prog 4 #[.string s, .string f, .string e, .bool neg, .bool Dn, .bool false, .bool U] w fun e w' => e = .returned (.bool true) ∧ Below w.heap.size w w' := by
  have d1 : decide ((s.size : Int) + (f.size : Int) < 1) = false := decide_eq_false (by omega)
  have d2 : decide (30 < s.size) = false := decide_eq_false (by omega)
  have d3 : decide (30 < f.size) = false := decide_eq_false (by omega)
  have d4 : decide (e.size < 1) = false := decide_eq_false (by omega)
  have d5 : decide (30 < e.size) = false := decide_eq_false (by omega)
  have eG := eqG
  have e4 := eql4
  obtain ⟨SS, hSS⟩ : ∃ SS, BW ++ ⟨#[46]⟩ ++ BF = SS := ⟨_, rfl⟩
  have hSz : SS.size ≤ 61 := by rw [← hSS]; simp only [append_sz]; show BW.size + 1 + BF.size ≤ 61; omega
  rw [hSS] at cO cA cB
  have hz0 : (((s.size : Int) == 0) = true ∧ FV = 2) ∨ (((s.size : Int) == 0) = false ∧ FV = 1) := by
    rcases hZ with ⟨a, b⟩ | ⟨a, b⟩
    · exact Or.inl ⟨beq_iff_eq.2 (by omega), b⟩
    · exact Or.inr ⟨beq_eq_false_iff_ne.2 (by omega), b⟩
  clear hZ
  have hf0 : ((s.size : Int) == 0) = true → ((f.size : Int) == 0) = false := fun h => beq_eq_false_iff_ne.2 (by have := beq_iff_eq.1 h; omega)
  rcases hN with ⟨rfl, rfl⟩ | ⟨rfl, rfl⟩ <;> rcases hz0 with ⟨hq, rfl⟩ | ⟨hq, rfl⟩
  all_goals first | have hq2 := hf0 hq | skip
  all_goals
    clear hf0
    go_enter Tryz.func4, Tryz.ntmps4
    go_wp2_with fail
    refine (known_any _ he).mono ?_
    rintro r w1 ⟨rfl, hb1⟩
    go_wp2_with fail
    refine (cW _).mono ?_
    rintro r w2 ⟨rfl, hw2⟩
    have B2 : Below w.heap.size w w2 := below_on hb1 hw2
    go_wp2_with fail
    refine (cF _).mono ?_
    rintro r w6 ⟨rfl, hw3⟩
    have B6 : Below w.heap.size w w6 := below_on B2 hw3
    clear hb1 hw2 B2 hw3
    go_wp2_with fail
    refine (cW _).mono ?_
    rintro r w7 ⟨rfl, hw7⟩
    have B7 : Below w.heap.size w w7 := below_on B6 hw7
    go_wp2_with fail
    refine (cF _).mono ?_
    rintro r w8 ⟨rfl, hw8⟩
    have B8 : Below w.heap.size w w8 := below_on B7 hw8
    go_wp2_with fail
    refine (cM _).mono ?_
    rintro r w9 ⟨rfl, hw9⟩
    have B9 : Below w.heap.size w w9 := below_on B8 hw9
    clear B6 hw7 B7 hw8 B8 hw9
    have E9 := env_new (he.next B9) (.cells #[.int .i64 k, .bool n, .string D, .string E] 26)
    go_wp2_with fail
    refine (cO _ E9).mono ?_
    rintro r w10 ⟨rfl, hw10⟩
    have K10 := (Blk.made w9 k n D E).next hw10
    have B10 : Below w.heap.size w w10 := below_over B9 hw10
    clear hw10 B9 E9
    obtain ⟨p, hp⟩ : ∃ p, w9.heap.size = p := ⟨_, rfl⟩
    rw [hp] at K10 ⊢
    clear hp
    have lp := K10.lt
    obtain ⟨p0, p1, p2, p3⟩ := K10.cells
    go_wp2_with fail
    refine (cA _).mono ?_
    rintro r w' ⟨rfl, rfl⟩
    go_wp2_with fail
    refine (cB _).mono ?_
    rintro r w' ⟨rfl, rfl⟩
    go_wp2
    go_ret
    exact ⟨rfl, B10.alloc B10.size _⟩
theorem signed_flo (l : List UInt8) (SB : UInt8) (neg : Bool) (hN : (neg = true ∧ SB = 45) ∨ (neg = false ∧ SB = 43)) : M.body (SB :: l) = l ∧ M.isNeg (SB :: l) = neg := by
  rcases hN with ⟨rfl, rfl⟩ | ⟨rfl, rfl⟩
  · exact ⟨(head_45 rfl).2, (head_45 rfl).1⟩
  · exact ⟨(head_43 rfl).2, (head_43 rfl).1⟩
theorem parts_core (s f e : ByteArray) (neg Dn pw U : Bool) (w : World) (he : Env w) (h1 : s.size ≤ 30) (h2 : f.size ≤ 30) (h3 : 1 ≤ e.size) (h4 : e.size ≤ 30) (h5 : 1 ≤ s.size + f.size) :
    Calls Tryz.prog 4 #[.string s, .string f, .string e, .bool neg, .bool Dn, .bool pw, .bool U] w fun e w' => e = .returned (.bool true) ∧ Below w.heap.size w w' := by
  have cW := fun W => digits_any s W (by omega)
  have cF := fun W => digits_any f W (by omega)
  have cE := fun W => digits_any e W (by omega)
  have lW : (digs s.data.toList).length = s.size := by rw [digs_length, ← sz_list]
  have lF : (digs f.data.toList).length = f.size := by rw [digs_length, ← sz_list]
  have lE : (digs e.data.toList).length = e.size := by rw [digs_length, ← sz_list]
  have aW := digs_all s.data.toList
  have aF := digs_all f.data.toList
  have aE := digs_all e.data.toList
  generalize digs s.data.toList = Wl at *
  generalize digs f.data.toList = F at *
  generalize digs e.data.toList = El at *
  have hne : Wl ≠ [] ∨ F ≠ [] := by
    by_cases h : Wl = []
    · right; intro e; rw [h] at lW; rw [e] at lF; simp at lW lF; omega
    · exact Or.inl h
  have hEok : M.okD 10 El = true := (M.okD_iff _ _).2 ⟨fun e => by rw [e] at lE; simp at lE; omega, aE⟩
  obtain ⟨SB, hN⟩ : ∃ SB : UInt8, (neg = true ∧ SB = 45) ∨ (neg = false ∧ SB = 43) := by
    cases neg
    · exact ⟨43, Or.inr ⟨rfl, rfl⟩⟩
    · exact ⟨45, Or.inl ⟨rfl, rfl⟩⟩
  obtain ⟨FV, hFV⟩ : ∃ FV, (if Wl = [] then 2 else 1) = FV := ⟨_, rfl⟩
  have hZ : (s.size = 0 ∧ FV = 2) ∨ (s.size ≠ 0 ∧ FV = 1) := by
    by_cases h : Wl = []
    · left; rw [if_pos h] at hFV; rw [h] at lW; exact ⟨by simpa using lW.symm, hFV.symm⟩
    · right; rw [if_neg h] at hFV; exact ⟨fun k => h (List.eq_nil_of_length_eq_zero (by omega)), hFV.symm⟩
  have hok : M.okD 10 ((bA Wl).data.toList ++ (bA F).data.toList) = true := by
    rw [bA_toList, bA_toList, M.okD_iff, M.allD_append, aW, aF]
    exact ⟨fun e => by obtain ⟨a, b⟩ := List.append_eq_nil_iff.1 e; exact hne.elim (fun k => k a) (fun k => k b), rfl⟩
  have zW : (bA Wl).size ≤ 30 := by rw [bA_size]; omega
  have zF : (bA F).size ≤ 30 := by rw [bA_size]; omega
  have zE : (bA El).size ≤ 30 := by rw [bA_size]; omega
  have hl : (bA Wl ++ ⟨#[46]⟩ ++ bA F).data.toList = Wl ++ 46 :: F := by rw [append_list, append_list, bA_toList, bA_toList]; simp
  cases pw
  · obtain ⟨k, n, D, E, _, _, g, r⟩ := make_both neg (bA Wl) (bA F) 0 (by omega) (by omega) (by rw [tx0]; decide) hok
    obtain ⟨pP, pf, pb, pn⟩ := M.parts_digits Wl F [] 0 aW aF hne rfl
    rw [List.append_nil] at pP pf pb pn
    rw [hFV] at pf
    have hs1 : (bA Wl ++ ⟨#[46]⟩ ++ bA F).size ≤ 61 := by simp only [append_sz]; show _ + 1 + _ ≤ 61; omega
    have hl2 : (⟨#[SB]⟩ ++ (bA Wl ++ ⟨#[46]⟩ ++ bA F) : ByteArray).data.toList = SB :: (Wl ++ 46 :: F) := by rw [cat1, hl]
    obtain ⟨sb, sn⟩ := signed_flo (Wl ++ 46 :: F) SB neg hN
    have hF0 : M.fl (Wl ++ 46 :: F) ≠ 0 := by rw [pf]; rcases hZ with ⟨_, h⟩ | ⟨_, h⟩ <;> omega
    refine parts_np s f e U Dn neg SB FV w he h1 h2 h3 h4 h5 hN hZ (bA Wl) (bA F) k n D E zW zF cW cF (by rw [tx0] at r; exact r) (fun W hW => of_run _ W hW (by rw [sz1]; omega) Wl F 0 (by rw [hl2, sb]; exact pP) k n true D E (by rw [hl2, sn]; exact g)) (fun W => ?_) (fun W => ?_)
    · have := flo_any (bA Wl ++ ⟨#[46]⟩ ++ bA F) W (by omega)
      rwa [hl, M.flo_of_fl (by rw [pb]; exact hF0), pb, pf] at this
    · have := flo_any (⟨#[SB]⟩ ++ (bA Wl ++ ⟨#[46]⟩ ++ bA F)) W (by rw [sz1]; omega)
      rwa [hl2, M.flo_of_fl (by rw [sb]; exact hF0), sb, pf] at this
  · obtain ⟨LB, hU⟩ : ∃ LB : UInt8, (U = true ∧ LB = 69) ∨ (U = false ∧ LB = 101) := by
      cases U
      · exact ⟨101, Or.inr ⟨rfl, rfl⟩⟩
      · exact ⟨69, Or.inl ⟨rfl, rfl⟩⟩
    obtain ⟨GB, hD⟩ : ∃ GB : UInt8, (Dn = true ∧ GB = 45) ∨ (Dn = false ∧ GB = 43) := by
      cases Dn
      · exact ⟨43, Or.inr ⟨rfl, rfl⟩⟩
      · exact ⟨45, Or.inl ⟨rfl, rfl⟩⟩
    have hLB : LB = 101 ∨ LB = 69 := by rcases hU with ⟨_, h⟩ | ⟨_, h⟩ <;> simp [h]
    have hGB : (GB = 43 ∨ GB = 45) ∧ decide (GB = 45) = Dn := by rcases hD with ⟨rfl, rfl⟩ | ⟨rfl, rfl⟩ <;> decide
    have ht : M.tl (LB :: GB :: El) = some (M.sgn Dn (M.val 10 El)) := by rw [M.tl, if_pos hLB, M.tlE, if_pos ⟨hGB.1, hEok⟩, hGB.2]
    have hzs : (tx (M.sgn Dn (M.val 10 El))).size ≤ 101 := by
      have h1 := M.val_lt 10 El aE
      have h2 := tx_len (M.sgn Dn (M.val 10 El)) El.length (by omega) (by rw [sgn_abs]; exact h1)
      omega
    obtain ⟨k, n, D, E, _, _, g, r⟩ := make_both neg (bA Wl) (bA F) (M.sgn Dn (M.val 10 El)) (by omega) (by omega) hzs hok
    obtain ⟨pP, pf, pb, pn⟩ := M.parts_digits Wl F (LB :: GB :: El) _ aW aF hne ht
    rw [hFV] at pf
    have hl1 : (bA Wl ++ ⟨#[46]⟩ ++ bA F ++ ⟨#[LB]⟩ ++ ⟨#[GB]⟩ ++ bA El).data.toList = Wl ++ 46 :: (F ++ LB :: GB :: El) := by
      rw [append_list, append_list, append_list, hl, bA_toList]; simp
    have hl2 : (⟨#[SB]⟩ ++ (bA Wl ++ ⟨#[46]⟩ ++ bA F ++ ⟨#[LB]⟩ ++ ⟨#[GB]⟩ ++ bA El) : ByteArray).data.toList = SB :: (Wl ++ 46 :: (F ++ LB :: GB :: El)) := by rw [cat1, hl1]
    have hl3 : (bA Wl ++ ⟨#[46]⟩ ++ bA F ++ ⟨#[LB]⟩ ++ bA El).data.toList = Wl ++ 46 :: (F ++ LB :: El) := by
      rw [append_list, append_list, hl, bA_toList]; simp
    have hs1 : (bA Wl ++ ⟨#[46]⟩ ++ bA F ++ ⟨#[LB]⟩ ++ ⟨#[GB]⟩ ++ bA El).size ≤ 95 := by simp only [append_sz]; show _ + 1 + _ + 1 + 1 + _ ≤ 95; omega
    have hs3 : (bA Wl ++ ⟨#[46]⟩ ++ bA F ++ ⟨#[LB]⟩ ++ bA El).size ≤ 95 := by simp only [append_sz]; show _ + 1 + _ + 1 + _ ≤ 95; omega
    obtain ⟨sb, sn⟩ := signed_flo (Wl ++ 46 :: (F ++ LB :: GB :: El)) SB neg hN
    have hF0 : M.fl (Wl ++ 46 :: (F ++ LB :: GB :: El)) ≠ 0 := by rw [pf]; rcases hZ with ⟨_, h⟩ | ⟨_, h⟩ <;> omega
    have htb : M.tl (LB :: El) = none := by
      rw [M.tl, if_pos hLB]
      cases El with
      | nil => rfl
      | cons g ds =>
        rw [M.tlE, if_neg]
        rintro ⟨hg, _⟩
        rw [M.allD_cons, Bool.and_eq_true, decide_eq_true_eq] at aE
        rcases hg with rfl | rfl
        · exact absurd aE.1 (by decide)
        · exact absurd aE.1 (by decide)
    refine parts_pow s f e U Dn neg LB GB SB FV w he h1 h2 h3 h4 h5 hU hD hN hZ (bA Wl) (bA F) (bA El) _ k n D E zW zF zE cW cF cE (fun W => fis_bad _ W (by omega) (by rw [hl3]; exact M.bad_digits Wl F _ aW aF hne ⟨_, _, rfl, hLB⟩ htb)) (fun W => rnorm_list Dn El W hEok (by omega)) r (fun W hW => of_run _ W hW (by rw [sz1]; omega) Wl F _ (by rw [hl2, sb]; exact pP) k n true D E (by rw [hl2, sn]; exact g)) (fun W => ?_) (fun W => ?_)
    · have := flo_any (bA Wl ++ ⟨#[46]⟩ ++ bA F ++ ⟨#[LB]⟩ ++ ⟨#[GB]⟩ ++ bA El) W (by omega)
      rwa [hl1, M.flo_of_fl (by rw [pb]; exact hF0), pb, pf] at this
    · have := flo_any (⟨#[SB]⟩ ++ (bA Wl ++ ⟨#[46]⟩ ++ bA F ++ ⟨#[LB]⟩ ++ ⟨#[GB]⟩ ++ bA El)) W (by rw [sz1]; omega)
      rwa [hl2, M.flo_of_fl (by rw [sb]; exact hF0), sb, pf] at this
theorem partsL_any (s f e : ByteArray) (neg Dn pw U : Bool) (w : World) (he : Env w) (hs : s.size ≤ maxLen) (hf : f.size ≤ maxLen) (hee : e.size ≤ maxLen) :
    Calls Tryz.prog 4 #[.string s, .string f, .string e, .bool neg, .bool Dn, .bool pw, .bool U] w fun e w' => e = .returned (.bool true) ∧ Below w.heap.size w w' := by
  by_cases h : s.size + f.size < 1 ∨ 30 < s.size ∨ 30 < f.size ∨ e.size < 1 ∨ 30 < e.size
  · exact parts_short s f e neg Dn pw U w he hs hf hee h
  · exact parts_core s f e neg Dn pw U w he (by omega) (by omega) (by omega) (by omega) (by omega)
end Go.Proofs.YtiainpdfidgcfaaGreatDoor
