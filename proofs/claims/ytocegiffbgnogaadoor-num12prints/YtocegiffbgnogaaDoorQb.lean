/- The law Num12Prints: its walk. -/
import Derived.Test.YtocegiffbgnogaaDoorPk
import Derived.Test.YtocegiffbgnogaaDoorPj
import Derived.Test.YtocegiffbgnogaaDoorRi
import Derived.Test.YtocegiffbgnogaaDoorWn
import Derived.Test.YtocegiffbgnogaaDoorFs
set_option linter.unusedVariables false
namespace Go.Proofs.YtocegiffbgnogaaDoor
open Go.RowKit
namespace M
theorem pw_txt (z : Int) : pw (101 :: (pls (txt z) ++ txt z)) = some z := by
  rw [pw, if_pos (Or.inl rfl), pwE]
  by_cases h : z < 0
  · have e : txt z = 45 :: dg z.natAbs := by
      have h1 := isNeg_split (txt z) (by rw [txt_isNeg]; exact decide_eq_true h)
      rw [txt_unsign] at h1; exact h1
    have hp : pls (txt z) = [] := by unfold pls; rw [txt_isNeg, decide_eq_true h]; rfl
    rw [hp, e, List.nil_append, (body_45 _).2, (body_45 _).1, if_pos (dg_ok _), dg_val]
    congr 1
    show -((z.natAbs : Nat) : Int) = z
    omega
  · have hp : pls (txt z) = [43] := by unfold pls; rw [txt_isNeg, decide_eq_false h]; rfl
    have e : txt z = dg z.natAbs := by
      have := txt_nat z.natAbs
      rw [show ((z.natAbs : Nat) : Int) = z by omega] at this; exact this
    rw [hp, e, List.singleton_append, (body_43 _).2, (body_43 _).1, if_pos (dg_ok _), dg_val]
    congr 1
    show ((z.natAbs : Nat) : Int) = z
    omega
/-- What is printed of a decimal is read as it. -/
theorem prt_read (n : Bool) (D : List UInt8) (z : Int) (hD : okD 10 D = true) : isNeg (prt 0 n D (txt z)) = n ∧ gl (body (prt 0 n D (txt z))) = 4 ∧ Num (body (prt 0 n D (txt z))) D [] (D ++ [46]) (101 :: (pls (txt z) ++ txt z)) z := by
  have hp : prt 0 n D (txt z) = mns n ++ (D ++ 46 :: ([] ++ 101 :: (pls (txt z) ++ txt z))) := by unfold prt; rw [if_neg (by decide), if_neg (by decide)]; rfl
  obtain ⟨hne, hal⟩ := (okD_iff _ _).1 hD
  have hx := pw_txt z
  obtain ⟨g1, g2, g3, g4⟩ := num_dot D [] (101 :: (pls (txt z) ++ txt z)) z hal rfl (by simpa using hne) hx
  have hb : isNeg (prt 0 n D (txt z)) = n ∧ body (prt 0 n D (txt z)) = D ++ 46 :: ([] ++ 101 :: (pls (txt z) ++ txt z)) := by
    rw [hp]
    cases n
    · cases D with
      | nil => exact absurd rfl hne
      | cons c r =>
        rw [allD_cons, Bool.and_eq_true, decide_eq_true_eq] at hal
        have h43 : c ≠ 43 := by intro e; rw [e, dv43] at hal; omega
        have h45 : c ≠ 45 := by intro e; rw [e, dv45] at hal; omega
        exact body_else _ h43 h45
    · exact body_45 _
  rw [hb.2]
  refine ⟨hb.1, g1, ⟨by simp, Or.inr rfl, hal, rfl, by simpa using hne, hx⟩⟩
end M
/-- What Make, Print, Float and Int answer of digits and a power. -/
def Prints (neg : Bool) (WB FB : ByteArray) (e : Int) : Prop := ∃ D E P : ByteArray,
  (∀ W, Calls Tryd.prog 12 #[.bool neg, .string WB, .string FB, .string (tx e)] W fun r w' => r = .returned (.tuple #[dV 0 neg D E, .bool true]) ∧ Below W.heap.size W w') ∧
  (∀ W, Calls Tryd.prog 15 #[dV 0 neg D E] W fun r w' => r = .returned (.string P) ∧ Below W.heap.size W w') ∧
  (∀ W, Env W → Calls Tryd.prog 10 #[.string P] W fun r w' => r = .returned (.tuple #[dV 0 neg D E, .bool true]) ∧ Below W.heap.size W w') ∧
  (∀ W, Calls Tryd.prog 8 #[.string P] W fun r w' => r = .returned (.tuple #[.string ⟨#[]⟩, .bool false]) ∧ W = w')
theorem prints_of (neg : Bool) (WB FB : ByteArray) (e : Int) (D : List UInt8) (z : Int) (hD : M.okD 10 D = true) (hdec : M.decB 0 neg D (M.txt z) = true) (hDl : D.length ≤ 60) (hz : (tx z).size ≤ 20)
    (c1 : ∀ W, Calls Tryd.prog 12 #[.bool neg, .string WB, .string FB, .string (tx e)] W fun r w' => r = .returned (.tuple #[dV 0 neg (bA D) (tx z), .bool true]) ∧ Below W.heap.size W w')
    (c2 : ∀ W, Tab W → Calls Tryd.prog 26 #[.bool neg, .string (bA D), .string (bA []), .string (tx z)] W fun r w' => r = .returned (.tuple #[dV 0 neg (bA D) (tx z), .bool true]) ∧ Below W.heap.size W w') : Prints neg WB FB e := by
  obtain ⟨h1, h2, h3⟩ := M.prt_read neg D z hD
  have hdz : (bA D).size ≤ 60 := by rw [bA_size]; exact hDl
  have hPl : (M.prt 0 neg D (M.txt z)).length ≤ 100 := by
    have ht : (M.txt z).length ≤ 20 := by rw [← tx_size]; exact hz
    unfold M.prt
    rw [if_neg (by decide), if_neg (by decide)]
    have hm : (M.mns neg).length ≤ 1 := by cases neg <;> decide
    have hp : (M.pls (M.txt z)).length ≤ 1 := by unfold M.pls; split <;> simp
    simp only [List.length_append, List.length_cons]
    omega
  have hbl : (bA (M.prt 0 neg D (M.txt z))).size ≤ 100 := by rw [bA_size]; exact hPl
  refine ⟨bA D, tx z, bA (M.prt 0 neg D (M.txt z)), c1, fun W => ?_, fun W he => ?_, fun W => ?_⟩
  · have := rprint_any 0 neg (bA D) (tx z) W (by omega) (by omega)
    rw [bA_toList, tx_list, M.out_yes hdec] at this
    exact this
  · refine nflo_yes _ W he (by omega) D [] (D ++ [46]) (101 :: (M.pls (M.txt z) ++ M.txt z)) z (by rw [bA_toList]; exact h3) (by rw [bA_toList]; exact h2) 0 neg true _ _ fun W' hT => ?_
    rw [bA_toList, h1]
    exact c2 W' hT
  · exact nint_no _ W (by omega) (by rw [bA_toList]; exact M.iv_none_of_four h2)
theorem prints_any (neg : Bool) (Wl Fl : List UInt8) (e : Int) (hW : M.allD 10 Wl = true) (hF : M.allD 10 Fl = true) (hne : Wl ++ Fl ≠ []) (lW : Wl.length ≤ 30) (lF : Fl.length ≤ 30) (he1 : -2147483648 ≤ e) (he2 : e ≤ 2147483647) : Prints neg (bA Wl) (bA Fl) e := by
  have hok : M.okD 10 ((bA Wl).data.toList ++ (bA Fl).data.toList) = true := by
    rw [bA_toList, bA_toList, M.okD_iff, M.allD_append, hW, hF]
    exact ⟨hne, rfl⟩
  have zW : (bA Wl).size ≤ 30 := by rw [bA_size]; exact lW
  have zF : (bA Fl).size ≤ 30 := by rw [bA_size]; exact lF
  have zE : (tx e).size ≤ 20 := Nat.le_trans (tx_len e 11 (by omega) (by omega)) (by omega)
  by_cases hv : M.val 10 ((bA Wl).data.toList ++ (bA Fl).data.toList) = 0
  · refine prints_of neg _ _ e [48] 0 (by decide) (by rw [M.txt_zero]; exact M.decB_zero neg) (by decide) (by rw [tx0]; decide) (fun W => ?_) (fun W hT => ?_)
    · rw [tx0]; exact rmake_zero neg _ _ e W (by omega) (by omega) (by omega) hok hv
    · have := make_zero neg (bA [48]) (bA []) 0 W (by decide) (by decide) (by rw [tx0]; decide) (by decide) (by decide)
      rw [tx0] at this ⊢
      exact this
  · obtain ⟨c, t, hc, hct⟩ := M.exists_ct _ (Nat.pos_of_ne_zero hv)
    obtain ⟨m, hm⟩ := M.ct_of_val ((M.okD_iff _ _).1 hok).2 hc hct
    have h3 := congrArg List.length hm
    simp only [List.length_append, List.length_replicate, ← sz_list] at h3
    have hz : (tx (e + ((t : Int) - (bA Fl).size))).size ≤ 20 := Nat.le_trans (tx_len _ 11 (by omega) (by omega)) (by omega)
    refine prints_of neg _ _ e (M.dg c) (e + ((t : Int) - (bA Fl).size)) (M.dg_ok c) (M.decB_fin neg c _ hc) (by omega) hz (fun W => rmake_yes neg _ _ e c t W (by omega) (by omega) (by omega) hok hc hct) (fun W hT => ?_)
    generalize e + ((t : Int) - (bA Fl).size) = z at *
    have := make_yes neg (bA (M.dg c)) (bA []) z c 0 W hT (by rw [bA_size]; omega) (by decide) (by omega) (by rw [bA_toList, bA_toList, List.append_nil]; exact M.dg_ok c) hc (by rw [bA_toList, bA_toList, List.append_nil, M.dg_val, Nat.pow_zero, Nat.mul_one])
    have e0 : z + (((0 : Nat) : Int) - ((bA [] : ByteArray).size : Int)) = z := by
      rw [show ((bA [] : ByteArray).size : Int) = 0 from rfl]; omega
    rw [e0] at this
    exact this
theorem pinf (n : Bool) (w : World) (he : Env w) : Calls Tryd.prog 10 #[.string (bA (M.prt 1 n [] []))] w fun e w' => e = .returned (.tuple #[dV 1 n ⟨#[]⟩ ⟨#[]⟩, .bool true]) ∧ Below w.heap.size w w' := by
  cases n
  · exact nflo_inf (bA (M.prt 1 false [] [])) w (by decide) (by decide) (by decide)
  · exact nflo_inf (bA (M.prt 1 true [] [])) w (by decide) (by decide) (by decide)
theorem pnan (w : World) : Calls Tryd.prog 10 #[.string ⟨#[46, 110, 97, 110]⟩] w fun e w' => e = .returned (.tuple #[dV 2 false ⟨#[]⟩ ⟨#[]⟩, .bool true]) ∧ Below w.heap.size w w' := nflo_nan _ w (by decide)
set_option maxRecDepth 100000 in
theorem prints_short (s f : ByteArray) (neg : Bool) (x : Int) (w : World) (he : Env w) (hs : s.size ≤ maxLen) (hf : f.size ≤ maxLen) (h : s.size + f.size < 1 ∨ 30 < s.size ∨ 30 < f.size) :
    Calls Tryd.prog 4 #[.string s, .string f, .bool neg, .int .i32 x] w fun e w' => e = .returned (.bool true) ∧ Below w.heap.size w w' := by
  unfold maxLen at hs hf
  by_cases a0 : wrap64 ((s.size : Int) + (f.size : Int)) < 1
  · have y0 : decide (wrap64 ((s.size : Int) + (f.size : Int)) < 1) = true := decide_eq_true a0
    go_enter Tryd.func4, Tryd.ntmps4
    go_wp2_with fail
    refine (known_any _ he).mono ?_
    rintro r w1 ⟨rfl, hb1⟩
    clear h
    go_wp2
    go_ret
    exact ⟨rfl, hb1⟩
  · have y0 : decide (wrap64 ((s.size : Int) + (f.size : Int)) < 1) = false := decide_eq_false a0
    have h : 30 < s.size ∨ 30 < f.size := by unfold wrap64 at a0; omega
    by_cases a1 : 30 < s.size
    · have d1 : decide (30 < s.size) = true := decide_eq_true (by omega)
      have x1 : decide ((30 : Int) < (s.size : Int)) = true := decide_eq_true (by omega)
      clear a0
      go_enter Tryd.func4, Tryd.ntmps4
      go_wp2_with fail
      refine (known_any _ he).mono ?_
      rintro r w1 ⟨rfl, hb1⟩
      clear h
      go_wp2
      go_ret
      exact ⟨rfl, hb1⟩
    · have d1 : decide (30 < s.size) = false := decide_eq_false (by omega)
      have x1 : decide ((30 : Int) < (s.size : Int)) = false := decide_eq_false (by omega)
      have d2 : decide (30 < f.size) = true := decide_eq_true (by omega)
      have x2 : decide ((30 : Int) < (f.size : Int)) = true := decide_eq_true (by omega)
      clear a0
      go_enter Tryd.func4, Tryd.ntmps4
      go_wp2_with fail
      refine (known_any _ he).mono ?_
      rintro r w1 ⟨rfl, hb1⟩
      clear h
      go_wp2
      go_ret
      exact ⟨rfl, hb1⟩
set_option maxRecDepth 100000 in
set_option maxHeartbeats 4000000 in
theorem prints_core (s f : ByteArray) (neg : Bool) (x : Int) (w : World) (he : Env w) (h1 : s.size ≤ 30) (h2 : f.size ≤ 30) (h3 : 1 ≤ s.size + f.size) (hx : -2147483648 ≤ x ∧ x ≤ 2147483647) :
    Calls Tryd.prog 4 #[.string s, .string f, .bool neg, .int .i32 x] w fun e w' => e = .returned (.bool true) ∧ Below w.heap.size w w' := by
  have cW := fun W => digits_any s W (by omega)
  have cF := fun W => digits_any f W (by omega)
  have lW : (digs s.data.toList).length = s.size := by rw [digs_length, ← sz_list]
  have lF : (digs f.data.toList).length = f.size := by rw [digs_length, ← sz_list]
  have aW := digs_all s.data.toList
  have aF := digs_all f.data.toList
  generalize digs s.data.toList = Wl at *
  generalize digs f.data.toList = Fl at *
  have hne : Wl ++ Fl ≠ [] := by
    intro e
    obtain ⟨e1, e2⟩ := List.append_eq_nil_iff.1 e
    rw [e1] at lW; rw [e2] at lF; simp at lW lF; omega
  obtain ⟨D, E, P, c1, c2, c3, c4⟩ := prints_any neg Wl Fl x aW aF hne (by omega) (by omega) hx.1 hx.2
  have cA := fun W => radd_yes 0 x W (by rw [tx0]; decide) (by omega) (by omega)
  rw [Int.zero_add, tx0] at cA
  have cI := fun W => rprint_inf neg W
  have cJ := fun W he => pinf neg W he
  have d1 : decide ((s.size : Int) + (f.size : Int) < 1) = false := decide_eq_false (by omega)
  have d2 : decide (30 < s.size) = false := decide_eq_false (by omega)
  have d3 : decide (30 < f.size) = false := decide_eq_false (by omega)
  have eG := eqG
  have e4 := eql4
  clear lW lF aW aF hne
  generalize bA Wl = WB at *
  generalize bA Fl = FB at *
  generalize bA (M.prt 1 neg [] []) = IB at *
  generalize tx x = XB at *
  obtain ⟨hx1, hx2⟩ := hx
  go_enter Tryd.func4, Tryd.ntmps4
  go_wp2_with fail
  refine (known_any _ he).mono ?_
  rintro r w1 ⟨rfl, B1⟩
  go_wp2_with fail
  refine (cW _).mono ?_
  rintro r w2 ⟨rfl, hw⟩
  have B2 := below_on B1 hw
  clear hw B1
  go_wp2_with fail
  refine (cF _).mono ?_
  rintro r w3 ⟨rfl, hw⟩
  have B3 := below_on B2 hw
  clear hw B2
  go_wp2_with fail
  refine (cA _).mono ?_
  rintro r w4 ⟨rfl, hw⟩
  have B4 := below_on B3 hw
  clear hw B3
  go_wp2_with fail
  refine (c1 _).mono ?_
  rintro r w5 ⟨rfl, hw⟩
  have B5 := below_on B4 hw
  clear hw B4 cW cF cA c1
  have KD := Blk.made w5 0 neg D E
  obtain ⟨m0, m1, m2, m3⟩ := KD.cells
  go_wp2_with fail
  refine (c2 _).mono ?_
  rintro r w6 ⟨rfl, hw⟩
  have B6 : Below w.heap.size w w6 := below_over B5 hw
  have KD6 := KD.next hw
  clear hw B5 m0 m1 m2 m3 KD c2
  obtain ⟨p, hp⟩ : ∃ p, w5.heap.size = p := ⟨_, rfl⟩
  rw [hp] at KD6 ⊢
  clear hp
  go_wp2_with fail
  refine (c3 _ (he.next B6)).mono ?_
  rintro r w7 ⟨rfl, hw⟩
  have B7 : Below w.heap.size w w7 := below_on B6 hw
  have KD7 := KD6.next hw
  clear hw B6 KD6 c3
  go_wp2_with fail
  refine (c4 _).mono ?_
  rintro r w' ⟨rfl, rfl⟩
  clear c4
  go_wp2_with fail
  refine (cI _).mono ?_
  rintro r w8 ⟨rfl, hw⟩
  have B8 : Below w.heap.size w w8 := below_over B7 hw
  have KD8 := KD7.over hw
  have KX8 := (Blk.made w7 0 neg D E).next hw
  clear hw B7 KD7 cI
  obtain ⟨q, hq⟩ : ∃ q, w7.heap.size = q := ⟨_, rfl⟩
  rw [hq] at KX8 ⊢
  clear hq
  go_wp2_with fail
  refine (cJ _ (he.next B8)).mono ?_
  rintro r w9 ⟨rfl, hw⟩
  have B9 : Below w.heap.size w w9 := below_on B8 hw
  have KD9 := KD8.next hw
  have KX9 := KX8.next hw
  clear hw B8 KD8 KX8 cJ
  go_wp2_with fail
  refine (pnan _).mono ?_
  rintro r w10 ⟨rfl, hw⟩
  have B10 : Below w.heap.size w w10 := below_over B9 hw
  have KD10 := KD9.over hw
  have KX10 := KX9.over hw
  have KI10 := (Blk.made w9 1 neg ⟨#[]⟩ ⟨#[]⟩).next hw
  clear hw B9 KD9 KX9
  obtain ⟨t, ht⟩ : ∃ t, w9.heap.size = t := ⟨_, rfl⟩
  rw [ht] at KI10 ⊢
  clear ht
  have ltp := KD10.lt
  have ltq := KX10.lt
  have ltt := KI10.lt
  obtain ⟨p0, p1, p2, p3⟩ := KD10.cells
  obtain ⟨q0, q1, q2, q3⟩ := KX10.cells
  obtain ⟨t0, t1, t2, t3⟩ := KI10.cells
  go_wp2
  go_ret
  exact ⟨rfl, B10.alloc B10.size _⟩
theorem printsL_any (s f : ByteArray) (neg : Bool) (x : Int) (w : World) (he : Env w) (hs : s.size ≤ maxLen) (hf : f.size ≤ maxLen) (hx : -2147483648 ≤ x ∧ x ≤ 2147483647) :
    Calls Tryd.prog 4 #[.string s, .string f, .bool neg, .int .i32 x] w fun e w' => e = .returned (.bool true) ∧ Below w.heap.size w w' := by
  by_cases h : s.size + f.size < 1 ∨ 30 < s.size ∨ 30 < f.size
  · exact prints_short s f neg x w he hs hf h
  · exact prints_core s f neg x w he (by omega) (by omega) (by omega) hx
end Go.Proofs.YtocegiffbgnogaaDoor
