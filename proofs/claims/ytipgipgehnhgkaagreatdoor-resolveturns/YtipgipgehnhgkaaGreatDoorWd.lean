/- What float11's Of and num12's Float answer of a number, as a decimal that may be; of what is printed of it. -/
import Derived.Test.YtipgipgehnhgkaaGreatDoorWb
import Derived.Test.YtipgipgehnhgkaaGreatDoorMb
set_option linter.unusedVariables false
namespace Go.Proofs.YtipgipgehnhgkaaGreatDoor
open Go.RowKit
open Go

/-- A decimal that may be, and is not too long. -/
def Dec (k : Int) (m : Bool) (D X : ByteArray) : Prop := M.decB k m D.data.toList X.data.toList = true ∧ D.size ≤ 500 ∧ X.size ≤ 200
/-- What Make answers of digits and a power. -/
theorem make_good (neg : Bool) (A F : ByteArray) (z : Int) (hA : A.size ≤ 400) (hF : F.size ≤ 90) (hX : (tx z).size ≤ 101) (h1 : M.okD 10 (A.data.toList ++ F.data.toList) = true) :
    ∃ (D E : ByteArray), Dec 0 neg D E ∧ (∀ W, Tab W → Calls Tryz.prog 52 #[.bool neg, .string A, .string F, .string (tx z)] W fun e w' => e = .returned (.tuple #[dV 0 neg D E, .bool true]) ∧ Below W.heap.size W w') := by
  by_cases hv : M.val 10 (A.data.toList ++ F.data.toList) = 0
  · exact ⟨⟨#[48]⟩, ⟨#[48]⟩, ⟨M.decB_zero neg, by decide, by decide⟩, fun W _ => make_zero neg A F z W (by omega) (by omega) (by omega) h1 hv⟩
  · obtain ⟨c, t, hc, hct⟩ := M.exists_ct _ (Nat.pos_of_ne_zero hv)
    obtain ⟨m, hm⟩ := M.ct_of_val ((M.okD_iff _ _).1 h1).2 hc hct
    have h3 := congrArg List.length hm
    simp only [List.length_append, List.length_replicate, ← sz_list] at h3
    have h4 := M.txt_abs z
    rw [← tx_size] at h4
    have h5 : 10 ^ (tx z).size ≤ 10 ^ 101 := Nat.pow_le_pow_right (by omega) hX
    have h6 : (10 : Nat) ^ 102 = 10 ^ 101 * 10 := Nat.pow_succ ..
    have h7 : 1000 ≤ 10 ^ 101 := Nat.le_trans (show 1000 ≤ 10 ^ 3 by decide) (Nat.pow_le_pow_right (by omega) (by omega))
    have h8 := tx_len (z + ((t : Int) - F.size)) 102 (by omega) (by generalize (10 : Nat) ^ 102 = P at *; generalize (10 : Nat) ^ 101 = Q at *; omega)
    refine ⟨bA (M.dg c), tx (z + ((t : Int) - F.size)), ⟨?_, by rw [bA_size]; omega, by omega⟩, fun W hW => make_yes neg A F z c t W hW (by omega) (by omega) (by omega) h1 hc hct⟩
    rw [bA_toList, tx_list]
    exact M.decB_fin neg c _ hc
theorem floO_good (s : ByteArray) (hs : s.size ≤ 80) (hf : M.flo s.data.toList ≠ 0) : ∃ (k : Int) (m : Bool) (D X : ByteArray), Dec k m D X ∧
    (∀ W, Env W → Calls Tryz.prog 23 #[.string s] W fun e w' => e = .returned (.tuple #[dV k m D X, .bool true]) ∧ Below W.heap.size W w') := by
  by_cases h5 : M.flo s.data.toList = 5
  · exact ⟨2, false, ⟨#[]⟩, ⟨#[]⟩, ⟨M.decB_nan, by decide, by decide⟩, fun W _ => fof_nan s W (by omega) h5⟩
  by_cases h4 : M.flo s.data.toList = 4
  · exact ⟨1, _, ⟨#[]⟩, ⟨#[]⟩, ⟨M.decB_inf _, by decide, by decide⟩, fun W _ => fof_inf s W (by omega) h4⟩
  obtain ⟨e, h0⟩ := flo_of hf h4 h5
  obtain ⟨W, F, z, hP⟩ := M.isParts _ h0
  obtain ⟨H, X, hS⟩ := M.shape hP
  have hbl := M.body_len s.data.toList
  rw [← sz_list] at hbl
  obtain ⟨h1, h2, h3, h6⟩ := shape_small hS h0 (by omega)
  have hle := hS.le
  simp only [List.length_append, List.length_cons] at hle
  obtain ⟨D, E, hD, hM⟩ := make_good (M.isNeg s.data.toList) (bA W) (bA F) z h1 (by rw [bA_size]; omega) h3 h6
  refine ⟨0, M.isNeg s.data.toList, D, E, hD, fun w he => ?_⟩
  rcases M.fl_le3 _ h0 with h | h | h
  · exact fof_plain s w he (by omega) W F H X z hS e (Or.inl (e.trans h)) 0 _ true D E hM
  · exact fof_plain s w he (by omega) W F H X z hS e (Or.inr (e.trans h)) 0 _ true D E hM
  · exact fof_six s w he (by omega) W F H X z hS e (e.trans h) 0 _ true D E hM
theorem pw_short {X : List UInt8} {z : Int} (h : M.pw X = some z) : (tx z).size ≤ X.length + 1 := by
  rcases M.pw_head h with rfl | ⟨e, r, rfl, _, hp⟩
  · rw [M.pw] at h; obtain rfl := Option.some.inj h; rw [tx0]; decide
  · rw [M.pwE] at hp
    by_cases hd : M.okD 10 (M.body r) = true
    · rw [if_pos hd] at hp
      obtain rfl := Option.some.inj hp
      obtain ⟨hne, hal⟩ := (M.okD_iff _ _).1 hd
      have h1 := M.val_lt 10 _ hal
      have h2 := tx_len (M.sgn (M.isNeg r) (M.val 10 (M.body r))) (M.body r).length (List.length_pos_iff.2 hne) (by rw [sgn_abs]; exact h1)
      have h3 := M.body_len r
      simp only [List.length_cons]; omega
    · rw [if_neg hd] at hp; cases hp
theorem floN_num (s : ByteArray) (hs : s.size ≤ 80) (h4 : M.gl (M.body s.data.toList) = 4) : ∃ (k : Int) (m : Bool) (D X : ByteArray), Dec k m D X ∧
    (∀ W, Env W → Calls Tryz.prog 27 #[.string s] W fun e w' => e = .returned (.tuple #[dV k m D X, .bool true]) ∧ Below W.heap.size W w') := by
  have hbl := M.body_len s.data.toList
  rw [← sz_list] at hbl
  obtain ⟨Q, z, hN, hp⟩ := M.isNum h4
  have hzs := pw_short hp
  have hl := congrArg List.length hN.eq
  rw [List.length_append] at hl
  have hq : (M.hd (M.body s.data.toList)).length ≤ Q.length ∧ (M.fc (M.body s.data.toList)).length ≤ Q.length := by
    rcases hN.q with ⟨h1, h2⟩ | h1
    · rw [h1, h2]; simp
    · rw [h1]; simp; omega
  obtain ⟨D, E, hD, hM⟩ := make_good (M.isNeg s.data.toList) (bA (M.hd (M.body s.data.toList))) (bA (M.fc (M.body s.data.toList))) z (by rw [bA_size]; omega) (by rw [bA_size]; omega) (by omega)
    (by rw [bA_toList, bA_toList, M.okD_iff, M.allD_append, hN.w, hN.f]; exact ⟨hN.ne, rfl⟩)
  exact ⟨0, _, D, E, hD, fun w he => nflo_yes s w he (by omega) _ _ Q _ z hN h4 0 _ true D E hM⟩
theorem floN_good (s : ByteArray) (hs : s.size ≤ 80) (hf : s.data.toList ∈ M.nans ∨ M.body s.data.toList ∈ M.infs ∨ M.gl (M.body s.data.toList) = 4) : ∃ (k : Int) (m : Bool) (D X : ByteArray), Dec k m D X ∧
    (∀ W, Env W → Calls Tryz.prog 27 #[.string s] W fun e w' => e = .returned (.tuple #[dV k m D X, .bool true]) ∧ Below W.heap.size W w') := by
  by_cases hn : s.data.toList ∈ M.nans
  · exact ⟨2, false, ⟨#[]⟩, ⟨#[]⟩, ⟨M.decB_nan, by decide, by decide⟩, fun W _ => nflo_nan s W hn⟩
  by_cases hi : M.body s.data.toList ∈ M.infs
  · exact ⟨1, _, ⟨#[]⟩, ⟨#[]⟩, ⟨M.decB_inf _, by decide, by decide⟩, fun W _ => nflo_inf s W (by omega) hn hi⟩
  · exact floN_num s hs (by rcases hf with h | h | h <;> first | exact absurd h hn | exact absurd h hi | exact h)
/-- What is printed of a decimal is the same decimal in both schemas. -/
theorem can_float (k : Int) (m : Bool) (D X : ByteArray) (hd : Dec k m D X) : ∀ v, v = 11 ∨ v = 12 → Tel v (bA (M.out k m D.data.toList X.data.toList)) tFloat (bA (M.out k m D.data.toList X.data.toList)) := by
  obtain ⟨hdec, hD, hX⟩ := hd
  have fin : ∀ (c : List UInt8) (z : Int), k = 0 → D.data.toList = c → X.data.toList = M.txt z → M.okD 10 c = true → c.length ≤ 500 → (M.txt z).length ≤ 200 →
      (∀ W, Tab W → Calls Tryz.prog 52 #[.bool m, .string (bA c), .string (bA []), .string (tx z)] W fun e w' => e = .returned (.tuple #[dV 0 m (bA c) (tx z), .bool true]) ∧ Below W.heap.size W w') →
      ∀ v, v = 11 ∨ v = 12 → Tel v (bA (M.out k m D.data.toList X.data.toList)) tFloat (bA (M.out k m D.data.toList X.data.toList)) := by
    intro c z hk eD eX hok hc hz hM v hv
    subst hk
    rw [M.out_yes hdec, eD, eX]
    have hDec2 : M.decB 0 m c (M.txt z) = true := by rw [← eD, ← eX]; exact hdec
    have hw := M.word_no (M.prt_head m c z hok)
    obtain ⟨o1, o2, o3, o4⟩ := M.prt_old m c z hok
    obtain ⟨r1, r2, r3⟩ := M.prt_read m c z hok
    have hlen : (M.prt 0 m c (M.txt z)).length ≤ 800 := by
      rw [M.prt_eq]
      have hm : (M.mns m).length ≤ 1 := by cases m <;> decide
      have hp : (M.pls (M.txt z)).length ≤ 1 := by unfold M.pls; split <;> simp
      simp only [List.length_append, List.length_cons]; omega
    have hsz : (bA (M.prt 0 m c (M.txt z))).size ≤ 800 := by rw [bA_size]; exact hlen
    have hcz : (bA c).size ≤ 1000 := by rw [bA_size]; omega
    have hzz : (tx z).size ≤ 1000 := by rw [tx_size]; omega
    have hout : M.out 0 m (bA c).data.toList (tx z).data.toList = M.prt 0 m c (M.txt z) := by rw [bA_toList, tx_list, M.out_yes hDec2]
    rcases hv with rfl | rfl
    · have c2 : ∀ W, Env W → Calls Tryz.prog 23 #[.string (bA (M.prt 0 m c (M.txt z)))] W fun e w' => e = .returned (.tuple #[dV 0 m (bA c) (tx z), .bool true]) ∧ Below W.heap.size W w' := by
        intro W hW
        obtain ⟨H, Y, hS⟩ := M.shape o4
        refine fof_plain _ W hW (by omega) c [] H Y z (by rw [bA_toList]; exact hS) (by rw [bA_toList]; exact o2) (Or.inl (by rw [bA_toList]; exact o2.trans o3)) 0 m true _ _ fun W' hT => ?_
        rw [bA_toList, r1]
        exact hM W' hT
      have := tel_floO (bA (M.prt 0 m c (M.txt z))) 0 m (bA c) (tx z) (by omega) (by rw [bA_toList]; exact hw.1) (by rw [bA_toList]; exact hw.2 _) (by rw [bA_toList]; exact o1) hcz hzz c2
      rw [hout] at this
      exact this
    · have c2 : ∀ W, Env W → Calls Tryz.prog 27 #[.string (bA (M.prt 0 m c (M.txt z)))] W fun e w' => e = .returned (.tuple #[dV 0 m (bA c) (tx z), .bool true]) ∧ Below W.heap.size W w' := by
        intro W hW
        refine nflo_yes _ W hW (by omega) c [] (c ++ [46]) (101 :: (M.pls (M.txt z) ++ M.txt z)) z (by rw [bA_toList]; exact r3) (by rw [bA_toList]; exact r2) 0 m true _ _ fun W' hT => ?_
        rw [bA_toList, r1]
        exact hM W' hT
      have := tel_floN 12 (by decide) (bA (M.prt 0 m c (M.txt z))) 0 m (bA c) (tx z) (by omega) (by rw [bA_toList]; exact hw.1) (by rw [bA_toList]; exact hw.2 _) (by rw [bA_toList]; exact M.iv_none_of_four r2) hcz hzz c2
      rw [hout] at this
      exact this
  rcases M.decB_cases hdec with ⟨hk, e1, e2⟩ | ⟨hk, c, z, hc, e1, e2⟩ | ⟨hk, e1, e2⟩ | ⟨hk, hm, e1, e2⟩
  · refine fin [48] 0 hk e1 (by rw [M.txt_zero]; exact e2) (by decide) (by decide) (by rw [M.txt_zero]; decide) fun W hT => ?_
    have := make_zero m (bA [48]) (bA []) 0 W (by decide) (by decide) (by rw [tx0]; decide) (by decide) (by decide)
    rw [tx0] at this ⊢
    exact this
  · have hcl : (M.dg c).length ≤ 500 := by rw [← e1, ← sz_list]; exact hD
    have hzl : (M.txt z).length ≤ 200 := by rw [← e2, ← sz_list]; exact hX
    refine fin (M.dg c) z hk e1 e2 (M.dg_ok c) hcl hzl fun W hT => ?_
    have := make_yes m (bA (M.dg c)) (bA []) z c 0 W hT (by rw [bA_size]; omega) (by decide) (by rw [tx_size]; omega) (by rw [bA_toList, bA_toList, List.append_nil]; exact M.dg_ok c) hc (by rw [bA_toList, bA_toList, List.append_nil, M.dg_val, Nat.pow_zero, Nat.mul_one])
    have e0 : z + (((0 : Nat) : Int) - ((bA [] : ByteArray).size : Int)) = z := by
      rw [show ((bA [] : ByteArray).size : Int) = 0 from rfl]; omega
    rw [e0] at this
    exact this
  · subst hk
    rw [M.out_yes hdec, e1, e2]
    have eD : D = ⟨#[]⟩ := ba_of e1
    have eX : X = ⟨#[]⟩ := ba_of e2
    subst eD eX
    intro v hv
    rcases hv with rfl | rfl
    · cases m
      · exact tel_floO (bA (M.prt 1 false [] [])) 1 false ⟨#[]⟩ ⟨#[]⟩ (by decide) (by decide) (by decide) (by decide) (by decide) (by decide) fun W _ => fof_inf (bA (M.prt 1 false [] [])) W (by decide) (by decide)
      · exact tel_floO (bA (M.prt 1 true [] [])) 1 true ⟨#[]⟩ ⟨#[]⟩ (by decide) (by decide) (by decide) (by decide) (by decide) (by decide) fun W _ => fof_inf (bA (M.prt 1 true [] [])) W (by decide) (by decide)
    · cases m
      · exact tel_floN 12 (by decide) (bA (M.prt 1 false [] [])) 1 false ⟨#[]⟩ ⟨#[]⟩ (by decide) (by decide) (by decide) (by decide) (by decide) (by decide) fun W _ => nflo_inf (bA (M.prt 1 false [] [])) W (by decide) (by decide) (by decide)
      · exact tel_floN 12 (by decide) (bA (M.prt 1 true [] [])) 1 true ⟨#[]⟩ ⟨#[]⟩ (by decide) (by decide) (by decide) (by decide) (by decide) (by decide) fun W _ => nflo_inf (bA (M.prt 1 true [] [])) W (by decide) (by decide) (by decide)
  · subst hk hm
    rw [M.out_yes hdec, e1, e2]
    have eD : D = ⟨#[]⟩ := ba_of e1
    have eX : X = ⟨#[]⟩ := ba_of e2
    subst eD eX
    intro v hv
    rcases hv with rfl | rfl
    · exact tel_floO (bA (M.prt 2 false [] [])) 2 false ⟨#[]⟩ ⟨#[]⟩ (by decide) (by decide) (by decide) (by decide) (by decide) (by decide) fun W _ => fof_nan (bA (M.prt 2 false [] [])) W (by decide) (by decide)
    · exact tel_floN 12 (by decide) (bA (M.prt 2 false [] [])) 2 false ⟨#[]⟩ ⟨#[]⟩ (by decide) (by decide) (by decide) (by decide) (by decide) (by decide) fun W _ => nflo_nan (bA (M.prt 2 false [] [])) W (by decide)
end Go.Proofs.YtipgipgehnhgkaaGreatDoor
