/- The law StampZones: its walk, within the day. -/
import Derived.Test.YtoidlgopibnaaaaDoorLb
set_option linter.unusedVariables false
namespace Go.Proofs.YtoidlgopibnaaaaDoor
open Go.RowKit

set_option maxRecDepth 100000 in
set_option maxHeartbeats 1000000 in
theorem zones_core0 (y m d h n s : Nat) (zone : Int) (t : Nat) (w : World) (ht : Tab w) (hy : y ≤ 65535) (hm : m ≤ 255) (hd : d ≤ 255) (hh : h ≤ 255) (hn : n ≤ 255) (hs : s ≤ 255) (hz : -32768 ≤ zone ∧ zone ≤ 32767) (htt : t ≤ 255) (K P : Nat) (hKl : K < 1440) (hPl : P < 1440) (hk : 60 * ((h % 24 : Nat) : Int) + ((n % 60 : Nat) : Int) + Int.tmod zone 1440 = (K : Int)) (hp : Int.tmod zone 1440 = (P : Int)) :
    Calls Tryd.prog 5 #[.int .u16 y, .int .u8 m, .int .u8 d, .int .u8 h, .int .u8 n, .int .u8 s, .int .i16 zone, .int .u8 t] w fun e w' => e = .returned (.bool true) ∧ Below w.heap.size w w' := by
  obtain ⟨z1, z2⟩ := hz
  obtain ⟨YY, hYY⟩ : ∃ x, y % 9998 = x := ⟨_, rfl⟩
  have y1 : Int.tmod (y : Int) 9998 = (YY : Int) := (md hYY (by omega)).1
  have y2 : (y : Int) % 9998 = (YY : Int) := (md hYY (by omega)).2
  obtain ⟨MM, hMM⟩ : ∃ x, m % 12 = x := ⟨_, rfl⟩
  have m1 : Int.tmod (m : Int) 12 = (MM : Int) := (md hMM (by omega)).1
  have m2 : (m : Int) % 12 = (MM : Int) := (md hMM (by omega)).2
  obtain ⟨H, hH⟩ : ∃ x, h % 24 = x := ⟨_, rfl⟩
  have h1 : Int.tmod (h : Int) 24 = (H : Int) := (md hH (by omega)).1
  have h2 : (h : Int) % 24 = (H : Int) := (md hH (by omega)).2
  obtain ⟨NN, hNN⟩ : ∃ x, n % 60 = x := ⟨_, rfl⟩
  have n1 : Int.tmod (n : Int) 60 = (NN : Int) := (md hNN (by omega)).1
  have n2 : (n : Int) % 60 = (NN : Int) := (md hNN (by omega)).2
  obtain ⟨SS, hSS⟩ : ∃ x, s % 60 = x := ⟨_, rfl⟩
  have s1 : Int.tmod (s : Int) 60 = (SS : Int) := (md hSS (by omega)).1
  have s2 : (s : Int) % 60 = (SS : Int) := (md hSS (by omega)).2
  obtain ⟨TT, hTT⟩ : ∃ x, t % 3 = x := ⟨_, rfl⟩
  have t1 : Int.tmod (t : Int) 3 = (TT : Int) := (md hTT (by omega)).1
  have t2 : (t : Int) % 3 = (TT : Int) := (md hTT (by omega)).2
  obtain ⟨Y, hY⟩ : ∃ x, 1 + YY = x := ⟨_, rfl⟩
  obtain ⟨Mo, hMo⟩ : ∃ x, 1 + MM = x := ⟨_, rfl⟩
  have y3 : (1 : Int) + (YY : Int) = (Y : Int) := by omega
  have m3 : (1 : Int) + (MM : Int) = (Mo : Int) := by omega
  have hdp := M.days_pos (y := Y) (m := Mo) (by omega) (by omega)
  have hdl := M.days_le Y Mo
  have cR := fun W => rdays_nat Y Mo W (by omega)
  obtain ⟨N, hN⟩ : ∃ x, M.days Y Mo = x := ⟨_, rfl⟩
  rw [hN] at cR hdp hdl
  obtain ⟨DD, hDD⟩ : ∃ x, d % N = x := ⟨_, rfl⟩
  have hDl := Nat.mod_lt d (show 0 < N by omega)
  rw [hDD] at hDl
  obtain ⟨d1, d2⟩ := md hDD (by omega)
  obtain ⟨D, hD⟩ : ∃ x, 1 + DD = x := ⟨_, rfl⟩
  have d3 : (1 : Int) + (DD : Int) = (D : Int) := by omega
  have n0 : ((N : Int) == 0) = false := beq_eq_false_iff_ne.2 (by omega)
  have n00 : ¬ (N : Int) = 0 := by omega
  obtain ⟨q, hq⟩ : ∃ q, Y / 100 = q := ⟨_, rfl⟩
  have q1 : (Y : Int) / 100 = (q : Int) := by rw [← hq]; rfl
  have cQ := fun W => two2_any q W (by omega)
  have cM := fun W => two2_any Mo W (by omega)
  have cD := fun W => two2_any D W (by omega)
  have cH := fun W => two2_any H W (by omega)
  have cN := fun W => two2_any NN W (by omega)
  have cS := fun W => two2_any SS W (by omega)
  have cY := fun W => two_any Y W (by omega)
  have hDT : bA (M.d2 q) ++ bA (e2 Y) ++ ⟨#[45]⟩ ++ bA (M.d2 Mo) ++ ⟨#[45]⟩ ++ bA (M.d2 D) = bA (M.DT Y Mo D) := by
    apply eq_bA
    unfold M.DT
    rw [← e2_year Y (by omega), hq, e2_small (n := q) (by omega)]
    simp [bA_toList]
  have hAT : bA (M.d2 H) ++ ⟨#[58]⟩ ++ bA (M.d2 NN) ++ ⟨#[58]⟩ ++ bA (M.d2 SS) = bA (M.AT H NN SS) := by
    apply eq_bA
    simp [bA_toList, M.AT]
  have zDA : (bA (M.DT Y Mo D)).size = 10 := by rw [bA_size, M.DT_len]
  have zTA : (bA (M.AT H NN SS)).size = 8 := by rw [bA_size, M.AT_len]
  have zQ : (bA (M.d2 q)).size = 2 := d2_size _
  have zY : (bA (e2 Y)).size = 2 := e2_size _
  have zM : (bA (M.d2 Mo)).size = 2 := d2_size _
  have zD : (bA (M.d2 D)).size = 2 := d2_size _
  have zH : (bA (M.d2 H)).size = 2 := d2_size _
  have zN : (bA (M.d2 NN)).size = 2 := d2_size _
  have zS : (bA (M.d2 SS)).size = 2 := d2_size _
  rw [hH, hNN] at hk
  have hHl : H < 24 := by omega
  have hNl : NN < 60 := by omega
  have hMl : Mo ≤ 12 := by omega
  have hzt : Int.tmod zone 1440 = (P : Int) := hp
  rw [hp] at hk
  have ez1 : 60 * (H : Int) + (NN : Int) + (P : Int) = (K : Int) := hk
  have g4 : decide ((P : Int) < 0) = false := decide_eq_false (by omega)
  have g1 : decide ((K : Int) < 0) = false := decide_eq_false (by omega)
  have g2 : decide ((1440 : Int) ≤ (K : Int)) = false := decide_eq_false (by omega)
  have g3 : decide (1440 ≤ K) = false := decide_eq_false (by omega)
  have hok : Zs.ok ⟨Y, Mo, D, H, NN, SS, K, P, false⟩ := by
    refine ⟨?_, ?_, ?_, ?_, ?_, ?_, ?_, ?_, ?_, ?_, ?_, ?_⟩
    all_goals (try dsimp only)
    all_goals first | omega | (rw [hN]; omega) | (simp; omega)
  have cA := Zs.cA2 Y Mo D H NN SS K P false hok
  have cB := Zs.cB2 Y Mo D H NN SS K P false hok
  have cC := Zs.cC2 Y Mo D H NN SS K P false hok ⟨#[43]⟩ rfl
  have cE := Zs.cE2 Y Mo D H NN SS K P false hok ⟨#[43]⟩ rfl
  have hW := Zs.w2 Y Mo D H NN SS K P false
  obtain ⟨WL, hWL⟩ : ∃ WL, bA (Zs.want ⟨Y, Mo, D, H, NN, SS, K, P, false⟩) = WL := ⟨_, rfl⟩
  rw [hWL] at cA cB cC cE hW
  obtain ⟨k1, hk1⟩ : ∃ x, K / 60 = x := ⟨_, rfl⟩
  have fk1 : (K : Int) / 60 = (k1 : Int) := by rw [← hk1]; rfl
  rw [hk1] at cC cE
  have ck1 := fun W => two2_any k1 W (by omega)
  obtain ⟨k2, hk2⟩ : ∃ x, K % 60 = x := ⟨_, rfl⟩
  have fk2 : (K : Int) % 60 = (k2 : Int) := by rw [← hk2]; rfl
  rw [hk2] at cC cE
  have ck2 := fun W => two2_any k2 W (by omega)
  obtain ⟨p1, hp1⟩ : ∃ x, P / 60 = x := ⟨_, rfl⟩
  have fp1 : (P : Int) / 60 = (p1 : Int) := by rw [← hp1]; rfl
  rw [hp1] at cC cE
  have cp1 := fun W => two2_any p1 W (by omega)
  obtain ⟨p2, hp2⟩ : ∃ x, P % 60 = x := ⟨_, rfl⟩
  have fp2 : (P : Int) % 60 = (p2 : Int) := by rw [← hp2]; rfl
  rw [hp2] at cC cE
  have cp2 := fun W => two2_any p2 W (by omega)
  have cT := fun W => text2_any p1 W (by omega)
  obtain ⟨AQ, eAQ⟩ : ∃ x, bA (M.d2 q) = x := ⟨_, rfl⟩
  obtain ⟨AY, eAY⟩ : ∃ x, bA (e2 Y) = x := ⟨_, rfl⟩
  obtain ⟨AM, eAM⟩ : ∃ x, bA (M.d2 Mo) = x := ⟨_, rfl⟩
  obtain ⟨AD, eAD⟩ : ∃ x, bA (M.d2 D) = x := ⟨_, rfl⟩
  obtain ⟨AH, eAH⟩ : ∃ x, bA (M.d2 H) = x := ⟨_, rfl⟩
  obtain ⟨AN, eAN⟩ : ∃ x, bA (M.d2 NN) = x := ⟨_, rfl⟩
  obtain ⟨AS, eAS⟩ : ∃ x, bA (M.d2 SS) = x := ⟨_, rfl⟩
  obtain ⟨DA, eDA⟩ : ∃ x, bA (M.DT Y Mo D) = x := ⟨_, rfl⟩
  obtain ⟨TA, eTA⟩ : ∃ x, bA (M.AT H NN SS) = x := ⟨_, rfl⟩
  obtain ⟨A1, eA1⟩ : ∃ x, bA (M.d2 k1) = x := ⟨_, rfl⟩
  obtain ⟨A2, eA2⟩ : ∃ x, bA (M.d2 k2) = x := ⟨_, rfl⟩
  obtain ⟨P1, eP1⟩ : ∃ x, bA (M.d2 p1) = x := ⟨_, rfl⟩
  obtain ⟨P2, eP2⟩ : ∃ x, bA (M.d2 p2) = x := ⟨_, rfl⟩
  obtain ⟨PT, ePT⟩ : ∃ x, bA (T2 p1) = x := ⟨_, rfl⟩
  rw [eAQ, eAY, eAM, eAD, eDA] at hDT
  rw [eAH, eAN, eAS, eTA] at hAT
  rw [eDA, eTA] at hW
  rw [eDA] at zDA
  rw [eTA] at zTA
  rw [eAQ] at zQ cQ
  rw [eAY] at zY cY
  rw [eAM] at zM cM
  rw [eAD] at zD cD
  rw [eAH] at zH cH
  rw [eAN] at zN cN
  rw [eAS] at zS cS cC cE
  rw [eDA] at cC cE cA cB
  rw [eTA] at cA cB
  rw [eA1] at cC ck1 cE
  rw [eA2] at cC ck2 cE
  rw [eP1] at cC cp1
  rw [eP2] at cC cp2 cE
  rw [ePT] at cT cE
  have zA1 : A1.size = 2 := by rw [← eA1]; exact d2_size _
  have zA2 : A2.size = 2 := by rw [← eA2]; exact d2_size _
  have zP1 : P1.size = 2 := by rw [← eP1]; exact d2_size _
  have zP2 : P2.size = 2 := by rw [← eP2]; exact d2_size _
  have zPT : PT.size ≤ 2 := by rw [← ePT, bA_size]; exact T2_len _
  clear hok hWL eAQ eAY eAM eAD eAH eAN eAS eDA eTA eA1 eA2 eP1 eP2 ePT
  have a1 : ∀ W, (Op.stringOp .add (AQ) (AY)).run Tryd.prog W = .ok (.string ((AQ) ++ AY)) W := fun W => run_string_add_sum _ _ _ (by have z2 : (⟨#[45]⟩ : ByteArray).size = 1 := rfl; have z4 : (⟨#[45]⟩ : ByteArray).size = 1 := rfl; first | omega | (simp only [append_sz]; omega))
  have a2 : ∀ W, (Op.stringOp .add (AQ ++ AY) (⟨#[45]⟩)).run Tryd.prog W = .ok (.string ((AQ ++ AY) ++ ⟨#[45]⟩)) W := fun W => run_string_add_sum _ _ _ (by have z2 : (⟨#[45]⟩ : ByteArray).size = 1 := rfl; have z4 : (⟨#[45]⟩ : ByteArray).size = 1 := rfl; first | omega | (simp only [append_sz]; omega))
  have a3 : ∀ W, (Op.stringOp .add (AQ ++ AY ++ ⟨#[45]⟩) (AM)).run Tryd.prog W = .ok (.string ((AQ ++ AY ++ ⟨#[45]⟩) ++ AM)) W := fun W => run_string_add_sum _ _ _ (by have z2 : (⟨#[45]⟩ : ByteArray).size = 1 := rfl; have z4 : (⟨#[45]⟩ : ByteArray).size = 1 := rfl; first | omega | (simp only [append_sz]; omega))
  have a4 : ∀ W, (Op.stringOp .add (AQ ++ AY ++ ⟨#[45]⟩ ++ AM) (⟨#[45]⟩)).run Tryd.prog W = .ok (.string ((AQ ++ AY ++ ⟨#[45]⟩ ++ AM) ++ ⟨#[45]⟩)) W := fun W => run_string_add_sum _ _ _ (by have z2 : (⟨#[45]⟩ : ByteArray).size = 1 := rfl; have z4 : (⟨#[45]⟩ : ByteArray).size = 1 := rfl; first | omega | (simp only [append_sz]; omega))
  have a5 : ∀ W, (Op.stringOp .add (AQ ++ AY ++ ⟨#[45]⟩ ++ AM ++ ⟨#[45]⟩) (AD)).run Tryd.prog W = .ok (.string ((AQ ++ AY ++ ⟨#[45]⟩ ++ AM ++ ⟨#[45]⟩) ++ AD)) W := fun W => run_string_add_sum _ _ _ (by have z2 : (⟨#[45]⟩ : ByteArray).size = 1 := rfl; have z4 : (⟨#[45]⟩ : ByteArray).size = 1 := rfl; first | omega | (simp only [append_sz]; omega))
  have a6 : ∀ W, (Op.stringOp .add (AH) (⟨#[58]⟩)).run Tryd.prog W = .ok (.string ((AH) ++ ⟨#[58]⟩)) W := fun W => run_string_add_sum _ _ _ (by have z1 : (⟨#[58]⟩ : ByteArray).size = 1 := rfl; have z3 : (⟨#[58]⟩ : ByteArray).size = 1 := rfl; first | omega | (simp only [append_sz]; omega))
  have a7 : ∀ W, (Op.stringOp .add (AH ++ ⟨#[58]⟩) (AN)).run Tryd.prog W = .ok (.string ((AH ++ ⟨#[58]⟩) ++ AN)) W := fun W => run_string_add_sum _ _ _ (by have z1 : (⟨#[58]⟩ : ByteArray).size = 1 := rfl; have z3 : (⟨#[58]⟩ : ByteArray).size = 1 := rfl; first | omega | (simp only [append_sz]; omega))
  have a8 : ∀ W, (Op.stringOp .add (AH ++ ⟨#[58]⟩ ++ AN) (⟨#[58]⟩)).run Tryd.prog W = .ok (.string ((AH ++ ⟨#[58]⟩ ++ AN) ++ ⟨#[58]⟩)) W := fun W => run_string_add_sum _ _ _ (by have z1 : (⟨#[58]⟩ : ByteArray).size = 1 := rfl; have z3 : (⟨#[58]⟩ : ByteArray).size = 1 := rfl; first | omega | (simp only [append_sz]; omega))
  have a9 : ∀ W, (Op.stringOp .add (AH ++ ⟨#[58]⟩ ++ AN ++ ⟨#[58]⟩) (AS)).run Tryd.prog W = .ok (.string ((AH ++ ⟨#[58]⟩ ++ AN ++ ⟨#[58]⟩) ++ AS)) W := fun W => run_string_add_sum _ _ _ (by have z1 : (⟨#[58]⟩ : ByteArray).size = 1 := rfl; have z3 : (⟨#[58]⟩ : ByteArray).size = 1 := rfl; first | omega | (simp only [append_sz]; omega))
  have a10 : ∀ W, (Op.stringOp .add (DA) (⟨#[84]⟩)).run Tryd.prog W = .ok (.string ((DA) ++ ⟨#[84]⟩)) W := fun W => run_string_add_sum _ _ _ (by have z1 : (⟨#[84]⟩ : ByteArray).size = 1 := rfl; have z3 : (⟨#[90]⟩ : ByteArray).size = 1 := rfl; first | omega | (simp only [append_sz]; omega))
  have a11 : ∀ W, (Op.stringOp .add (DA ++ ⟨#[84]⟩) (TA)).run Tryd.prog W = .ok (.string ((DA ++ ⟨#[84]⟩) ++ TA)) W := fun W => run_string_add_sum _ _ _ (by have z1 : (⟨#[84]⟩ : ByteArray).size = 1 := rfl; have z3 : (⟨#[90]⟩ : ByteArray).size = 1 := rfl; first | omega | (simp only [append_sz]; omega))
  have a12 : ∀ W, (Op.stringOp .add (DA ++ ⟨#[84]⟩ ++ TA) (⟨#[90]⟩)).run Tryd.prog W = .ok (.string ((DA ++ ⟨#[84]⟩ ++ TA) ++ ⟨#[90]⟩)) W := fun W => run_string_add_sum _ _ _ (by have z1 : (⟨#[84]⟩ : ByteArray).size = 1 := rfl; have z3 : (⟨#[90]⟩ : ByteArray).size = 1 := rfl; first | omega | (simp only [append_sz]; omega))
  have a13 : ∀ W, (Op.stringOp .add (DA) (⟨#[84]⟩)).run Tryd.prog W = .ok (.string ((DA) ++ ⟨#[84]⟩)) W := fun W => run_string_add_sum _ _ _ (by have z1 : (⟨#[84]⟩ : ByteArray).size = 1 := rfl; have z3 : (⟨#[58]⟩ : ByteArray).size = 1 := rfl; have z5 : (⟨#[58]⟩ : ByteArray).size = 1 := rfl; have z7 : (⟨#[43]⟩ : ByteArray).size = 1 := rfl; have z9 : (⟨#[58]⟩ : ByteArray).size = 1 := rfl; first | omega | (simp only [append_sz]; omega))
  have a14 : ∀ W, (Op.stringOp .add (DA ++ ⟨#[84]⟩) (A1)).run Tryd.prog W = .ok (.string ((DA ++ ⟨#[84]⟩) ++ A1)) W := fun W => run_string_add_sum _ _ _ (by have z1 : (⟨#[84]⟩ : ByteArray).size = 1 := rfl; have z3 : (⟨#[58]⟩ : ByteArray).size = 1 := rfl; have z5 : (⟨#[58]⟩ : ByteArray).size = 1 := rfl; have z7 : (⟨#[43]⟩ : ByteArray).size = 1 := rfl; have z9 : (⟨#[58]⟩ : ByteArray).size = 1 := rfl; first | omega | (simp only [append_sz]; omega))
  have a15 : ∀ W, (Op.stringOp .add (DA ++ ⟨#[84]⟩ ++ A1) (⟨#[58]⟩)).run Tryd.prog W = .ok (.string ((DA ++ ⟨#[84]⟩ ++ A1) ++ ⟨#[58]⟩)) W := fun W => run_string_add_sum _ _ _ (by have z1 : (⟨#[84]⟩ : ByteArray).size = 1 := rfl; have z3 : (⟨#[58]⟩ : ByteArray).size = 1 := rfl; have z5 : (⟨#[58]⟩ : ByteArray).size = 1 := rfl; have z7 : (⟨#[43]⟩ : ByteArray).size = 1 := rfl; have z9 : (⟨#[58]⟩ : ByteArray).size = 1 := rfl; first | omega | (simp only [append_sz]; omega))
  have a16 : ∀ W, (Op.stringOp .add (DA ++ ⟨#[84]⟩ ++ A1 ++ ⟨#[58]⟩) (A2)).run Tryd.prog W = .ok (.string ((DA ++ ⟨#[84]⟩ ++ A1 ++ ⟨#[58]⟩) ++ A2)) W := fun W => run_string_add_sum _ _ _ (by have z1 : (⟨#[84]⟩ : ByteArray).size = 1 := rfl; have z3 : (⟨#[58]⟩ : ByteArray).size = 1 := rfl; have z5 : (⟨#[58]⟩ : ByteArray).size = 1 := rfl; have z7 : (⟨#[43]⟩ : ByteArray).size = 1 := rfl; have z9 : (⟨#[58]⟩ : ByteArray).size = 1 := rfl; first | omega | (simp only [append_sz]; omega))
  have a17 : ∀ W, (Op.stringOp .add (DA ++ ⟨#[84]⟩ ++ A1 ++ ⟨#[58]⟩ ++ A2) (⟨#[58]⟩)).run Tryd.prog W = .ok (.string ((DA ++ ⟨#[84]⟩ ++ A1 ++ ⟨#[58]⟩ ++ A2) ++ ⟨#[58]⟩)) W := fun W => run_string_add_sum _ _ _ (by have z1 : (⟨#[84]⟩ : ByteArray).size = 1 := rfl; have z3 : (⟨#[58]⟩ : ByteArray).size = 1 := rfl; have z5 : (⟨#[58]⟩ : ByteArray).size = 1 := rfl; have z7 : (⟨#[43]⟩ : ByteArray).size = 1 := rfl; have z9 : (⟨#[58]⟩ : ByteArray).size = 1 := rfl; first | omega | (simp only [append_sz]; omega))
  have a18 : ∀ W, (Op.stringOp .add (DA ++ ⟨#[84]⟩ ++ A1 ++ ⟨#[58]⟩ ++ A2 ++ ⟨#[58]⟩) (AS)).run Tryd.prog W = .ok (.string ((DA ++ ⟨#[84]⟩ ++ A1 ++ ⟨#[58]⟩ ++ A2 ++ ⟨#[58]⟩) ++ AS)) W := fun W => run_string_add_sum _ _ _ (by have z1 : (⟨#[84]⟩ : ByteArray).size = 1 := rfl; have z3 : (⟨#[58]⟩ : ByteArray).size = 1 := rfl; have z5 : (⟨#[58]⟩ : ByteArray).size = 1 := rfl; have z7 : (⟨#[43]⟩ : ByteArray).size = 1 := rfl; have z9 : (⟨#[58]⟩ : ByteArray).size = 1 := rfl; first | omega | (simp only [append_sz]; omega))
  have a19 : ∀ W, (Op.stringOp .add (DA ++ ⟨#[84]⟩ ++ A1 ++ ⟨#[58]⟩ ++ A2 ++ ⟨#[58]⟩ ++ AS) (⟨#[43]⟩)).run Tryd.prog W = .ok (.string ((DA ++ ⟨#[84]⟩ ++ A1 ++ ⟨#[58]⟩ ++ A2 ++ ⟨#[58]⟩ ++ AS) ++ ⟨#[43]⟩)) W := fun W => run_string_add_sum _ _ _ (by have z1 : (⟨#[84]⟩ : ByteArray).size = 1 := rfl; have z3 : (⟨#[58]⟩ : ByteArray).size = 1 := rfl; have z5 : (⟨#[58]⟩ : ByteArray).size = 1 := rfl; have z7 : (⟨#[43]⟩ : ByteArray).size = 1 := rfl; have z9 : (⟨#[58]⟩ : ByteArray).size = 1 := rfl; first | omega | (simp only [append_sz]; omega))
  have a20 : ∀ W, (Op.stringOp .add (DA ++ ⟨#[84]⟩ ++ A1 ++ ⟨#[58]⟩ ++ A2 ++ ⟨#[58]⟩ ++ AS ++ ⟨#[43]⟩) (P1)).run Tryd.prog W = .ok (.string ((DA ++ ⟨#[84]⟩ ++ A1 ++ ⟨#[58]⟩ ++ A2 ++ ⟨#[58]⟩ ++ AS ++ ⟨#[43]⟩) ++ P1)) W := fun W => run_string_add_sum _ _ _ (by have z1 : (⟨#[84]⟩ : ByteArray).size = 1 := rfl; have z3 : (⟨#[58]⟩ : ByteArray).size = 1 := rfl; have z5 : (⟨#[58]⟩ : ByteArray).size = 1 := rfl; have z7 : (⟨#[43]⟩ : ByteArray).size = 1 := rfl; have z9 : (⟨#[58]⟩ : ByteArray).size = 1 := rfl; first | omega | (simp only [append_sz]; omega))
  have a21 : ∀ W, (Op.stringOp .add (DA ++ ⟨#[84]⟩ ++ A1 ++ ⟨#[58]⟩ ++ A2 ++ ⟨#[58]⟩ ++ AS ++ ⟨#[43]⟩ ++ P1) (⟨#[58]⟩)).run Tryd.prog W = .ok (.string ((DA ++ ⟨#[84]⟩ ++ A1 ++ ⟨#[58]⟩ ++ A2 ++ ⟨#[58]⟩ ++ AS ++ ⟨#[43]⟩ ++ P1) ++ ⟨#[58]⟩)) W := fun W => run_string_add_sum _ _ _ (by have z1 : (⟨#[84]⟩ : ByteArray).size = 1 := rfl; have z3 : (⟨#[58]⟩ : ByteArray).size = 1 := rfl; have z5 : (⟨#[58]⟩ : ByteArray).size = 1 := rfl; have z7 : (⟨#[43]⟩ : ByteArray).size = 1 := rfl; have z9 : (⟨#[58]⟩ : ByteArray).size = 1 := rfl; first | omega | (simp only [append_sz]; omega))
  have a22 : ∀ W, (Op.stringOp .add (DA ++ ⟨#[84]⟩ ++ A1 ++ ⟨#[58]⟩ ++ A2 ++ ⟨#[58]⟩ ++ AS ++ ⟨#[43]⟩ ++ P1 ++ ⟨#[58]⟩) (P2)).run Tryd.prog W = .ok (.string ((DA ++ ⟨#[84]⟩ ++ A1 ++ ⟨#[58]⟩ ++ A2 ++ ⟨#[58]⟩ ++ AS ++ ⟨#[43]⟩ ++ P1 ++ ⟨#[58]⟩) ++ P2)) W := fun W => run_string_add_sum _ _ _ (by have z1 : (⟨#[84]⟩ : ByteArray).size = 1 := rfl; have z3 : (⟨#[58]⟩ : ByteArray).size = 1 := rfl; have z5 : (⟨#[58]⟩ : ByteArray).size = 1 := rfl; have z7 : (⟨#[43]⟩ : ByteArray).size = 1 := rfl; have z9 : (⟨#[58]⟩ : ByteArray).size = 1 := rfl; first | omega | (simp only [append_sz]; omega))
  have HCA := Lib.hid cA
  have HCB := Lib.hid cB
  have HCE := Lib.hid cE
  have HCC := Lib.hid cC
  have HZ : Hid (DA.size = 10 ∧ TA.size = 8 ∧ A1.size = 2 ∧ A2.size = 2 ∧ AS.size = 2 ∧ P1.size = 2 ∧ P2.size = 2 ∧ PT.size ≤ 2) := ⟨zDA, zTA, zA1, zA2, zS, zP1, zP2, zPT⟩
  have hYl : Y ≤ 9998 := by omega
  have hDl2 : D ≤ 31 := by omega
  have hSl : SS < 60 := by omega
  have hql : q < 100 := by omega
  have hk1 : k1 < 24 := by omega
  have hk2 : k2 < 60 := by omega
  have hp1 : p1 < 24 := by omega
  have hp2 : p2 < 60 := by omega
  have hTl : TT < 3 := by omega
  clear cA cB cC cE zQ zY zM zD zH zN zS zDA zTA zA1 zA2 zP1 zP2 zPT hp hk
  clear hN hDD hDl hD hY hMo hYY hMM hH hNN hSS hTT hq
  go_enter Tryd.func5, Tryd.ntmps5
  go_wp2_with fail
  refine (known_any _ ht).mono ?_
  rintro r w1 ⟨rfl, hb⟩
  have B1 : Below w.heap.size w w1 := hb
  have T1 : Tab w1 := ht.next B1
  clear hb
  go_wp2_with fail
  refine (cR _).mono ?_
  rintro r w' ⟨rfl, rfl⟩
  go_wp2_with fail
  refine (cQ _).mono ?_
  rintro r w2 ⟨rfl, hb⟩
  have B2 : Below w.heap.size w w2 := B1.trans (hb.mono B1.size)
  have T2 : Tab w2 := ht.next B2
  clear hb B1 T1
  go_wp2_with fail
  refine (cY _).mono ?_
  rintro r w3 ⟨rfl, hb⟩
  have B3 : Below w.heap.size w w3 := B2.trans (hb.mono B2.size)
  have T3 : Tab w3 := ht.next B3
  clear hb B2 T2
  go_wp2_with fail
  refine (cM _).mono ?_
  rintro r w4 ⟨rfl, hb⟩
  have B4 : Below w.heap.size w w4 := B3.trans (hb.mono B3.size)
  have T4 : Tab w4 := ht.next B4
  clear hb B3 T3
  go_wp2_with fail
  refine (cD _).mono ?_
  rintro r w5 ⟨rfl, hb⟩
  have B5 : Below w.heap.size w w5 := B4.trans (hb.mono B4.size)
  have T5 : Tab w5 := ht.next B5
  clear hb B4 T4
  go_wp2_with fail
  refine (cH _).mono ?_
  rintro r w6 ⟨rfl, hb⟩
  have B6 : Below w.heap.size w w6 := B5.trans (hb.mono B5.size)
  have T6 : Tab w6 := ht.next B6
  clear hb B5 T5
  go_wp2_with fail
  refine (cN _).mono ?_
  rintro r w7 ⟨rfl, hb⟩
  have B7 : Below w.heap.size w w7 := B6.trans (hb.mono B6.size)
  have T7 : Tab w7 := ht.next B7
  clear hb B6 T6
  go_wp2_with fail
  refine (cS _).mono ?_
  rintro r w8 ⟨rfl, hb⟩
  have B8 : Below w.heap.size w w8 := B7.trans (hb.mono B7.size)
  have T8 : Tab w8 := ht.next B8
  clear hb B7 T7
  go_wp2_with fail
  go_loop [28, 29] (fun gv iv => ∃ (j : Nat) (G : ByteArray), gv = .string G ∧ iv = .int .i64 j ∧ j ≤ TT ∧ Hid (∃ g, G = bA g ∧ g ≠ [] ∧ (∀ c ∈ g, M.bB c = true) ∧ g.length = j + 1)) (fun _ iv => TT - (intOf iv).toNat)
  case atStart => exact ⟨0, ⟨#[32]⟩, rfl, rfl, Nat.zero_le _, [32], rfl, by simp, by decide, rfl⟩
  case round =>
    obtain ⟨j, G, rfl, rfl, hj, hG⟩ := hrel
    by_cases hlt : j < TT
    · have l1 : decide (j < TT) = true := decide_eq_true hlt
      have l2 : decide ((j : Int) < (TT : Int)) = true := decide_eq_true (by omega)
      have hGz : G.size = j + 1 := by obtain ⟨g, e, _, _, h⟩ := hG.out; rw [e, bA_size, h]
      have aG : ∀ W, (Op.stringOp .add G ⟨#[9]⟩).run Tryd.prog W = .ok (.string (G ++ ⟨#[9]⟩)) W := fun W => run_string_add_sum _ _ _ (by have z1 : (⟨#[9]⟩ : ByteArray).size = 1 := rfl; omega)
      clear hGz
      go_wp2
      go_round
      case rel =>
        obtain ⟨g, e, h1, h2, h3⟩ := hG.out
        exact ⟨j + 1, G ++ ⟨#[9]⟩, rfl, by go_num, by omega, g ++ [9], by rw [e]; exact bA_append g [9], by simp, by intro c hc; rcases List.mem_append.1 hc with k | k; exact h2 c k; rw [List.mem_singleton.1 k]; decide, by rw [List.length_append, h3]; rfl⟩
      case measure => simp [intOf]; omega
    · have l1 : decide (j < TT) = false := decide_eq_false hlt
      have l2 : decide ((j : Int) < (TT : Int)) = false := decide_eq_false (by omega)
      obtain ⟨g, e, h1, h2, h3⟩ := hG.out
      subst e
      have hbl : Bl g := ⟨h1, h2, by omega⟩
      have cA := HCA.out g hbl
      have cB := HCB.out g hbl
      have cE := HCE.out g hbl
      have cC := HCC.out
      have zG : (bA g).size ≤ 3 := by rw [bA_size]; omega
      obtain ⟨zDA, zTA, zA1, zA2, zS, zP1, zP2, zPT⟩ := HZ.out
      clear HCA HCB HCE HCC HZ hbl h1 h2 h3 hG
      generalize bA g = G at *
      have a23 : ∀ W, (Op.stringOp .add (DA) (G)).run Tryd.prog W = .ok (.string ((DA) ++ G)) W := fun W => run_string_add_sum _ _ _ (by  first | omega | (simp only [append_sz]; omega))
      have a24 : ∀ W, (Op.stringOp .add (DA ++ G) (TA)).run Tryd.prog W = .ok (.string ((DA ++ G) ++ TA)) W := fun W => run_string_add_sum _ _ _ (by  first | omega | (simp only [append_sz]; omega))
      have a25 : ∀ W, (Op.stringOp .add (DA) (⟨#[116]⟩)).run Tryd.prog W = .ok (.string ((DA) ++ ⟨#[116]⟩)) W := fun W => run_string_add_sum _ _ _ (by have z1 : (⟨#[116]⟩ : ByteArray).size = 1 := rfl; have z4 : (⟨#[90]⟩ : ByteArray).size = 1 := rfl; first | omega | (simp only [append_sz]; omega))
      have a26 : ∀ W, (Op.stringOp .add (DA ++ ⟨#[116]⟩) (TA)).run Tryd.prog W = .ok (.string ((DA ++ ⟨#[116]⟩) ++ TA)) W := fun W => run_string_add_sum _ _ _ (by have z1 : (⟨#[116]⟩ : ByteArray).size = 1 := rfl; have z4 : (⟨#[90]⟩ : ByteArray).size = 1 := rfl; first | omega | (simp only [append_sz]; omega))
      have a27 : ∀ W, (Op.stringOp .add (DA ++ ⟨#[116]⟩ ++ TA) (G)).run Tryd.prog W = .ok (.string ((DA ++ ⟨#[116]⟩ ++ TA) ++ G)) W := fun W => run_string_add_sum _ _ _ (by have z1 : (⟨#[116]⟩ : ByteArray).size = 1 := rfl; have z4 : (⟨#[90]⟩ : ByteArray).size = 1 := rfl; first | omega | (simp only [append_sz]; omega))
      have a28 : ∀ W, (Op.stringOp .add (DA ++ ⟨#[116]⟩ ++ TA ++ G) (⟨#[90]⟩)).run Tryd.prog W = .ok (.string ((DA ++ ⟨#[116]⟩ ++ TA ++ G) ++ ⟨#[90]⟩)) W := fun W => run_string_add_sum _ _ _ (by have z1 : (⟨#[116]⟩ : ByteArray).size = 1 := rfl; have z4 : (⟨#[90]⟩ : ByteArray).size = 1 := rfl; first | omega | (simp only [append_sz]; omega))
      have a29 : ∀ W, (Op.stringOp .add (DA) (⟨#[84]⟩)).run Tryd.prog W = .ok (.string ((DA) ++ ⟨#[84]⟩)) W := fun W => run_string_add_sum _ _ _ (by have z1 : (⟨#[84]⟩ : ByteArray).size = 1 := rfl; have z3 : (⟨#[58]⟩ : ByteArray).size = 1 := rfl; have z5 : (⟨#[58]⟩ : ByteArray).size = 1 := rfl; have z8 : (⟨#[43]⟩ : ByteArray).size = 1 := rfl; have z10 : (⟨#[58]⟩ : ByteArray).size = 1 := rfl; first | omega | (simp only [append_sz]; omega))
      have a30 : ∀ W, (Op.stringOp .add (DA ++ ⟨#[84]⟩) (A1)).run Tryd.prog W = .ok (.string ((DA ++ ⟨#[84]⟩) ++ A1)) W := fun W => run_string_add_sum _ _ _ (by have z1 : (⟨#[84]⟩ : ByteArray).size = 1 := rfl; have z3 : (⟨#[58]⟩ : ByteArray).size = 1 := rfl; have z5 : (⟨#[58]⟩ : ByteArray).size = 1 := rfl; have z8 : (⟨#[43]⟩ : ByteArray).size = 1 := rfl; have z10 : (⟨#[58]⟩ : ByteArray).size = 1 := rfl; first | omega | (simp only [append_sz]; omega))
      have a31 : ∀ W, (Op.stringOp .add (DA ++ ⟨#[84]⟩ ++ A1) (⟨#[58]⟩)).run Tryd.prog W = .ok (.string ((DA ++ ⟨#[84]⟩ ++ A1) ++ ⟨#[58]⟩)) W := fun W => run_string_add_sum _ _ _ (by have z1 : (⟨#[84]⟩ : ByteArray).size = 1 := rfl; have z3 : (⟨#[58]⟩ : ByteArray).size = 1 := rfl; have z5 : (⟨#[58]⟩ : ByteArray).size = 1 := rfl; have z8 : (⟨#[43]⟩ : ByteArray).size = 1 := rfl; have z10 : (⟨#[58]⟩ : ByteArray).size = 1 := rfl; first | omega | (simp only [append_sz]; omega))
      have a32 : ∀ W, (Op.stringOp .add (DA ++ ⟨#[84]⟩ ++ A1 ++ ⟨#[58]⟩) (A2)).run Tryd.prog W = .ok (.string ((DA ++ ⟨#[84]⟩ ++ A1 ++ ⟨#[58]⟩) ++ A2)) W := fun W => run_string_add_sum _ _ _ (by have z1 : (⟨#[84]⟩ : ByteArray).size = 1 := rfl; have z3 : (⟨#[58]⟩ : ByteArray).size = 1 := rfl; have z5 : (⟨#[58]⟩ : ByteArray).size = 1 := rfl; have z8 : (⟨#[43]⟩ : ByteArray).size = 1 := rfl; have z10 : (⟨#[58]⟩ : ByteArray).size = 1 := rfl; first | omega | (simp only [append_sz]; omega))
      have a33 : ∀ W, (Op.stringOp .add (DA ++ ⟨#[84]⟩ ++ A1 ++ ⟨#[58]⟩ ++ A2) (⟨#[58]⟩)).run Tryd.prog W = .ok (.string ((DA ++ ⟨#[84]⟩ ++ A1 ++ ⟨#[58]⟩ ++ A2) ++ ⟨#[58]⟩)) W := fun W => run_string_add_sum _ _ _ (by have z1 : (⟨#[84]⟩ : ByteArray).size = 1 := rfl; have z3 : (⟨#[58]⟩ : ByteArray).size = 1 := rfl; have z5 : (⟨#[58]⟩ : ByteArray).size = 1 := rfl; have z8 : (⟨#[43]⟩ : ByteArray).size = 1 := rfl; have z10 : (⟨#[58]⟩ : ByteArray).size = 1 := rfl; first | omega | (simp only [append_sz]; omega))
      have a34 : ∀ W, (Op.stringOp .add (DA ++ ⟨#[84]⟩ ++ A1 ++ ⟨#[58]⟩ ++ A2 ++ ⟨#[58]⟩) (AS)).run Tryd.prog W = .ok (.string ((DA ++ ⟨#[84]⟩ ++ A1 ++ ⟨#[58]⟩ ++ A2 ++ ⟨#[58]⟩) ++ AS)) W := fun W => run_string_add_sum _ _ _ (by have z1 : (⟨#[84]⟩ : ByteArray).size = 1 := rfl; have z3 : (⟨#[58]⟩ : ByteArray).size = 1 := rfl; have z5 : (⟨#[58]⟩ : ByteArray).size = 1 := rfl; have z8 : (⟨#[43]⟩ : ByteArray).size = 1 := rfl; have z10 : (⟨#[58]⟩ : ByteArray).size = 1 := rfl; first | omega | (simp only [append_sz]; omega))
      have a35 : ∀ W, (Op.stringOp .add (DA ++ ⟨#[84]⟩ ++ A1 ++ ⟨#[58]⟩ ++ A2 ++ ⟨#[58]⟩ ++ AS) (G)).run Tryd.prog W = .ok (.string ((DA ++ ⟨#[84]⟩ ++ A1 ++ ⟨#[58]⟩ ++ A2 ++ ⟨#[58]⟩ ++ AS) ++ G)) W := fun W => run_string_add_sum _ _ _ (by have z1 : (⟨#[84]⟩ : ByteArray).size = 1 := rfl; have z3 : (⟨#[58]⟩ : ByteArray).size = 1 := rfl; have z5 : (⟨#[58]⟩ : ByteArray).size = 1 := rfl; have z8 : (⟨#[43]⟩ : ByteArray).size = 1 := rfl; have z10 : (⟨#[58]⟩ : ByteArray).size = 1 := rfl; first | omega | (simp only [append_sz]; omega))
      have a36 : ∀ W, (Op.stringOp .add (DA ++ ⟨#[84]⟩ ++ A1 ++ ⟨#[58]⟩ ++ A2 ++ ⟨#[58]⟩ ++ AS ++ G) (⟨#[43]⟩)).run Tryd.prog W = .ok (.string ((DA ++ ⟨#[84]⟩ ++ A1 ++ ⟨#[58]⟩ ++ A2 ++ ⟨#[58]⟩ ++ AS ++ G) ++ ⟨#[43]⟩)) W := fun W => run_string_add_sum _ _ _ (by have z1 : (⟨#[84]⟩ : ByteArray).size = 1 := rfl; have z3 : (⟨#[58]⟩ : ByteArray).size = 1 := rfl; have z5 : (⟨#[58]⟩ : ByteArray).size = 1 := rfl; have z8 : (⟨#[43]⟩ : ByteArray).size = 1 := rfl; have z10 : (⟨#[58]⟩ : ByteArray).size = 1 := rfl; first | omega | (simp only [append_sz]; omega))
      have a37 : ∀ W, (Op.stringOp .add (DA ++ ⟨#[84]⟩ ++ A1 ++ ⟨#[58]⟩ ++ A2 ++ ⟨#[58]⟩ ++ AS ++ G ++ ⟨#[43]⟩) (PT)).run Tryd.prog W = .ok (.string ((DA ++ ⟨#[84]⟩ ++ A1 ++ ⟨#[58]⟩ ++ A2 ++ ⟨#[58]⟩ ++ AS ++ G ++ ⟨#[43]⟩) ++ PT)) W := fun W => run_string_add_sum _ _ _ (by have z1 : (⟨#[84]⟩ : ByteArray).size = 1 := rfl; have z3 : (⟨#[58]⟩ : ByteArray).size = 1 := rfl; have z5 : (⟨#[58]⟩ : ByteArray).size = 1 := rfl; have z8 : (⟨#[43]⟩ : ByteArray).size = 1 := rfl; have z10 : (⟨#[58]⟩ : ByteArray).size = 1 := rfl; first | omega | (simp only [append_sz]; omega))
      have a38 : ∀ W, (Op.stringOp .add (DA ++ ⟨#[84]⟩ ++ A1 ++ ⟨#[58]⟩ ++ A2 ++ ⟨#[58]⟩ ++ AS ++ G ++ ⟨#[43]⟩ ++ PT) (⟨#[58]⟩)).run Tryd.prog W = .ok (.string ((DA ++ ⟨#[84]⟩ ++ A1 ++ ⟨#[58]⟩ ++ A2 ++ ⟨#[58]⟩ ++ AS ++ G ++ ⟨#[43]⟩ ++ PT) ++ ⟨#[58]⟩)) W := fun W => run_string_add_sum _ _ _ (by have z1 : (⟨#[84]⟩ : ByteArray).size = 1 := rfl; have z3 : (⟨#[58]⟩ : ByteArray).size = 1 := rfl; have z5 : (⟨#[58]⟩ : ByteArray).size = 1 := rfl; have z8 : (⟨#[43]⟩ : ByteArray).size = 1 := rfl; have z10 : (⟨#[58]⟩ : ByteArray).size = 1 := rfl; first | omega | (simp only [append_sz]; omega))
      have a39 : ∀ W, (Op.stringOp .add (DA ++ ⟨#[84]⟩ ++ A1 ++ ⟨#[58]⟩ ++ A2 ++ ⟨#[58]⟩ ++ AS ++ G ++ ⟨#[43]⟩ ++ PT ++ ⟨#[58]⟩) (P2)).run Tryd.prog W = .ok (.string ((DA ++ ⟨#[84]⟩ ++ A1 ++ ⟨#[58]⟩ ++ A2 ++ ⟨#[58]⟩ ++ AS ++ G ++ ⟨#[43]⟩ ++ PT ++ ⟨#[58]⟩) ++ P2)) W := fun W => run_string_add_sum _ _ _ (by have z1 : (⟨#[84]⟩ : ByteArray).size = 1 := rfl; have z3 : (⟨#[58]⟩ : ByteArray).size = 1 := rfl; have z5 : (⟨#[58]⟩ : ByteArray).size = 1 := rfl; have z8 : (⟨#[43]⟩ : ByteArray).size = 1 := rfl; have z10 : (⟨#[58]⟩ : ByteArray).size = 1 := rfl; first | omega | (simp only [append_sz]; omega))
      clear zDA zTA zA1 zA2 zS zP1 zP2 zPT zG
      go_wp2_with fail
      with_reducible refine (cA _ T8).mono ?_
      rintro r w9 ⟨rfl, hb⟩
      have B9 : Below w.heap.size w w9 := B8.trans (hb.mono B8.size)
      have T9 : Tab w9 := ht.next B9
      clear hb B8 T8
      go_wp2_with fail
      with_reducible refine (cB _ T9).mono ?_
      rintro r w10 ⟨rfl, hb⟩
      have B10 : Below w.heap.size w w10 := B9.trans (hb.mono B9.size)
      have T10 : Tab w10 := ht.next B10
      clear hb B9 T9
      go_wp2_with fail
      refine (ck1 _).mono ?_
      rintro r w11 ⟨rfl, hb⟩
      have B11 : Below w.heap.size w w11 := B10.trans (hb.mono B10.size)
      have T11 : Tab w11 := ht.next B11
      clear hb B10 T10
      go_wp2_with fail
      refine (ck2 _).mono ?_
      rintro r w12 ⟨rfl, hb⟩
      have B12 : Below w.heap.size w w12 := B11.trans (hb.mono B11.size)
      have T12 : Tab w12 := ht.next B12
      clear hb B11 T11
      go_wp2_with fail
      refine (cS _).mono ?_
      rintro r w13 ⟨rfl, hb⟩
      have B13 : Below w.heap.size w w13 := B12.trans (hb.mono B12.size)
      have T13 : Tab w13 := ht.next B13
      clear hb B12 T12
      go_wp2_with fail
      refine (cp1 _).mono ?_
      rintro r w14 ⟨rfl, hb⟩
      have B14 : Below w.heap.size w w14 := B13.trans (hb.mono B13.size)
      have T14 : Tab w14 := ht.next B14
      clear hb B13 T13
      go_wp2_with fail
      refine (cp2 _).mono ?_
      rintro r w15 ⟨rfl, hb⟩
      have B15 : Below w.heap.size w w15 := B14.trans (hb.mono B14.size)
      have T15 : Tab w15 := ht.next B15
      clear hb B14 T14
      go_wp2_with fail
      with_reducible refine (cC _ T15).mono ?_
      rintro r w16 ⟨rfl, hb⟩
      have B16 : Below w.heap.size w w16 := B15.trans (hb.mono B15.size)
      have T16 : Tab w16 := ht.next B16
      clear hb B15 T15
      go_wp2_with fail
      refine (ck1 _).mono ?_
      rintro r w17 ⟨rfl, hb⟩
      have B17 : Below w.heap.size w w17 := B16.trans (hb.mono B16.size)
      have T17 : Tab w17 := ht.next B17
      clear hb B16 T16
      go_wp2_with fail
      refine (ck2 _).mono ?_
      rintro r w18 ⟨rfl, hb⟩
      have B18 : Below w.heap.size w w18 := B17.trans (hb.mono B17.size)
      have T18 : Tab w18 := ht.next B18
      clear hb B17 T17
      go_wp2_with fail
      refine (cS _).mono ?_
      rintro r w19 ⟨rfl, hb⟩
      have B19 : Below w.heap.size w w19 := B18.trans (hb.mono B18.size)
      have T19 : Tab w19 := ht.next B19
      clear hb B18 T18
      go_wp2_with fail
      refine (cT _).mono ?_
      rintro r w20 ⟨rfl, hb⟩
      have B20 : Below w.heap.size w w20 := B19.trans (hb.mono B19.size)
      have T20 : Tab w20 := ht.next B20
      clear hb B19 T19
      go_wp2_with fail
      refine (cp2 _).mono ?_
      rintro r w21 ⟨rfl, hb⟩
      have B21 : Below w.heap.size w w21 := B20.trans (hb.mono B20.size)
      have T21 : Tab w21 := ht.next B21
      clear hb B20 T20
      go_wp2_with fail
      with_reducible refine (cE _ T21).mono ?_
      rintro r w22 ⟨rfl, hb⟩
      have B22 : Below w.heap.size w w22 := B21.trans (hb.mono B21.size)
      have T22 : Tab w22 := ht.next B22
      clear hb B21 T21
      go_wp2
      go_ret
      exact ⟨rfl, B22⟩
set_option maxRecDepth 100000 in
set_option maxHeartbeats 1000000 in
theorem zones_core1 (y m d h n s : Nat) (zone : Int) (t : Nat) (w : World) (ht : Tab w) (hy : y ≤ 65535) (hm : m ≤ 255) (hd : d ≤ 255) (hh : h ≤ 255) (hn : n ≤ 255) (hs : s ≤ 255) (hz : -32768 ≤ zone ∧ zone ≤ 32767) (htt : t ≤ 255) (K P : Nat) (hKl : K < 1440) (hPl : P < 1440) (hk : 60 * ((h % 24 : Nat) : Int) + ((n % 60 : Nat) : Int) + Int.tmod zone 1440 = (K : Int)) (hp : Int.tmod zone 1440 = -(P : Int)) (hp0 : 0 < P) :
    Calls Tryd.prog 5 #[.int .u16 y, .int .u8 m, .int .u8 d, .int .u8 h, .int .u8 n, .int .u8 s, .int .i16 zone, .int .u8 t] w fun e w' => e = .returned (.bool true) ∧ Below w.heap.size w w' := by
  obtain ⟨z1, z2⟩ := hz
  obtain ⟨YY, hYY⟩ : ∃ x, y % 9998 = x := ⟨_, rfl⟩
  have y1 : Int.tmod (y : Int) 9998 = (YY : Int) := (md hYY (by omega)).1
  have y2 : (y : Int) % 9998 = (YY : Int) := (md hYY (by omega)).2
  obtain ⟨MM, hMM⟩ : ∃ x, m % 12 = x := ⟨_, rfl⟩
  have m1 : Int.tmod (m : Int) 12 = (MM : Int) := (md hMM (by omega)).1
  have m2 : (m : Int) % 12 = (MM : Int) := (md hMM (by omega)).2
  obtain ⟨H, hH⟩ : ∃ x, h % 24 = x := ⟨_, rfl⟩
  have h1 : Int.tmod (h : Int) 24 = (H : Int) := (md hH (by omega)).1
  have h2 : (h : Int) % 24 = (H : Int) := (md hH (by omega)).2
  obtain ⟨NN, hNN⟩ : ∃ x, n % 60 = x := ⟨_, rfl⟩
  have n1 : Int.tmod (n : Int) 60 = (NN : Int) := (md hNN (by omega)).1
  have n2 : (n : Int) % 60 = (NN : Int) := (md hNN (by omega)).2
  obtain ⟨SS, hSS⟩ : ∃ x, s % 60 = x := ⟨_, rfl⟩
  have s1 : Int.tmod (s : Int) 60 = (SS : Int) := (md hSS (by omega)).1
  have s2 : (s : Int) % 60 = (SS : Int) := (md hSS (by omega)).2
  obtain ⟨TT, hTT⟩ : ∃ x, t % 3 = x := ⟨_, rfl⟩
  have t1 : Int.tmod (t : Int) 3 = (TT : Int) := (md hTT (by omega)).1
  have t2 : (t : Int) % 3 = (TT : Int) := (md hTT (by omega)).2
  obtain ⟨Y, hY⟩ : ∃ x, 1 + YY = x := ⟨_, rfl⟩
  obtain ⟨Mo, hMo⟩ : ∃ x, 1 + MM = x := ⟨_, rfl⟩
  have y3 : (1 : Int) + (YY : Int) = (Y : Int) := by omega
  have m3 : (1 : Int) + (MM : Int) = (Mo : Int) := by omega
  have hdp := M.days_pos (y := Y) (m := Mo) (by omega) (by omega)
  have hdl := M.days_le Y Mo
  have cR := fun W => rdays_nat Y Mo W (by omega)
  obtain ⟨N, hN⟩ : ∃ x, M.days Y Mo = x := ⟨_, rfl⟩
  rw [hN] at cR hdp hdl
  obtain ⟨DD, hDD⟩ : ∃ x, d % N = x := ⟨_, rfl⟩
  have hDl := Nat.mod_lt d (show 0 < N by omega)
  rw [hDD] at hDl
  obtain ⟨d1, d2⟩ := md hDD (by omega)
  obtain ⟨D, hD⟩ : ∃ x, 1 + DD = x := ⟨_, rfl⟩
  have d3 : (1 : Int) + (DD : Int) = (D : Int) := by omega
  have n0 : ((N : Int) == 0) = false := beq_eq_false_iff_ne.2 (by omega)
  have n00 : ¬ (N : Int) = 0 := by omega
  obtain ⟨q, hq⟩ : ∃ q, Y / 100 = q := ⟨_, rfl⟩
  have q1 : (Y : Int) / 100 = (q : Int) := by rw [← hq]; rfl
  have cQ := fun W => two2_any q W (by omega)
  have cM := fun W => two2_any Mo W (by omega)
  have cD := fun W => two2_any D W (by omega)
  have cH := fun W => two2_any H W (by omega)
  have cN := fun W => two2_any NN W (by omega)
  have cS := fun W => two2_any SS W (by omega)
  have cY := fun W => two_any Y W (by omega)
  have hDT : bA (M.d2 q) ++ bA (e2 Y) ++ ⟨#[45]⟩ ++ bA (M.d2 Mo) ++ ⟨#[45]⟩ ++ bA (M.d2 D) = bA (M.DT Y Mo D) := by
    apply eq_bA
    unfold M.DT
    rw [← e2_year Y (by omega), hq, e2_small (n := q) (by omega)]
    simp [bA_toList]
  have hAT : bA (M.d2 H) ++ ⟨#[58]⟩ ++ bA (M.d2 NN) ++ ⟨#[58]⟩ ++ bA (M.d2 SS) = bA (M.AT H NN SS) := by
    apply eq_bA
    simp [bA_toList, M.AT]
  have zDA : (bA (M.DT Y Mo D)).size = 10 := by rw [bA_size, M.DT_len]
  have zTA : (bA (M.AT H NN SS)).size = 8 := by rw [bA_size, M.AT_len]
  have zQ : (bA (M.d2 q)).size = 2 := d2_size _
  have zY : (bA (e2 Y)).size = 2 := e2_size _
  have zM : (bA (M.d2 Mo)).size = 2 := d2_size _
  have zD : (bA (M.d2 D)).size = 2 := d2_size _
  have zH : (bA (M.d2 H)).size = 2 := d2_size _
  have zN : (bA (M.d2 NN)).size = 2 := d2_size _
  have zS : (bA (M.d2 SS)).size = 2 := d2_size _
  rw [hH, hNN] at hk
  have hHl : H < 24 := by omega
  have hNl : NN < 60 := by omega
  have hMl : Mo ≤ 12 := by omega
  obtain ⟨z, hzt⟩ : ∃ z, Int.tmod zone 1440 = z := ⟨_, rfl⟩
  rw [hzt] at hk hp
  have ez1 : 60 * (H : Int) + (NN : Int) + z = (K : Int) := hk
  have ez2 : -z = (P : Int) := by omega
  have g4 : decide (z < 0) = true := decide_eq_true (by omega)
  have hzl : -1440 < z ∧ z < 0 := by omega
  obtain ⟨hzl, hzl2⟩ := hzl
  have g1 : decide ((K : Int) < 0) = false := decide_eq_false (by omega)
  have g2 : decide ((1440 : Int) ≤ (K : Int)) = false := decide_eq_false (by omega)
  have g3 : decide (1440 ≤ K) = false := decide_eq_false (by omega)
  have hok : Zs.ok ⟨Y, Mo, D, H, NN, SS, K, P, true⟩ := by
    refine ⟨?_, ?_, ?_, ?_, ?_, ?_, ?_, ?_, ?_, ?_, ?_, ?_⟩
    all_goals (try dsimp only)
    all_goals first | omega | (rw [hN]; omega) | (simp; omega)
  have cA := Zs.cA2 Y Mo D H NN SS K P true hok
  have cB := Zs.cB2 Y Mo D H NN SS K P true hok
  have cC := Zs.cC2 Y Mo D H NN SS K P true hok ⟨#[45]⟩ rfl
  have cE := Zs.cE2 Y Mo D H NN SS K P true hok ⟨#[45]⟩ rfl
  have hW := Zs.w2 Y Mo D H NN SS K P true
  obtain ⟨WL, hWL⟩ : ∃ WL, bA (Zs.want ⟨Y, Mo, D, H, NN, SS, K, P, true⟩) = WL := ⟨_, rfl⟩
  rw [hWL] at cA cB cC cE hW
  obtain ⟨k1, hk1⟩ : ∃ x, K / 60 = x := ⟨_, rfl⟩
  have fk1 : (K : Int) / 60 = (k1 : Int) := by rw [← hk1]; rfl
  rw [hk1] at cC cE
  have ck1 := fun W => two2_any k1 W (by omega)
  obtain ⟨k2, hk2⟩ : ∃ x, K % 60 = x := ⟨_, rfl⟩
  have fk2 : (K : Int) % 60 = (k2 : Int) := by rw [← hk2]; rfl
  rw [hk2] at cC cE
  have ck2 := fun W => two2_any k2 W (by omega)
  obtain ⟨p1, hp1⟩ : ∃ x, P / 60 = x := ⟨_, rfl⟩
  have fp1 : (P : Int) / 60 = (p1 : Int) := by rw [← hp1]; rfl
  rw [hp1] at cC cE
  have cp1 := fun W => two2_any p1 W (by omega)
  obtain ⟨p2, hp2⟩ : ∃ x, P % 60 = x := ⟨_, rfl⟩
  have fp2 : (P : Int) % 60 = (p2 : Int) := by rw [← hp2]; rfl
  rw [hp2] at cC cE
  have cp2 := fun W => two2_any p2 W (by omega)
  have cT := fun W => text2_any p1 W (by omega)
  obtain ⟨AQ, eAQ⟩ : ∃ x, bA (M.d2 q) = x := ⟨_, rfl⟩
  obtain ⟨AY, eAY⟩ : ∃ x, bA (e2 Y) = x := ⟨_, rfl⟩
  obtain ⟨AM, eAM⟩ : ∃ x, bA (M.d2 Mo) = x := ⟨_, rfl⟩
  obtain ⟨AD, eAD⟩ : ∃ x, bA (M.d2 D) = x := ⟨_, rfl⟩
  obtain ⟨AH, eAH⟩ : ∃ x, bA (M.d2 H) = x := ⟨_, rfl⟩
  obtain ⟨AN, eAN⟩ : ∃ x, bA (M.d2 NN) = x := ⟨_, rfl⟩
  obtain ⟨AS, eAS⟩ : ∃ x, bA (M.d2 SS) = x := ⟨_, rfl⟩
  obtain ⟨DA, eDA⟩ : ∃ x, bA (M.DT Y Mo D) = x := ⟨_, rfl⟩
  obtain ⟨TA, eTA⟩ : ∃ x, bA (M.AT H NN SS) = x := ⟨_, rfl⟩
  obtain ⟨A1, eA1⟩ : ∃ x, bA (M.d2 k1) = x := ⟨_, rfl⟩
  obtain ⟨A2, eA2⟩ : ∃ x, bA (M.d2 k2) = x := ⟨_, rfl⟩
  obtain ⟨P1, eP1⟩ : ∃ x, bA (M.d2 p1) = x := ⟨_, rfl⟩
  obtain ⟨P2, eP2⟩ : ∃ x, bA (M.d2 p2) = x := ⟨_, rfl⟩
  obtain ⟨PT, ePT⟩ : ∃ x, bA (T2 p1) = x := ⟨_, rfl⟩
  rw [eAQ, eAY, eAM, eAD, eDA] at hDT
  rw [eAH, eAN, eAS, eTA] at hAT
  rw [eDA, eTA] at hW
  rw [eDA] at zDA
  rw [eTA] at zTA
  rw [eAQ] at zQ cQ
  rw [eAY] at zY cY
  rw [eAM] at zM cM
  rw [eAD] at zD cD
  rw [eAH] at zH cH
  rw [eAN] at zN cN
  rw [eAS] at zS cS cC cE
  rw [eDA] at cC cE cA cB
  rw [eTA] at cA cB
  rw [eA1] at cC ck1 cE
  rw [eA2] at cC ck2 cE
  rw [eP1] at cC cp1
  rw [eP2] at cC cp2 cE
  rw [ePT] at cT cE
  have zA1 : A1.size = 2 := by rw [← eA1]; exact d2_size _
  have zA2 : A2.size = 2 := by rw [← eA2]; exact d2_size _
  have zP1 : P1.size = 2 := by rw [← eP1]; exact d2_size _
  have zP2 : P2.size = 2 := by rw [← eP2]; exact d2_size _
  have zPT : PT.size ≤ 2 := by rw [← ePT, bA_size]; exact T2_len _
  clear hok hWL eAQ eAY eAM eAD eAH eAN eAS eDA eTA eA1 eA2 eP1 eP2 ePT
  have a1 : ∀ W, (Op.stringOp .add (AQ) (AY)).run Tryd.prog W = .ok (.string ((AQ) ++ AY)) W := fun W => run_string_add_sum _ _ _ (by have z2 : (⟨#[45]⟩ : ByteArray).size = 1 := rfl; have z4 : (⟨#[45]⟩ : ByteArray).size = 1 := rfl; first | omega | (simp only [append_sz]; omega))
  have a2 : ∀ W, (Op.stringOp .add (AQ ++ AY) (⟨#[45]⟩)).run Tryd.prog W = .ok (.string ((AQ ++ AY) ++ ⟨#[45]⟩)) W := fun W => run_string_add_sum _ _ _ (by have z2 : (⟨#[45]⟩ : ByteArray).size = 1 := rfl; have z4 : (⟨#[45]⟩ : ByteArray).size = 1 := rfl; first | omega | (simp only [append_sz]; omega))
  have a3 : ∀ W, (Op.stringOp .add (AQ ++ AY ++ ⟨#[45]⟩) (AM)).run Tryd.prog W = .ok (.string ((AQ ++ AY ++ ⟨#[45]⟩) ++ AM)) W := fun W => run_string_add_sum _ _ _ (by have z2 : (⟨#[45]⟩ : ByteArray).size = 1 := rfl; have z4 : (⟨#[45]⟩ : ByteArray).size = 1 := rfl; first | omega | (simp only [append_sz]; omega))
  have a4 : ∀ W, (Op.stringOp .add (AQ ++ AY ++ ⟨#[45]⟩ ++ AM) (⟨#[45]⟩)).run Tryd.prog W = .ok (.string ((AQ ++ AY ++ ⟨#[45]⟩ ++ AM) ++ ⟨#[45]⟩)) W := fun W => run_string_add_sum _ _ _ (by have z2 : (⟨#[45]⟩ : ByteArray).size = 1 := rfl; have z4 : (⟨#[45]⟩ : ByteArray).size = 1 := rfl; first | omega | (simp only [append_sz]; omega))
  have a5 : ∀ W, (Op.stringOp .add (AQ ++ AY ++ ⟨#[45]⟩ ++ AM ++ ⟨#[45]⟩) (AD)).run Tryd.prog W = .ok (.string ((AQ ++ AY ++ ⟨#[45]⟩ ++ AM ++ ⟨#[45]⟩) ++ AD)) W := fun W => run_string_add_sum _ _ _ (by have z2 : (⟨#[45]⟩ : ByteArray).size = 1 := rfl; have z4 : (⟨#[45]⟩ : ByteArray).size = 1 := rfl; first | omega | (simp only [append_sz]; omega))
  have a6 : ∀ W, (Op.stringOp .add (AH) (⟨#[58]⟩)).run Tryd.prog W = .ok (.string ((AH) ++ ⟨#[58]⟩)) W := fun W => run_string_add_sum _ _ _ (by have z1 : (⟨#[58]⟩ : ByteArray).size = 1 := rfl; have z3 : (⟨#[58]⟩ : ByteArray).size = 1 := rfl; first | omega | (simp only [append_sz]; omega))
  have a7 : ∀ W, (Op.stringOp .add (AH ++ ⟨#[58]⟩) (AN)).run Tryd.prog W = .ok (.string ((AH ++ ⟨#[58]⟩) ++ AN)) W := fun W => run_string_add_sum _ _ _ (by have z1 : (⟨#[58]⟩ : ByteArray).size = 1 := rfl; have z3 : (⟨#[58]⟩ : ByteArray).size = 1 := rfl; first | omega | (simp only [append_sz]; omega))
  have a8 : ∀ W, (Op.stringOp .add (AH ++ ⟨#[58]⟩ ++ AN) (⟨#[58]⟩)).run Tryd.prog W = .ok (.string ((AH ++ ⟨#[58]⟩ ++ AN) ++ ⟨#[58]⟩)) W := fun W => run_string_add_sum _ _ _ (by have z1 : (⟨#[58]⟩ : ByteArray).size = 1 := rfl; have z3 : (⟨#[58]⟩ : ByteArray).size = 1 := rfl; first | omega | (simp only [append_sz]; omega))
  have a9 : ∀ W, (Op.stringOp .add (AH ++ ⟨#[58]⟩ ++ AN ++ ⟨#[58]⟩) (AS)).run Tryd.prog W = .ok (.string ((AH ++ ⟨#[58]⟩ ++ AN ++ ⟨#[58]⟩) ++ AS)) W := fun W => run_string_add_sum _ _ _ (by have z1 : (⟨#[58]⟩ : ByteArray).size = 1 := rfl; have z3 : (⟨#[58]⟩ : ByteArray).size = 1 := rfl; first | omega | (simp only [append_sz]; omega))
  have a10 : ∀ W, (Op.stringOp .add (DA) (⟨#[84]⟩)).run Tryd.prog W = .ok (.string ((DA) ++ ⟨#[84]⟩)) W := fun W => run_string_add_sum _ _ _ (by have z1 : (⟨#[84]⟩ : ByteArray).size = 1 := rfl; have z3 : (⟨#[90]⟩ : ByteArray).size = 1 := rfl; first | omega | (simp only [append_sz]; omega))
  have a11 : ∀ W, (Op.stringOp .add (DA ++ ⟨#[84]⟩) (TA)).run Tryd.prog W = .ok (.string ((DA ++ ⟨#[84]⟩) ++ TA)) W := fun W => run_string_add_sum _ _ _ (by have z1 : (⟨#[84]⟩ : ByteArray).size = 1 := rfl; have z3 : (⟨#[90]⟩ : ByteArray).size = 1 := rfl; first | omega | (simp only [append_sz]; omega))
  have a12 : ∀ W, (Op.stringOp .add (DA ++ ⟨#[84]⟩ ++ TA) (⟨#[90]⟩)).run Tryd.prog W = .ok (.string ((DA ++ ⟨#[84]⟩ ++ TA) ++ ⟨#[90]⟩)) W := fun W => run_string_add_sum _ _ _ (by have z1 : (⟨#[84]⟩ : ByteArray).size = 1 := rfl; have z3 : (⟨#[90]⟩ : ByteArray).size = 1 := rfl; first | omega | (simp only [append_sz]; omega))
  have a13 : ∀ W, (Op.stringOp .add (DA) (⟨#[84]⟩)).run Tryd.prog W = .ok (.string ((DA) ++ ⟨#[84]⟩)) W := fun W => run_string_add_sum _ _ _ (by have z1 : (⟨#[84]⟩ : ByteArray).size = 1 := rfl; have z3 : (⟨#[58]⟩ : ByteArray).size = 1 := rfl; have z5 : (⟨#[58]⟩ : ByteArray).size = 1 := rfl; have z7 : (⟨#[45]⟩ : ByteArray).size = 1 := rfl; have z9 : (⟨#[58]⟩ : ByteArray).size = 1 := rfl; first | omega | (simp only [append_sz]; omega))
  have a14 : ∀ W, (Op.stringOp .add (DA ++ ⟨#[84]⟩) (A1)).run Tryd.prog W = .ok (.string ((DA ++ ⟨#[84]⟩) ++ A1)) W := fun W => run_string_add_sum _ _ _ (by have z1 : (⟨#[84]⟩ : ByteArray).size = 1 := rfl; have z3 : (⟨#[58]⟩ : ByteArray).size = 1 := rfl; have z5 : (⟨#[58]⟩ : ByteArray).size = 1 := rfl; have z7 : (⟨#[45]⟩ : ByteArray).size = 1 := rfl; have z9 : (⟨#[58]⟩ : ByteArray).size = 1 := rfl; first | omega | (simp only [append_sz]; omega))
  have a15 : ∀ W, (Op.stringOp .add (DA ++ ⟨#[84]⟩ ++ A1) (⟨#[58]⟩)).run Tryd.prog W = .ok (.string ((DA ++ ⟨#[84]⟩ ++ A1) ++ ⟨#[58]⟩)) W := fun W => run_string_add_sum _ _ _ (by have z1 : (⟨#[84]⟩ : ByteArray).size = 1 := rfl; have z3 : (⟨#[58]⟩ : ByteArray).size = 1 := rfl; have z5 : (⟨#[58]⟩ : ByteArray).size = 1 := rfl; have z7 : (⟨#[45]⟩ : ByteArray).size = 1 := rfl; have z9 : (⟨#[58]⟩ : ByteArray).size = 1 := rfl; first | omega | (simp only [append_sz]; omega))
  have a16 : ∀ W, (Op.stringOp .add (DA ++ ⟨#[84]⟩ ++ A1 ++ ⟨#[58]⟩) (A2)).run Tryd.prog W = .ok (.string ((DA ++ ⟨#[84]⟩ ++ A1 ++ ⟨#[58]⟩) ++ A2)) W := fun W => run_string_add_sum _ _ _ (by have z1 : (⟨#[84]⟩ : ByteArray).size = 1 := rfl; have z3 : (⟨#[58]⟩ : ByteArray).size = 1 := rfl; have z5 : (⟨#[58]⟩ : ByteArray).size = 1 := rfl; have z7 : (⟨#[45]⟩ : ByteArray).size = 1 := rfl; have z9 : (⟨#[58]⟩ : ByteArray).size = 1 := rfl; first | omega | (simp only [append_sz]; omega))
  have a17 : ∀ W, (Op.stringOp .add (DA ++ ⟨#[84]⟩ ++ A1 ++ ⟨#[58]⟩ ++ A2) (⟨#[58]⟩)).run Tryd.prog W = .ok (.string ((DA ++ ⟨#[84]⟩ ++ A1 ++ ⟨#[58]⟩ ++ A2) ++ ⟨#[58]⟩)) W := fun W => run_string_add_sum _ _ _ (by have z1 : (⟨#[84]⟩ : ByteArray).size = 1 := rfl; have z3 : (⟨#[58]⟩ : ByteArray).size = 1 := rfl; have z5 : (⟨#[58]⟩ : ByteArray).size = 1 := rfl; have z7 : (⟨#[45]⟩ : ByteArray).size = 1 := rfl; have z9 : (⟨#[58]⟩ : ByteArray).size = 1 := rfl; first | omega | (simp only [append_sz]; omega))
  have a18 : ∀ W, (Op.stringOp .add (DA ++ ⟨#[84]⟩ ++ A1 ++ ⟨#[58]⟩ ++ A2 ++ ⟨#[58]⟩) (AS)).run Tryd.prog W = .ok (.string ((DA ++ ⟨#[84]⟩ ++ A1 ++ ⟨#[58]⟩ ++ A2 ++ ⟨#[58]⟩) ++ AS)) W := fun W => run_string_add_sum _ _ _ (by have z1 : (⟨#[84]⟩ : ByteArray).size = 1 := rfl; have z3 : (⟨#[58]⟩ : ByteArray).size = 1 := rfl; have z5 : (⟨#[58]⟩ : ByteArray).size = 1 := rfl; have z7 : (⟨#[45]⟩ : ByteArray).size = 1 := rfl; have z9 : (⟨#[58]⟩ : ByteArray).size = 1 := rfl; first | omega | (simp only [append_sz]; omega))
  have a19 : ∀ W, (Op.stringOp .add (DA ++ ⟨#[84]⟩ ++ A1 ++ ⟨#[58]⟩ ++ A2 ++ ⟨#[58]⟩ ++ AS) (⟨#[45]⟩)).run Tryd.prog W = .ok (.string ((DA ++ ⟨#[84]⟩ ++ A1 ++ ⟨#[58]⟩ ++ A2 ++ ⟨#[58]⟩ ++ AS) ++ ⟨#[45]⟩)) W := fun W => run_string_add_sum _ _ _ (by have z1 : (⟨#[84]⟩ : ByteArray).size = 1 := rfl; have z3 : (⟨#[58]⟩ : ByteArray).size = 1 := rfl; have z5 : (⟨#[58]⟩ : ByteArray).size = 1 := rfl; have z7 : (⟨#[45]⟩ : ByteArray).size = 1 := rfl; have z9 : (⟨#[58]⟩ : ByteArray).size = 1 := rfl; first | omega | (simp only [append_sz]; omega))
  have a20 : ∀ W, (Op.stringOp .add (DA ++ ⟨#[84]⟩ ++ A1 ++ ⟨#[58]⟩ ++ A2 ++ ⟨#[58]⟩ ++ AS ++ ⟨#[45]⟩) (P1)).run Tryd.prog W = .ok (.string ((DA ++ ⟨#[84]⟩ ++ A1 ++ ⟨#[58]⟩ ++ A2 ++ ⟨#[58]⟩ ++ AS ++ ⟨#[45]⟩) ++ P1)) W := fun W => run_string_add_sum _ _ _ (by have z1 : (⟨#[84]⟩ : ByteArray).size = 1 := rfl; have z3 : (⟨#[58]⟩ : ByteArray).size = 1 := rfl; have z5 : (⟨#[58]⟩ : ByteArray).size = 1 := rfl; have z7 : (⟨#[45]⟩ : ByteArray).size = 1 := rfl; have z9 : (⟨#[58]⟩ : ByteArray).size = 1 := rfl; first | omega | (simp only [append_sz]; omega))
  have a21 : ∀ W, (Op.stringOp .add (DA ++ ⟨#[84]⟩ ++ A1 ++ ⟨#[58]⟩ ++ A2 ++ ⟨#[58]⟩ ++ AS ++ ⟨#[45]⟩ ++ P1) (⟨#[58]⟩)).run Tryd.prog W = .ok (.string ((DA ++ ⟨#[84]⟩ ++ A1 ++ ⟨#[58]⟩ ++ A2 ++ ⟨#[58]⟩ ++ AS ++ ⟨#[45]⟩ ++ P1) ++ ⟨#[58]⟩)) W := fun W => run_string_add_sum _ _ _ (by have z1 : (⟨#[84]⟩ : ByteArray).size = 1 := rfl; have z3 : (⟨#[58]⟩ : ByteArray).size = 1 := rfl; have z5 : (⟨#[58]⟩ : ByteArray).size = 1 := rfl; have z7 : (⟨#[45]⟩ : ByteArray).size = 1 := rfl; have z9 : (⟨#[58]⟩ : ByteArray).size = 1 := rfl; first | omega | (simp only [append_sz]; omega))
  have a22 : ∀ W, (Op.stringOp .add (DA ++ ⟨#[84]⟩ ++ A1 ++ ⟨#[58]⟩ ++ A2 ++ ⟨#[58]⟩ ++ AS ++ ⟨#[45]⟩ ++ P1 ++ ⟨#[58]⟩) (P2)).run Tryd.prog W = .ok (.string ((DA ++ ⟨#[84]⟩ ++ A1 ++ ⟨#[58]⟩ ++ A2 ++ ⟨#[58]⟩ ++ AS ++ ⟨#[45]⟩ ++ P1 ++ ⟨#[58]⟩) ++ P2)) W := fun W => run_string_add_sum _ _ _ (by have z1 : (⟨#[84]⟩ : ByteArray).size = 1 := rfl; have z3 : (⟨#[58]⟩ : ByteArray).size = 1 := rfl; have z5 : (⟨#[58]⟩ : ByteArray).size = 1 := rfl; have z7 : (⟨#[45]⟩ : ByteArray).size = 1 := rfl; have z9 : (⟨#[58]⟩ : ByteArray).size = 1 := rfl; first | omega | (simp only [append_sz]; omega))
  have HCA := Lib.hid cA
  have HCB := Lib.hid cB
  have HCE := Lib.hid cE
  have HCC := Lib.hid cC
  have HZ : Hid (DA.size = 10 ∧ TA.size = 8 ∧ A1.size = 2 ∧ A2.size = 2 ∧ AS.size = 2 ∧ P1.size = 2 ∧ P2.size = 2 ∧ PT.size ≤ 2) := ⟨zDA, zTA, zA1, zA2, zS, zP1, zP2, zPT⟩
  have hYl : Y ≤ 9998 := by omega
  have hDl2 : D ≤ 31 := by omega
  have hSl : SS < 60 := by omega
  have hql : q < 100 := by omega
  have hk1 : k1 < 24 := by omega
  have hk2 : k2 < 60 := by omega
  have hp1 : p1 < 24 := by omega
  have hp2 : p2 < 60 := by omega
  have hTl : TT < 3 := by omega
  clear cA cB cC cE zQ zY zM zD zH zN zS zDA zTA zA1 zA2 zP1 zP2 zPT hp hk
  clear hN hDD hDl hD hY hMo hYY hMM hH hNN hSS hTT hq
  go_enter Tryd.func5, Tryd.ntmps5
  go_wp2_with fail
  refine (known_any _ ht).mono ?_
  rintro r w1 ⟨rfl, hb⟩
  have B1 : Below w.heap.size w w1 := hb
  have T1 : Tab w1 := ht.next B1
  clear hb
  go_wp2_with fail
  refine (cR _).mono ?_
  rintro r w' ⟨rfl, rfl⟩
  go_wp2_with fail
  refine (cQ _).mono ?_
  rintro r w2 ⟨rfl, hb⟩
  have B2 : Below w.heap.size w w2 := B1.trans (hb.mono B1.size)
  have T2 : Tab w2 := ht.next B2
  clear hb B1 T1
  go_wp2_with fail
  refine (cY _).mono ?_
  rintro r w3 ⟨rfl, hb⟩
  have B3 : Below w.heap.size w w3 := B2.trans (hb.mono B2.size)
  have T3 : Tab w3 := ht.next B3
  clear hb B2 T2
  go_wp2_with fail
  refine (cM _).mono ?_
  rintro r w4 ⟨rfl, hb⟩
  have B4 : Below w.heap.size w w4 := B3.trans (hb.mono B3.size)
  have T4 : Tab w4 := ht.next B4
  clear hb B3 T3
  go_wp2_with fail
  refine (cD _).mono ?_
  rintro r w5 ⟨rfl, hb⟩
  have B5 : Below w.heap.size w w5 := B4.trans (hb.mono B4.size)
  have T5 : Tab w5 := ht.next B5
  clear hb B4 T4
  go_wp2_with fail
  refine (cH _).mono ?_
  rintro r w6 ⟨rfl, hb⟩
  have B6 : Below w.heap.size w w6 := B5.trans (hb.mono B5.size)
  have T6 : Tab w6 := ht.next B6
  clear hb B5 T5
  go_wp2_with fail
  refine (cN _).mono ?_
  rintro r w7 ⟨rfl, hb⟩
  have B7 : Below w.heap.size w w7 := B6.trans (hb.mono B6.size)
  have T7 : Tab w7 := ht.next B7
  clear hb B6 T6
  go_wp2_with fail
  refine (cS _).mono ?_
  rintro r w8 ⟨rfl, hb⟩
  have B8 : Below w.heap.size w w8 := B7.trans (hb.mono B7.size)
  have T8 : Tab w8 := ht.next B8
  clear hb B7 T7
  go_wp2_with fail
  go_loop [28, 29] (fun gv iv => ∃ (j : Nat) (G : ByteArray), gv = .string G ∧ iv = .int .i64 j ∧ j ≤ TT ∧ Hid (∃ g, G = bA g ∧ g ≠ [] ∧ (∀ c ∈ g, M.bB c = true) ∧ g.length = j + 1)) (fun _ iv => TT - (intOf iv).toNat)
  case atStart => exact ⟨0, ⟨#[32]⟩, rfl, rfl, Nat.zero_le _, [32], rfl, by simp, by decide, rfl⟩
  case round =>
    obtain ⟨j, G, rfl, rfl, hj, hG⟩ := hrel
    by_cases hlt : j < TT
    · have l1 : decide (j < TT) = true := decide_eq_true hlt
      have l2 : decide ((j : Int) < (TT : Int)) = true := decide_eq_true (by omega)
      have hGz : G.size = j + 1 := by obtain ⟨g, e, _, _, h⟩ := hG.out; rw [e, bA_size, h]
      have aG : ∀ W, (Op.stringOp .add G ⟨#[9]⟩).run Tryd.prog W = .ok (.string (G ++ ⟨#[9]⟩)) W := fun W => run_string_add_sum _ _ _ (by have z1 : (⟨#[9]⟩ : ByteArray).size = 1 := rfl; omega)
      clear hGz
      go_wp2
      go_round
      case rel =>
        obtain ⟨g, e, h1, h2, h3⟩ := hG.out
        exact ⟨j + 1, G ++ ⟨#[9]⟩, rfl, by go_num, by omega, g ++ [9], by rw [e]; exact bA_append g [9], by simp, by intro c hc; rcases List.mem_append.1 hc with k | k; exact h2 c k; rw [List.mem_singleton.1 k]; decide, by rw [List.length_append, h3]; rfl⟩
      case measure => simp [intOf]; omega
    · have l1 : decide (j < TT) = false := decide_eq_false hlt
      have l2 : decide ((j : Int) < (TT : Int)) = false := decide_eq_false (by omega)
      obtain ⟨g, e, h1, h2, h3⟩ := hG.out
      subst e
      have hbl : Bl g := ⟨h1, h2, by omega⟩
      have cA := HCA.out g hbl
      have cB := HCB.out g hbl
      have cE := HCE.out g hbl
      have cC := HCC.out
      have zG : (bA g).size ≤ 3 := by rw [bA_size]; omega
      obtain ⟨zDA, zTA, zA1, zA2, zS, zP1, zP2, zPT⟩ := HZ.out
      clear HCA HCB HCE HCC HZ hbl h1 h2 h3 hG
      generalize bA g = G at *
      have a23 : ∀ W, (Op.stringOp .add (DA) (G)).run Tryd.prog W = .ok (.string ((DA) ++ G)) W := fun W => run_string_add_sum _ _ _ (by  first | omega | (simp only [append_sz]; omega))
      have a24 : ∀ W, (Op.stringOp .add (DA ++ G) (TA)).run Tryd.prog W = .ok (.string ((DA ++ G) ++ TA)) W := fun W => run_string_add_sum _ _ _ (by  first | omega | (simp only [append_sz]; omega))
      have a25 : ∀ W, (Op.stringOp .add (DA) (⟨#[116]⟩)).run Tryd.prog W = .ok (.string ((DA) ++ ⟨#[116]⟩)) W := fun W => run_string_add_sum _ _ _ (by have z1 : (⟨#[116]⟩ : ByteArray).size = 1 := rfl; have z4 : (⟨#[90]⟩ : ByteArray).size = 1 := rfl; first | omega | (simp only [append_sz]; omega))
      have a26 : ∀ W, (Op.stringOp .add (DA ++ ⟨#[116]⟩) (TA)).run Tryd.prog W = .ok (.string ((DA ++ ⟨#[116]⟩) ++ TA)) W := fun W => run_string_add_sum _ _ _ (by have z1 : (⟨#[116]⟩ : ByteArray).size = 1 := rfl; have z4 : (⟨#[90]⟩ : ByteArray).size = 1 := rfl; first | omega | (simp only [append_sz]; omega))
      have a27 : ∀ W, (Op.stringOp .add (DA ++ ⟨#[116]⟩ ++ TA) (G)).run Tryd.prog W = .ok (.string ((DA ++ ⟨#[116]⟩ ++ TA) ++ G)) W := fun W => run_string_add_sum _ _ _ (by have z1 : (⟨#[116]⟩ : ByteArray).size = 1 := rfl; have z4 : (⟨#[90]⟩ : ByteArray).size = 1 := rfl; first | omega | (simp only [append_sz]; omega))
      have a28 : ∀ W, (Op.stringOp .add (DA ++ ⟨#[116]⟩ ++ TA ++ G) (⟨#[90]⟩)).run Tryd.prog W = .ok (.string ((DA ++ ⟨#[116]⟩ ++ TA ++ G) ++ ⟨#[90]⟩)) W := fun W => run_string_add_sum _ _ _ (by have z1 : (⟨#[116]⟩ : ByteArray).size = 1 := rfl; have z4 : (⟨#[90]⟩ : ByteArray).size = 1 := rfl; first | omega | (simp only [append_sz]; omega))
      have a29 : ∀ W, (Op.stringOp .add (DA) (⟨#[84]⟩)).run Tryd.prog W = .ok (.string ((DA) ++ ⟨#[84]⟩)) W := fun W => run_string_add_sum _ _ _ (by have z1 : (⟨#[84]⟩ : ByteArray).size = 1 := rfl; have z3 : (⟨#[58]⟩ : ByteArray).size = 1 := rfl; have z5 : (⟨#[58]⟩ : ByteArray).size = 1 := rfl; have z8 : (⟨#[45]⟩ : ByteArray).size = 1 := rfl; have z10 : (⟨#[58]⟩ : ByteArray).size = 1 := rfl; first | omega | (simp only [append_sz]; omega))
      have a30 : ∀ W, (Op.stringOp .add (DA ++ ⟨#[84]⟩) (A1)).run Tryd.prog W = .ok (.string ((DA ++ ⟨#[84]⟩) ++ A1)) W := fun W => run_string_add_sum _ _ _ (by have z1 : (⟨#[84]⟩ : ByteArray).size = 1 := rfl; have z3 : (⟨#[58]⟩ : ByteArray).size = 1 := rfl; have z5 : (⟨#[58]⟩ : ByteArray).size = 1 := rfl; have z8 : (⟨#[45]⟩ : ByteArray).size = 1 := rfl; have z10 : (⟨#[58]⟩ : ByteArray).size = 1 := rfl; first | omega | (simp only [append_sz]; omega))
      have a31 : ∀ W, (Op.stringOp .add (DA ++ ⟨#[84]⟩ ++ A1) (⟨#[58]⟩)).run Tryd.prog W = .ok (.string ((DA ++ ⟨#[84]⟩ ++ A1) ++ ⟨#[58]⟩)) W := fun W => run_string_add_sum _ _ _ (by have z1 : (⟨#[84]⟩ : ByteArray).size = 1 := rfl; have z3 : (⟨#[58]⟩ : ByteArray).size = 1 := rfl; have z5 : (⟨#[58]⟩ : ByteArray).size = 1 := rfl; have z8 : (⟨#[45]⟩ : ByteArray).size = 1 := rfl; have z10 : (⟨#[58]⟩ : ByteArray).size = 1 := rfl; first | omega | (simp only [append_sz]; omega))
      have a32 : ∀ W, (Op.stringOp .add (DA ++ ⟨#[84]⟩ ++ A1 ++ ⟨#[58]⟩) (A2)).run Tryd.prog W = .ok (.string ((DA ++ ⟨#[84]⟩ ++ A1 ++ ⟨#[58]⟩) ++ A2)) W := fun W => run_string_add_sum _ _ _ (by have z1 : (⟨#[84]⟩ : ByteArray).size = 1 := rfl; have z3 : (⟨#[58]⟩ : ByteArray).size = 1 := rfl; have z5 : (⟨#[58]⟩ : ByteArray).size = 1 := rfl; have z8 : (⟨#[45]⟩ : ByteArray).size = 1 := rfl; have z10 : (⟨#[58]⟩ : ByteArray).size = 1 := rfl; first | omega | (simp only [append_sz]; omega))
      have a33 : ∀ W, (Op.stringOp .add (DA ++ ⟨#[84]⟩ ++ A1 ++ ⟨#[58]⟩ ++ A2) (⟨#[58]⟩)).run Tryd.prog W = .ok (.string ((DA ++ ⟨#[84]⟩ ++ A1 ++ ⟨#[58]⟩ ++ A2) ++ ⟨#[58]⟩)) W := fun W => run_string_add_sum _ _ _ (by have z1 : (⟨#[84]⟩ : ByteArray).size = 1 := rfl; have z3 : (⟨#[58]⟩ : ByteArray).size = 1 := rfl; have z5 : (⟨#[58]⟩ : ByteArray).size = 1 := rfl; have z8 : (⟨#[45]⟩ : ByteArray).size = 1 := rfl; have z10 : (⟨#[58]⟩ : ByteArray).size = 1 := rfl; first | omega | (simp only [append_sz]; omega))
      have a34 : ∀ W, (Op.stringOp .add (DA ++ ⟨#[84]⟩ ++ A1 ++ ⟨#[58]⟩ ++ A2 ++ ⟨#[58]⟩) (AS)).run Tryd.prog W = .ok (.string ((DA ++ ⟨#[84]⟩ ++ A1 ++ ⟨#[58]⟩ ++ A2 ++ ⟨#[58]⟩) ++ AS)) W := fun W => run_string_add_sum _ _ _ (by have z1 : (⟨#[84]⟩ : ByteArray).size = 1 := rfl; have z3 : (⟨#[58]⟩ : ByteArray).size = 1 := rfl; have z5 : (⟨#[58]⟩ : ByteArray).size = 1 := rfl; have z8 : (⟨#[45]⟩ : ByteArray).size = 1 := rfl; have z10 : (⟨#[58]⟩ : ByteArray).size = 1 := rfl; first | omega | (simp only [append_sz]; omega))
      have a35 : ∀ W, (Op.stringOp .add (DA ++ ⟨#[84]⟩ ++ A1 ++ ⟨#[58]⟩ ++ A2 ++ ⟨#[58]⟩ ++ AS) (G)).run Tryd.prog W = .ok (.string ((DA ++ ⟨#[84]⟩ ++ A1 ++ ⟨#[58]⟩ ++ A2 ++ ⟨#[58]⟩ ++ AS) ++ G)) W := fun W => run_string_add_sum _ _ _ (by have z1 : (⟨#[84]⟩ : ByteArray).size = 1 := rfl; have z3 : (⟨#[58]⟩ : ByteArray).size = 1 := rfl; have z5 : (⟨#[58]⟩ : ByteArray).size = 1 := rfl; have z8 : (⟨#[45]⟩ : ByteArray).size = 1 := rfl; have z10 : (⟨#[58]⟩ : ByteArray).size = 1 := rfl; first | omega | (simp only [append_sz]; omega))
      have a36 : ∀ W, (Op.stringOp .add (DA ++ ⟨#[84]⟩ ++ A1 ++ ⟨#[58]⟩ ++ A2 ++ ⟨#[58]⟩ ++ AS ++ G) (⟨#[45]⟩)).run Tryd.prog W = .ok (.string ((DA ++ ⟨#[84]⟩ ++ A1 ++ ⟨#[58]⟩ ++ A2 ++ ⟨#[58]⟩ ++ AS ++ G) ++ ⟨#[45]⟩)) W := fun W => run_string_add_sum _ _ _ (by have z1 : (⟨#[84]⟩ : ByteArray).size = 1 := rfl; have z3 : (⟨#[58]⟩ : ByteArray).size = 1 := rfl; have z5 : (⟨#[58]⟩ : ByteArray).size = 1 := rfl; have z8 : (⟨#[45]⟩ : ByteArray).size = 1 := rfl; have z10 : (⟨#[58]⟩ : ByteArray).size = 1 := rfl; first | omega | (simp only [append_sz]; omega))
      have a37 : ∀ W, (Op.stringOp .add (DA ++ ⟨#[84]⟩ ++ A1 ++ ⟨#[58]⟩ ++ A2 ++ ⟨#[58]⟩ ++ AS ++ G ++ ⟨#[45]⟩) (PT)).run Tryd.prog W = .ok (.string ((DA ++ ⟨#[84]⟩ ++ A1 ++ ⟨#[58]⟩ ++ A2 ++ ⟨#[58]⟩ ++ AS ++ G ++ ⟨#[45]⟩) ++ PT)) W := fun W => run_string_add_sum _ _ _ (by have z1 : (⟨#[84]⟩ : ByteArray).size = 1 := rfl; have z3 : (⟨#[58]⟩ : ByteArray).size = 1 := rfl; have z5 : (⟨#[58]⟩ : ByteArray).size = 1 := rfl; have z8 : (⟨#[45]⟩ : ByteArray).size = 1 := rfl; have z10 : (⟨#[58]⟩ : ByteArray).size = 1 := rfl; first | omega | (simp only [append_sz]; omega))
      have a38 : ∀ W, (Op.stringOp .add (DA ++ ⟨#[84]⟩ ++ A1 ++ ⟨#[58]⟩ ++ A2 ++ ⟨#[58]⟩ ++ AS ++ G ++ ⟨#[45]⟩ ++ PT) (⟨#[58]⟩)).run Tryd.prog W = .ok (.string ((DA ++ ⟨#[84]⟩ ++ A1 ++ ⟨#[58]⟩ ++ A2 ++ ⟨#[58]⟩ ++ AS ++ G ++ ⟨#[45]⟩ ++ PT) ++ ⟨#[58]⟩)) W := fun W => run_string_add_sum _ _ _ (by have z1 : (⟨#[84]⟩ : ByteArray).size = 1 := rfl; have z3 : (⟨#[58]⟩ : ByteArray).size = 1 := rfl; have z5 : (⟨#[58]⟩ : ByteArray).size = 1 := rfl; have z8 : (⟨#[45]⟩ : ByteArray).size = 1 := rfl; have z10 : (⟨#[58]⟩ : ByteArray).size = 1 := rfl; first | omega | (simp only [append_sz]; omega))
      have a39 : ∀ W, (Op.stringOp .add (DA ++ ⟨#[84]⟩ ++ A1 ++ ⟨#[58]⟩ ++ A2 ++ ⟨#[58]⟩ ++ AS ++ G ++ ⟨#[45]⟩ ++ PT ++ ⟨#[58]⟩) (P2)).run Tryd.prog W = .ok (.string ((DA ++ ⟨#[84]⟩ ++ A1 ++ ⟨#[58]⟩ ++ A2 ++ ⟨#[58]⟩ ++ AS ++ G ++ ⟨#[45]⟩ ++ PT ++ ⟨#[58]⟩) ++ P2)) W := fun W => run_string_add_sum _ _ _ (by have z1 : (⟨#[84]⟩ : ByteArray).size = 1 := rfl; have z3 : (⟨#[58]⟩ : ByteArray).size = 1 := rfl; have z5 : (⟨#[58]⟩ : ByteArray).size = 1 := rfl; have z8 : (⟨#[45]⟩ : ByteArray).size = 1 := rfl; have z10 : (⟨#[58]⟩ : ByteArray).size = 1 := rfl; first | omega | (simp only [append_sz]; omega))
      clear zDA zTA zA1 zA2 zS zP1 zP2 zPT zG
      go_wp2_with fail
      with_reducible refine (cA _ T8).mono ?_
      rintro r w9 ⟨rfl, hb⟩
      have B9 : Below w.heap.size w w9 := B8.trans (hb.mono B8.size)
      have T9 : Tab w9 := ht.next B9
      clear hb B8 T8
      go_wp2_with fail
      with_reducible refine (cB _ T9).mono ?_
      rintro r w10 ⟨rfl, hb⟩
      have B10 : Below w.heap.size w w10 := B9.trans (hb.mono B9.size)
      have T10 : Tab w10 := ht.next B10
      clear hb B9 T9
      go_wp2_with fail
      refine (ck1 _).mono ?_
      rintro r w11 ⟨rfl, hb⟩
      have B11 : Below w.heap.size w w11 := B10.trans (hb.mono B10.size)
      have T11 : Tab w11 := ht.next B11
      clear hb B10 T10
      go_wp2_with fail
      refine (ck2 _).mono ?_
      rintro r w12 ⟨rfl, hb⟩
      have B12 : Below w.heap.size w w12 := B11.trans (hb.mono B11.size)
      have T12 : Tab w12 := ht.next B12
      clear hb B11 T11
      go_wp2_with fail
      refine (cS _).mono ?_
      rintro r w13 ⟨rfl, hb⟩
      have B13 : Below w.heap.size w w13 := B12.trans (hb.mono B12.size)
      have T13 : Tab w13 := ht.next B13
      clear hb B12 T12
      go_wp2_with fail
      refine (cp1 _).mono ?_
      rintro r w14 ⟨rfl, hb⟩
      have B14 : Below w.heap.size w w14 := B13.trans (hb.mono B13.size)
      have T14 : Tab w14 := ht.next B14
      clear hb B13 T13
      go_wp2_with fail
      refine (cp2 _).mono ?_
      rintro r w15 ⟨rfl, hb⟩
      have B15 : Below w.heap.size w w15 := B14.trans (hb.mono B14.size)
      have T15 : Tab w15 := ht.next B15
      clear hb B14 T14
      go_wp2_with fail
      with_reducible refine (cC _ T15).mono ?_
      rintro r w16 ⟨rfl, hb⟩
      have B16 : Below w.heap.size w w16 := B15.trans (hb.mono B15.size)
      have T16 : Tab w16 := ht.next B16
      clear hb B15 T15
      go_wp2_with fail
      refine (ck1 _).mono ?_
      rintro r w17 ⟨rfl, hb⟩
      have B17 : Below w.heap.size w w17 := B16.trans (hb.mono B16.size)
      have T17 : Tab w17 := ht.next B17
      clear hb B16 T16
      go_wp2_with fail
      refine (ck2 _).mono ?_
      rintro r w18 ⟨rfl, hb⟩
      have B18 : Below w.heap.size w w18 := B17.trans (hb.mono B17.size)
      have T18 : Tab w18 := ht.next B18
      clear hb B17 T17
      go_wp2_with fail
      refine (cS _).mono ?_
      rintro r w19 ⟨rfl, hb⟩
      have B19 : Below w.heap.size w w19 := B18.trans (hb.mono B18.size)
      have T19 : Tab w19 := ht.next B19
      clear hb B18 T18
      go_wp2_with fail
      refine (cT _).mono ?_
      rintro r w20 ⟨rfl, hb⟩
      have B20 : Below w.heap.size w w20 := B19.trans (hb.mono B19.size)
      have T20 : Tab w20 := ht.next B20
      clear hb B19 T19
      go_wp2_with fail
      refine (cp2 _).mono ?_
      rintro r w21 ⟨rfl, hb⟩
      have B21 : Below w.heap.size w w21 := B20.trans (hb.mono B20.size)
      have T21 : Tab w21 := ht.next B21
      clear hb B20 T20
      go_wp2_with fail
      with_reducible refine (cE _ T21).mono ?_
      rintro r w22 ⟨rfl, hb⟩
      have B22 : Below w.heap.size w w22 := B21.trans (hb.mono B21.size)
      have T22 : Tab w22 := ht.next B22
      clear hb B21 T21
      go_wp2
      go_ret
      exact ⟨rfl, B22⟩
theorem zones_any (y m d h n s : Nat) (zone : Int) (t : Nat) (w : World) (ht : Env w) (hy : y ≤ 65535) (hm : m ≤ 255) (hd : d ≤ 255) (hh : h ≤ 255) (hn : n ≤ 255) (hs : s ≤ 255) (hz : -32768 ≤ zone ∧ zone ≤ 32767) (htt : t ≤ 255) :
    Calls Tryd.prog 5 #[.int .u16 y, .int .u8 m, .int .u8 d, .int .u8 h, .int .u8 n, .int .u8 s, .int .i16 zone, .int .u8 t] w fun e w' => e = .returned (.bool true) ∧ Below w.heap.size w w' := by
  have hb1 := Int.tmod_lt_of_pos zone (show (0 : Int) < 1440 by omega)
  have hb2 := Int.lt_tmod_of_pos zone (show (0 : Int) < 1440 by omega)
  by_cases ho : 60 * ((h % 24 : Nat) : Int) + ((n % 60 : Nat) : Int) + Int.tmod zone 1440 < 0 ∨ 1440 ≤ 60 * ((h % 24 : Nat) : Int) + ((n % 60 : Nat) : Int) + Int.tmod zone 1440
  · exact zones_out y m d h n s zone t w ht hy hm hd hh hn hs hz htt ho
  · obtain ⟨K, hK⟩ := Int.eq_ofNat_of_zero_le (show 0 ≤ 60 * ((h % 24 : Nat) : Int) + ((n % 60 : Nat) : Int) + Int.tmod zone 1440 by omega)
    by_cases hz0 : Int.tmod zone 1440 < 0
    · obtain ⟨P, hP⟩ := Int.eq_ofNat_of_zero_le (show 0 ≤ -Int.tmod zone 1440 by omega)
      exact zones_core1 y m d h n s zone t w ht hy hm hd hh hn hs hz htt K P (by omega) (by omega) hK (by omega) (by omega)
    · obtain ⟨P, hP⟩ := Int.eq_ofNat_of_zero_le (show 0 ≤ Int.tmod zone 1440 by omega)
      exact zones_core0 y m d h n s zone t w ht hy hm hd hh hn hs hz htt K P (by omega) (by omega) hK hP
end Go.Proofs.YtoidlgopibnaaaaDoor
