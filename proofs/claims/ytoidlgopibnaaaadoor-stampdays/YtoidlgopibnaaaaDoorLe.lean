/- The law StampDays: its walk. -/
import Derived.Test.YtoidlgopibnaaaaDoorLd
import Derived.Deep.RegionHeld3
set_option linter.unusedVariables false
namespace Go.Proofs.YtoidlgopibnaaaaDoor
open Go.RowKit

theorem Off (B : ByteArray) (l a : List UInt8) (hl : B.data.toList = l) (ha : M.ofS l = some a) (hs : l.length ≤ 1000) : Ofs B (bA a) := fun W hT => ofB B l a hl ha hs W hT
theorem nxt_len (y m l : Nat) : (M.nxt y m l).length = 20 := by simp [M.nxt, M.DT_len, M.AT_len]
theorem lst_len (y m l : Nat) : (M.lst y m l).length = 20 := by simp [M.lst, M.DT_len, M.AT_len]
theorem d2_00 : M.d2 0 = [48, 48] := rfl
theorem liftB {W0 w : World} {f : Nat} {args : Array Value} {e0 : Ending} (h : Calls Tryd.prog f args w fun e w' => e = e0 ∧ Below w.heap.size w w') (hb : Below W0.heap.size W0 w) : Calls Tryd.prog f args w fun e w' => e = e0 ∧ Below W0.heap.size W0 w' :=
  h.mono fun e w' hh => ⟨hh.1, hb.trans (hh.2.mono hb.size)⟩
set_option maxRecDepth 1000000 in
set_option maxHeartbeats 1000000 in
theorem days_core0 (y m t : Nat) (w : World) (ht : Tab w) (hy : y ≤ 65535) (hm : m ≤ 255) (htt : t ≤ 255) (hlg : M.lng (y % 9999) = false) :
    Calls Tryd.prog 6 #[.int .u16 y, .int .u8 m, .int .u8 t] w fun e w' => e = .returned (.bool true) ∧ Below w.heap.size w w' := by
  obtain ⟨Y, hY⟩ : ∃ x, y % 9999 = x := ⟨_, rfl⟩
  have y1 : Int.tmod (y : Int) 9999 = (Y : Int) := (md hY (by omega)).1
  have y2 : (y : Int) % 9999 = (Y : Int) := (md hY (by omega)).2
  obtain ⟨MM, hMM⟩ : ∃ x, m % 12 = x := ⟨_, rfl⟩
  have m1 : Int.tmod (m : Int) 12 = (MM : Int) := (md hMM (by omega)).1
  have m2 : (m : Int) % 12 = (MM : Int) := (md hMM (by omega)).2
  obtain ⟨TT, hTT⟩ : ∃ x, t % 59 = x := ⟨_, rfl⟩
  have t1 : Int.tmod (t : Int) 59 = (TT : Int) := (md hTT (by omega)).1
  have t2 : (t : Int) % 59 = (TT : Int) := (md hTT (by omega)).2
  rw [hY] at hlg
  obtain ⟨Mo, hMo⟩ : ∃ x, 1 + MM = x := ⟨_, rfl⟩
  have m3 : (1 : Int) + (MM : Int) = (Mo : Int) := by omega
  obtain ⟨La, hLa⟩ : ∃ x, 1 + TT = x := ⟨_, rfl⟩
  have t3 : (1 : Int) + (TT : Int) = (La : Int) := by omega
  obtain ⟨e, he⟩ : ∃ x, Mo / 12 = x := ⟨_, rfl⟩
  have e1 : (Mo : Int) / 12 = (e : Int) := by rw [← he]; rfl
  obtain ⟨f, hf⟩ : ∃ x, Mo % 12 = x := ⟨_, rfl⟩
  have f1 : (Mo : Int) % 12 = (f : Int) := by rw [← hf]; rfl
  obtain ⟨q, hq⟩ : ∃ x, Y / 100 = x := ⟨_, rfl⟩
  have q1 : (Y : Int) / 100 = (q : Int) := by rw [← hq]; rfl
  obtain ⟨Y2, hY2⟩ : ∃ x, Y + e = x := ⟨_, rfl⟩
  have y3 : (Y : Int) + (e : Int) = (Y2 : Int) := by omega
  obtain ⟨M2, hM2⟩ : ∃ x, f + 1 = x := ⟨_, rfl⟩
  have m4 : (f : Int) + 1 = (M2 : Int) := by omega
  obtain ⟨q2, hq2⟩ : ∃ x, Y2 / 100 = x := ⟨_, rfl⟩
  have q3 : (Y2 : Int) / 100 = (q2 : Int) := by rw [← hq2]; rfl
  obtain ⟨L1, hL1⟩ : ∃ x, La - 1 = x := ⟨_, rfl⟩
  have l1 : (La : Int) - 1 = (L1 : Int) := by omega
  obtain ⟨L6, hL6⟩ : ∃ x, 60 - La = x := ⟨_, rfl⟩
  have l6 : (60 : Int) - (La : Int) = (L6 : Int) := by omega
  have hdp := M.days_pos (y := Y) (m := Mo) (by omega) (by omega)
  have hdl := M.days_le Y Mo
  have o1 := M.of_late Y Mo La (by omega) (by omega) (by omega) (by omega) (by omega)
  have o2 := M.of_nxt Y Mo La (by omega) (by omega) (by omega) (by omega) (by omega)
  have o3 := M.of_early Y Mo La (by omega) (by omega) (by omega) (by omega) (by omega)
  have cN := fun W => days_nat Y Mo W (by omega)
  have cI := fun (j : Nat) W => days_nat Y j W (by omega)
  have cJ := fun (j : Nat) W => days_nat (Y + 400) j W (by omega)
  have h2 : M.days Y 2 = 28 := by rw [M.days_feb, hlg]; rfl
  have hall : M.cum Y 13 = 365 := by rw [M.cum_all, h2]
  have c2 : ∀ W, Calls Tryd.prog 13 #[.int .i64 Y, .int .i64 2] W fun e w' => e = .returned (.int .i64 28) ∧ W = w' := fun W => by have := days_nat Y 2 W (by omega); rw [h2] at this; exact this
  have c0 : ∀ W, Calls Tryd.prog 13 #[.int .i64 Y, .int .i64 0] W fun e w' => e = .returned (.int .i64 0) ∧ W = w' := fun W => by have := days_nat Y 0 W (by omega); rw [M.days_zero (Or.inl rfl)] at this; exact this
  have cm : ∀ W, Calls Tryd.prog 13 #[.int .i64 (-1), .int .i64 1] W fun e w' => e = .returned (.int .i64 0) ∧ W = w' := fun W => days_any (-1) 1 W (by omega)
  have hO1 : Ofs (bA (M.DT Y Mo (M.days Y Mo)) ++ ⟨#[32, 50, 51, 58, 53, 57, 58, 48, 48, 32, 45, 48, 58]⟩ ++ bA (M.d2 La)) (bA (M.nxt Y Mo La)) := Off _ _ _ (by simp [bA_toList]; rfl) o1 (by simp [M.DT_len, M.AT_len, M.len_d2])
  have hO2 : Ofs (bA (M.nxt Y Mo La)) (bA (M.nxt Y Mo La)) := Off _ _ _ (bA_toList _) o2 (by rw [nxt_len]; omega)
  have hO3 : Ofs (bA (M.DT (Y + Mo / 12) (Mo % 12 + 1) 1) ++ ⟨#[84, 48, 48, 58, 48, 48, 58, 48, 48, 43, 48, 48, 58]⟩ ++ bA (M.d2 La)) (bA (M.lst Y Mo La)) := Off _ _ _ (by simp [bA_toList]; rfl) o3 (by simp [M.DT_len, M.AT_len, M.len_d2])
  have hs1 : bA (M.d2 q) ++ bA (e2 Y) ++ ⟨#[45]⟩ ++ bA (M.d2 Mo) ++ ⟨#[45]⟩ ++ bA (M.d2 (M.days Y Mo)) = bA (M.DT Y Mo (M.days Y Mo)) := by
    apply eq_bA
    unfold M.DT
    rw [← e2_year Y (by omega), hq, e2_small (n := q) (by omega)]
    simp [bA_toList]
  have hs2 : bA (M.d2 q2) ++ bA (e2 Y2) ++ ⟨#[45]⟩ ++ bA (M.d2 M2) ++ ⟨#[45, 48, 49, 84, 48, 48, 58]⟩ ++ bA (M.d2 L1) ++ ⟨#[58, 48, 48, 90]⟩ = bA (M.nxt Y Mo La) := by
    apply eq_bA
    unfold M.nxt M.DT M.AT
    rw [he, hf, hY2, hM2, hL1, ← e2_year Y2 (by omega), hq2, e2_small (n := q2) (by omega)]
    simp [bA_toList]
    rfl
  have hs3 : bA (M.DT Y Mo (M.days Y Mo)) ++ ⟨#[84, 50, 51, 58]⟩ ++ bA (M.d2 L6) ++ ⟨#[58, 48, 48, 90]⟩ = bA (M.lst Y Mo La) := by
    apply eq_bA
    unfold M.lst M.AT
    rw [hL6]
    simp [bA_toList]
    rfl
  have hs4 : (bA (M.nxt Y Mo La)).extract 0 10 = bA (M.DT (Y + Mo / 12) (Mo % 12 + 1) 1) := by apply eq_bA; rw [extract_take, bA_toList]; rfl
  have zN : (bA (M.nxt Y Mo La)).size = 20 := by rw [bA_size, nxt_len]
  have zR : (bA (M.lst Y Mo La)).size = 20 := by rw [bA_size, lst_len]
  have zA : (bA (M.DT Y Mo (M.days Y Mo))).size = 10 := by rw [bA_size, M.DT_len]
  have zU : (bA (M.DT (Y + Mo / 12) (Mo % 12 + 1) 1)).size = 10 := by rw [bA_size, M.DT_len]
  have hcum := M.cum_le Y
  have hcs := M.cum_succ Y
  have h400 := M.days_400 Y
  obtain ⟨N, hN⟩ : ∃ x, M.days Y Mo = x := ⟨_, rfl⟩
  rw [hN] at hdp hdl cN hs1 hs3 hO1 zA
  have cq := fun W => two2_any q W (by omega)
  have cM := fun W => two2_any Mo W (by omega)
  have cD := fun W => two2_any N W (by omega)
  have cq2 := fun W => two2_any q2 W (by omega)
  have cM2 := fun W => two2_any M2 W (by omega)
  have cL1 := fun W => two2_any L1 W (by omega)
  have cLa := fun W => two2_any La W (by omega)
  have cL6 := fun W => two2_any L6 W (by omega)
  have cY := fun W => two_any Y W (by omega)
  have cY2 := fun W => two_any Y2 W (by omega)
  obtain ⟨AQ, eAQ⟩ : ∃ x, bA (M.d2 q) = x := ⟨_, rfl⟩
  have zAQ : AQ.size = 2 := by rw [← eAQ]; exact d2_size _
  rw [eAQ] at cq
  obtain ⟨AY, eAY⟩ : ∃ x, bA (e2 Y) = x := ⟨_, rfl⟩
  have zAY : AY.size = 2 := by rw [← eAY]; exact e2_size _
  rw [eAY] at cY
  obtain ⟨AM, eAM⟩ : ∃ x, bA (M.d2 Mo) = x := ⟨_, rfl⟩
  have zAM : AM.size = 2 := by rw [← eAM]; exact d2_size _
  rw [eAM] at cM
  obtain ⟨AN, eAN⟩ : ∃ x, bA (M.d2 N) = x := ⟨_, rfl⟩
  have zAN : AN.size = 2 := by rw [← eAN]; exact d2_size _
  rw [eAN] at cD
  obtain ⟨BQ, eBQ⟩ : ∃ x, bA (M.d2 q2) = x := ⟨_, rfl⟩
  have zBQ : BQ.size = 2 := by rw [← eBQ]; exact d2_size _
  rw [eBQ] at cq2
  obtain ⟨BY, eBY⟩ : ∃ x, bA (e2 Y2) = x := ⟨_, rfl⟩
  have zBY : BY.size = 2 := by rw [← eBY]; exact e2_size _
  rw [eBY] at cY2
  obtain ⟨BM, eBM⟩ : ∃ x, bA (M.d2 M2) = x := ⟨_, rfl⟩
  have zBM : BM.size = 2 := by rw [← eBM]; exact d2_size _
  rw [eBM] at cM2
  obtain ⟨BL, eBL⟩ : ∃ x, bA (M.d2 L1) = x := ⟨_, rfl⟩
  have zBL : BL.size = 2 := by rw [← eBL]; exact d2_size _
  rw [eBL] at cL1
  obtain ⟨AL, eAL⟩ : ∃ x, bA (M.d2 La) = x := ⟨_, rfl⟩
  have zAL : AL.size = 2 := by rw [← eAL]; exact d2_size _
  rw [eAL] at cLa
  obtain ⟨A6, eA6⟩ : ∃ x, bA (M.d2 L6) = x := ⟨_, rfl⟩
  have zA6 : A6.size = 2 := by rw [← eA6]; exact d2_size _
  rw [eA6] at cL6
  rw [eAQ, eAY, eAM, eAN] at hs1
  rw [eBQ, eBY, eBM, eBL] at hs2
  rw [eA6] at hs3
  rw [eAL] at hO1 hO3
  obtain ⟨DA, eDA⟩ : ∃ x, bA (M.DT Y Mo N) = x := ⟨_, rfl⟩
  obtain ⟨NX, eNX⟩ : ∃ x, bA (M.nxt Y Mo La) = x := ⟨_, rfl⟩
  obtain ⟨RX, eRX⟩ : ∃ x, bA (M.lst Y Mo La) = x := ⟨_, rfl⟩
  obtain ⟨U, eU⟩ : ∃ x, bA (M.DT (Y + Mo / 12) (Mo % 12 + 1) 1) = x := ⟨_, rfl⟩
  rw [eDA] at hs1 hs3 hO1 zA
  rw [eNX] at hs2 hs4 hO1 hO2 zN
  rw [eRX] at hs3 hO3 zR
  rw [eU] at hs4 hO3 zU
  clear eAQ eAY eAM eAN eBQ eBY eBM eBL eAL eA6 eDA eNX eRX eU o1 o2 o3
  have a1 : ∀ W, (Op.stringOp .add (AQ) (AY)).run Tryd.prog W = .ok (.string ((AQ) ++ AY)) W := fun W => run_string_add_sum _ _ _ (by have z2 : (⟨#[45]⟩ : ByteArray).size = 1 := rfl; have z4 : (⟨#[45]⟩ : ByteArray).size = 1 := rfl; first | omega | (simp only [append_sz]; omega))
  have a2 : ∀ W, (Op.stringOp .add (AQ ++ AY) (⟨#[45]⟩)).run Tryd.prog W = .ok (.string ((AQ ++ AY) ++ ⟨#[45]⟩)) W := fun W => run_string_add_sum _ _ _ (by have z2 : (⟨#[45]⟩ : ByteArray).size = 1 := rfl; have z4 : (⟨#[45]⟩ : ByteArray).size = 1 := rfl; first | omega | (simp only [append_sz]; omega))
  have a3 : ∀ W, (Op.stringOp .add (AQ ++ AY ++ ⟨#[45]⟩) (AM)).run Tryd.prog W = .ok (.string ((AQ ++ AY ++ ⟨#[45]⟩) ++ AM)) W := fun W => run_string_add_sum _ _ _ (by have z2 : (⟨#[45]⟩ : ByteArray).size = 1 := rfl; have z4 : (⟨#[45]⟩ : ByteArray).size = 1 := rfl; first | omega | (simp only [append_sz]; omega))
  have a4 : ∀ W, (Op.stringOp .add (AQ ++ AY ++ ⟨#[45]⟩ ++ AM) (⟨#[45]⟩)).run Tryd.prog W = .ok (.string ((AQ ++ AY ++ ⟨#[45]⟩ ++ AM) ++ ⟨#[45]⟩)) W := fun W => run_string_add_sum _ _ _ (by have z2 : (⟨#[45]⟩ : ByteArray).size = 1 := rfl; have z4 : (⟨#[45]⟩ : ByteArray).size = 1 := rfl; first | omega | (simp only [append_sz]; omega))
  have a5 : ∀ W, (Op.stringOp .add (AQ ++ AY ++ ⟨#[45]⟩ ++ AM ++ ⟨#[45]⟩) (AN)).run Tryd.prog W = .ok (.string ((AQ ++ AY ++ ⟨#[45]⟩ ++ AM ++ ⟨#[45]⟩) ++ AN)) W := fun W => run_string_add_sum _ _ _ (by have z2 : (⟨#[45]⟩ : ByteArray).size = 1 := rfl; have z4 : (⟨#[45]⟩ : ByteArray).size = 1 := rfl; first | omega | (simp only [append_sz]; omega))
  have a6 : ∀ W, (Op.stringOp .add (BQ) (BY)).run Tryd.prog W = .ok (.string ((BQ) ++ BY)) W := fun W => run_string_add_sum _ _ _ (by have z2 : (⟨#[45]⟩ : ByteArray).size = 1 := rfl; have z4 : (⟨#[45, 48, 49, 84, 48, 48, 58]⟩ : ByteArray).size = 7 := rfl; have z6 : (⟨#[58, 48, 48, 90]⟩ : ByteArray).size = 4 := rfl; first | omega | (simp only [append_sz]; omega))
  have a7 : ∀ W, (Op.stringOp .add (BQ ++ BY) (⟨#[45]⟩)).run Tryd.prog W = .ok (.string ((BQ ++ BY) ++ ⟨#[45]⟩)) W := fun W => run_string_add_sum _ _ _ (by have z2 : (⟨#[45]⟩ : ByteArray).size = 1 := rfl; have z4 : (⟨#[45, 48, 49, 84, 48, 48, 58]⟩ : ByteArray).size = 7 := rfl; have z6 : (⟨#[58, 48, 48, 90]⟩ : ByteArray).size = 4 := rfl; first | omega | (simp only [append_sz]; omega))
  have a8 : ∀ W, (Op.stringOp .add (BQ ++ BY ++ ⟨#[45]⟩) (BM)).run Tryd.prog W = .ok (.string ((BQ ++ BY ++ ⟨#[45]⟩) ++ BM)) W := fun W => run_string_add_sum _ _ _ (by have z2 : (⟨#[45]⟩ : ByteArray).size = 1 := rfl; have z4 : (⟨#[45, 48, 49, 84, 48, 48, 58]⟩ : ByteArray).size = 7 := rfl; have z6 : (⟨#[58, 48, 48, 90]⟩ : ByteArray).size = 4 := rfl; first | omega | (simp only [append_sz]; omega))
  have a9 : ∀ W, (Op.stringOp .add (BQ ++ BY ++ ⟨#[45]⟩ ++ BM) (⟨#[45, 48, 49, 84, 48, 48, 58]⟩)).run Tryd.prog W = .ok (.string ((BQ ++ BY ++ ⟨#[45]⟩ ++ BM) ++ ⟨#[45, 48, 49, 84, 48, 48, 58]⟩)) W := fun W => run_string_add_sum _ _ _ (by have z2 : (⟨#[45]⟩ : ByteArray).size = 1 := rfl; have z4 : (⟨#[45, 48, 49, 84, 48, 48, 58]⟩ : ByteArray).size = 7 := rfl; have z6 : (⟨#[58, 48, 48, 90]⟩ : ByteArray).size = 4 := rfl; first | omega | (simp only [append_sz]; omega))
  have a10 : ∀ W, (Op.stringOp .add (BQ ++ BY ++ ⟨#[45]⟩ ++ BM ++ ⟨#[45, 48, 49, 84, 48, 48, 58]⟩) (BL)).run Tryd.prog W = .ok (.string ((BQ ++ BY ++ ⟨#[45]⟩ ++ BM ++ ⟨#[45, 48, 49, 84, 48, 48, 58]⟩) ++ BL)) W := fun W => run_string_add_sum _ _ _ (by have z2 : (⟨#[45]⟩ : ByteArray).size = 1 := rfl; have z4 : (⟨#[45, 48, 49, 84, 48, 48, 58]⟩ : ByteArray).size = 7 := rfl; have z6 : (⟨#[58, 48, 48, 90]⟩ : ByteArray).size = 4 := rfl; first | omega | (simp only [append_sz]; omega))
  have a11 : ∀ W, (Op.stringOp .add (BQ ++ BY ++ ⟨#[45]⟩ ++ BM ++ ⟨#[45, 48, 49, 84, 48, 48, 58]⟩ ++ BL) (⟨#[58, 48, 48, 90]⟩)).run Tryd.prog W = .ok (.string ((BQ ++ BY ++ ⟨#[45]⟩ ++ BM ++ ⟨#[45, 48, 49, 84, 48, 48, 58]⟩ ++ BL) ++ ⟨#[58, 48, 48, 90]⟩)) W := fun W => run_string_add_sum _ _ _ (by have z2 : (⟨#[45]⟩ : ByteArray).size = 1 := rfl; have z4 : (⟨#[45, 48, 49, 84, 48, 48, 58]⟩ : ByteArray).size = 7 := rfl; have z6 : (⟨#[58, 48, 48, 90]⟩ : ByteArray).size = 4 := rfl; first | omega | (simp only [append_sz]; omega))
  have a12 : ∀ W, (Op.stringOp .add (DA) (⟨#[32, 50, 51, 58, 53, 57, 58, 48, 48, 32, 45, 48, 58]⟩)).run Tryd.prog W = .ok (.string ((DA) ++ ⟨#[32, 50, 51, 58, 53, 57, 58, 48, 48, 32, 45, 48, 58]⟩)) W := fun W => run_string_add_sum _ _ _ (by have z1 : (⟨#[32, 50, 51, 58, 53, 57, 58, 48, 48, 32, 45, 48, 58]⟩ : ByteArray).size = 13 := rfl; first | omega | (simp only [append_sz]; omega))
  have a13 : ∀ W, (Op.stringOp .add (DA ++ ⟨#[32, 50, 51, 58, 53, 57, 58, 48, 48, 32, 45, 48, 58]⟩) (AL)).run Tryd.prog W = .ok (.string ((DA ++ ⟨#[32, 50, 51, 58, 53, 57, 58, 48, 48, 32, 45, 48, 58]⟩) ++ AL)) W := fun W => run_string_add_sum _ _ _ (by have z1 : (⟨#[32, 50, 51, 58, 53, 57, 58, 48, 48, 32, 45, 48, 58]⟩ : ByteArray).size = 13 := rfl; first | omega | (simp only [append_sz]; omega))
  have a14 : ∀ W, (Op.stringOp .add (U) (⟨#[84, 48, 48, 58, 48, 48, 58, 48, 48, 43, 48, 48, 58]⟩)).run Tryd.prog W = .ok (.string ((U) ++ ⟨#[84, 48, 48, 58, 48, 48, 58, 48, 48, 43, 48, 48, 58]⟩)) W := fun W => run_string_add_sum _ _ _ (by have z1 : (⟨#[84, 48, 48, 58, 48, 48, 58, 48, 48, 43, 48, 48, 58]⟩ : ByteArray).size = 13 := rfl; first | omega | (simp only [append_sz]; omega))
  have a15 : ∀ W, (Op.stringOp .add (U ++ ⟨#[84, 48, 48, 58, 48, 48, 58, 48, 48, 43, 48, 48, 58]⟩) (AL)).run Tryd.prog W = .ok (.string ((U ++ ⟨#[84, 48, 48, 58, 48, 48, 58, 48, 48, 43, 48, 48, 58]⟩) ++ AL)) W := fun W => run_string_add_sum _ _ _ (by have z1 : (⟨#[84, 48, 48, 58, 48, 48, 58, 48, 48, 43, 48, 48, 58]⟩ : ByteArray).size = 13 := rfl; first | omega | (simp only [append_sz]; omega))
  have a16 : ∀ W, (Op.stringOp .add (DA) (⟨#[84, 50, 51, 58]⟩)).run Tryd.prog W = .ok (.string ((DA) ++ ⟨#[84, 50, 51, 58]⟩)) W := fun W => run_string_add_sum _ _ _ (by have z1 : (⟨#[84, 50, 51, 58]⟩ : ByteArray).size = 4 := rfl; have z3 : (⟨#[58, 48, 48, 90]⟩ : ByteArray).size = 4 := rfl; first | omega | (simp only [append_sz]; omega))
  have a17 : ∀ W, (Op.stringOp .add (DA ++ ⟨#[84, 50, 51, 58]⟩) (A6)).run Tryd.prog W = .ok (.string ((DA ++ ⟨#[84, 50, 51, 58]⟩) ++ A6)) W := fun W => run_string_add_sum _ _ _ (by have z1 : (⟨#[84, 50, 51, 58]⟩ : ByteArray).size = 4 := rfl; have z3 : (⟨#[58, 48, 48, 90]⟩ : ByteArray).size = 4 := rfl; first | omega | (simp only [append_sz]; omega))
  have a18 : ∀ W, (Op.stringOp .add (DA ++ ⟨#[84, 50, 51, 58]⟩ ++ A6) (⟨#[58, 48, 48, 90]⟩)).run Tryd.prog W = .ok (.string ((DA ++ ⟨#[84, 50, 51, 58]⟩ ++ A6) ++ ⟨#[58, 48, 48, 90]⟩)) W := fun W => run_string_add_sum _ _ _ (by have z1 : (⟨#[84, 50, 51, 58]⟩ : ByteArray).size = 4 := rfl; have z3 : (⟨#[58, 48, 48, 90]⟩ : ByteArray).size = 4 := rfl; first | omega | (simp only [append_sz]; omega))
  have s1 : 10 ≤ NX.size := by omega
  have s2 : (10 : Int) ≤ (NX.size : Int) := by omega
  have hYl : Y ≤ 9998 := by omega
  have hMl : Mo ≤ 12 := by omega
  have hLl : La ≤ 59 := by omega
  have hLl2 : 1 ≤ La := by omega
  have hY2l : Y2 ≤ 9999 := by omega
  have hel : e ≤ 1 := by omega
  have hfl : f ≤ 11 := by omega
  have hql : q ≤ 99 := by omega
  have hq2l : q2 ≤ 99 := by omega
  have HC := Lib.hid hcum
  have HS := Lib.hid hcs
  have H4 := Lib.hid h400
  have HI := Lib.hid cI
  have HJ := Lib.hid cJ
  have HA := Lib.hid hall
  clear hcum hcs h400 cI cJ hall hlg h2 hY hMM hTT hMo hLa he hf hq hY2 hM2 hq2 hL1 hL6 hN zN zR zA zU zAQ zAY zAM zAN zBQ zBY zBM zBL zAL zA6
  go_enter Tryd.func6, Tryd.ntmps6
  go_wp2_with fail
  refine (known_any _ ht).mono ?_
  rintro r w1 ⟨rfl, hb⟩
  have B1 : Below w.heap.size w w1 := hb
  have T1 : Tab w1 := ht.next B1
  clear hb
  go_wp2_with fail
  go_loop [9, 10] (fun nv iv => ∃ (j n : Nat), nv = .int .i64 n ∧ iv = .int .i64 j ∧ 1 ≤ j ∧ j ≤ 13 ∧ Hid (n = M.cum Y j)) (fun _ iv => 13 - (intOf iv).toNat)
  case atStart => exact ⟨1, 0, rfl, rfl, Nat.le_refl _, by omega, rfl⟩
  case round =>
    obtain ⟨j, n, rfl, rfl, hj1, hj2, hn⟩ := hrel
    by_cases hlt : j ≤ 12
    · have g1 : decide ((j : Int) ≤ 12) = true := decide_eq_true (by omega)
      have g1n : decide (j ≤ 12) = true := decide_eq_true hlt
      have k1 := HI.out j
      have k2 := HJ.out j
      rw [H4.out] at k2
      have kp := M.days_pos (y := Y) (m := j) hj1 hlt
      have kl := M.days_le Y j
      have hnl : n ≤ 403 := by have := HC.out j; rw [hn.out]; omega
      have hnext : Hid (n + M.days Y j = M.cum Y (j + 1)) := by show _ = _; rw [HS.out j hj1, hn.out]
      generalize M.days Y j = d at *
      have g2 : decide ((d : Int) < 28) = false := decide_eq_false (by omega)
      have g3 : decide ((31 : Int) < (d : Int)) = false := decide_eq_false (by omega)
      have g3n : decide (31 < d) = false := decide_eq_false (by omega)
      go_wp2_with fail
      refine (k1 _).mono ?_
      rintro r w' ⟨rfl, rfl⟩
      go_wp2_with fail
      refine (k2 _).mono ?_
      rintro r w' ⟨rfl, rfl⟩
      go_wp2_with fail
      go_round
      case rel => exact ⟨j + 1, n + d, by go_num, by go_num, by omega, by omega, hnext⟩
      case measure => simp [intOf]; omega
    · obtain rfl : j = 13 := by omega
      obtain rfl : n = 365 := by rw [hn.out]; exact HA.out
      clear hn hlt HC HS H4 HI HJ HA
      go_wp2_with fail
      refine (c2 _).mono ?_
      rintro r w' ⟨rfl, rfl⟩
      go_wp2_with fail
      refine (c0 _).mono ?_
      rintro r w' ⟨rfl, rfl⟩
      go_wp2_with fail
      refine (cm _).mono ?_
      rintro r w' ⟨rfl, rfl⟩
      go_wp2_with fail
      refine (cq _).mono ?_
      rintro r w2 ⟨rfl, hb⟩
      have B2 : Below w.heap.size w w2 := B1.trans (hb.mono B1.size)
      have T2 : Tab w2 := ht.next B2
      clear hb B1 T1
      go_wp2_with fail
      refine (cY _).mono ?_
      rintro r w3 ⟨rfl, hb⟩
      have B3 : Below w.heap.size w w3 := B2.trans (hb.mono B2.size)
      have T3 : Tab w3 := ht.next B3
      clear hb B2 T2
      go_wp2_with fail
      refine (cM _).mono ?_
      rintro r w4 ⟨rfl, hb⟩
      have B4 : Below w.heap.size w w4 := B3.trans (hb.mono B3.size)
      have T4 : Tab w4 := ht.next B4
      clear hb B3 T3
      go_wp2_with fail
      refine (cN _).mono ?_
      rintro r w' ⟨rfl, rfl⟩
      go_wp2_with fail
      refine (cD _).mono ?_
      rintro r w5 ⟨rfl, hb⟩
      have B5 : Below w.heap.size w w5 := B4.trans (hb.mono B4.size)
      have T5 : Tab w5 := ht.next B5
      clear hb B4 T4
      go_wp2_with fail
      refine (cq2 _).mono ?_
      rintro r w6 ⟨rfl, hb⟩
      have B6 : Below w.heap.size w w6 := B5.trans (hb.mono B5.size)
      have T6 : Tab w6 := ht.next B6
      clear hb B5 T5
      go_wp2_with fail
      refine (cY2 _).mono ?_
      rintro r w7 ⟨rfl, hb⟩
      have B7 : Below w.heap.size w w7 := B6.trans (hb.mono B6.size)
      have T7 : Tab w7 := ht.next B7
      clear hb B6 T6
      go_wp2_with fail
      refine (cM2 _).mono ?_
      rintro r w8 ⟨rfl, hb⟩
      have B8 : Below w.heap.size w w8 := B7.trans (hb.mono B7.size)
      have T8 : Tab w8 := ht.next B8
      clear hb B7 T7
      go_wp2_with fail
      refine (cL1 _).mono ?_
      rintro r w9 ⟨rfl, hb⟩
      have B9 : Below w.heap.size w w9 := B8.trans (hb.mono B8.size)
      have T9 : Tab w9 := ht.next B9
      clear hb B8 T8
      go_wp2_with fail
      refine (cLa _).mono ?_
      rintro r w10 ⟨rfl, hb⟩
      have B10 : Below w.heap.size w w10 := B9.trans (hb.mono B9.size)
      have T10 : Tab w10 := ht.next B10
      clear hb B9 T9
      go_wp2_with fail
      with_reducible refine (hO1 _ T10).mono ?_
      rintro r w11 ⟨rfl, hb⟩
      have B11 : Below w.heap.size w w11 := B10.trans (hb.mono B10.size)
      have T11 : Tab w11 := ht.next B11
      clear hb B10 T10
      go_wp2_with fail
      with_reducible refine (hO2 _ T11).mono ?_
      rintro r w12 ⟨rfl, hb⟩
      have B12 : Below w.heap.size w w12 := B11.trans (hb.mono B11.size)
      have T12 : Tab w12 := ht.next B12
      clear hb B11 T11
      go_wp2_with fail
      have HT : Hid (∀ W, Below w12.heap.size w12 W → Tab W) := fun W h => T12.next h
      go_region_held3 (fun wx => Below w12.heap.size w12 wx)
        (first | exact hS | exact (Below.refl _ _).drew)
        (first | (go_at_call 15; refine (liftB (W0 := w12) (cLa _) ?_).mono ?_; (exact ‹Below w12.heap.size w12 _›); rintro r wq ⟨rfl, hS⟩) | (go_at_call 10; refine (liftB (W0 := w12) (hO3 _ (HT.out _ (‹Below w12.heap.size w12 _›))) ?_).mono ?_; (exact ‹Below w12.heap.size w12 _›); rintro r wq ⟨rfl, hS⟩))
      have B13 : Below w.heap.size w wq := B12.trans (hS.mono B12.size)
      clear hS B12 T12 HT
      go_wp2_with fail
      refine (cL6 _).mono ?_
      rintro r w14 ⟨rfl, hb⟩
      have B14 : Below w.heap.size w w14 := B13.trans (hb.mono B13.size)
      clear hb B13
      go_wp2
      go_ret
      exact ⟨rfl, B14⟩
set_option maxRecDepth 1000000 in
set_option maxHeartbeats 1000000 in
theorem days_core1 (y m t : Nat) (w : World) (ht : Tab w) (hy : y ≤ 65535) (hm : m ≤ 255) (htt : t ≤ 255) (hlg : M.lng (y % 9999) = true) :
    Calls Tryd.prog 6 #[.int .u16 y, .int .u8 m, .int .u8 t] w fun e w' => e = .returned (.bool true) ∧ Below w.heap.size w w' := by
  obtain ⟨Y, hY⟩ : ∃ x, y % 9999 = x := ⟨_, rfl⟩
  have y1 : Int.tmod (y : Int) 9999 = (Y : Int) := (md hY (by omega)).1
  have y2 : (y : Int) % 9999 = (Y : Int) := (md hY (by omega)).2
  obtain ⟨MM, hMM⟩ : ∃ x, m % 12 = x := ⟨_, rfl⟩
  have m1 : Int.tmod (m : Int) 12 = (MM : Int) := (md hMM (by omega)).1
  have m2 : (m : Int) % 12 = (MM : Int) := (md hMM (by omega)).2
  obtain ⟨TT, hTT⟩ : ∃ x, t % 59 = x := ⟨_, rfl⟩
  have t1 : Int.tmod (t : Int) 59 = (TT : Int) := (md hTT (by omega)).1
  have t2 : (t : Int) % 59 = (TT : Int) := (md hTT (by omega)).2
  rw [hY] at hlg
  obtain ⟨Mo, hMo⟩ : ∃ x, 1 + MM = x := ⟨_, rfl⟩
  have m3 : (1 : Int) + (MM : Int) = (Mo : Int) := by omega
  obtain ⟨La, hLa⟩ : ∃ x, 1 + TT = x := ⟨_, rfl⟩
  have t3 : (1 : Int) + (TT : Int) = (La : Int) := by omega
  obtain ⟨e, he⟩ : ∃ x, Mo / 12 = x := ⟨_, rfl⟩
  have e1 : (Mo : Int) / 12 = (e : Int) := by rw [← he]; rfl
  obtain ⟨f, hf⟩ : ∃ x, Mo % 12 = x := ⟨_, rfl⟩
  have f1 : (Mo : Int) % 12 = (f : Int) := by rw [← hf]; rfl
  obtain ⟨q, hq⟩ : ∃ x, Y / 100 = x := ⟨_, rfl⟩
  have q1 : (Y : Int) / 100 = (q : Int) := by rw [← hq]; rfl
  obtain ⟨Y2, hY2⟩ : ∃ x, Y + e = x := ⟨_, rfl⟩
  have y3 : (Y : Int) + (e : Int) = (Y2 : Int) := by omega
  obtain ⟨M2, hM2⟩ : ∃ x, f + 1 = x := ⟨_, rfl⟩
  have m4 : (f : Int) + 1 = (M2 : Int) := by omega
  obtain ⟨q2, hq2⟩ : ∃ x, Y2 / 100 = x := ⟨_, rfl⟩
  have q3 : (Y2 : Int) / 100 = (q2 : Int) := by rw [← hq2]; rfl
  obtain ⟨L1, hL1⟩ : ∃ x, La - 1 = x := ⟨_, rfl⟩
  have l1 : (La : Int) - 1 = (L1 : Int) := by omega
  obtain ⟨L6, hL6⟩ : ∃ x, 60 - La = x := ⟨_, rfl⟩
  have l6 : (60 : Int) - (La : Int) = (L6 : Int) := by omega
  have hdp := M.days_pos (y := Y) (m := Mo) (by omega) (by omega)
  have hdl := M.days_le Y Mo
  have o1 := M.of_late Y Mo La (by omega) (by omega) (by omega) (by omega) (by omega)
  have o2 := M.of_nxt Y Mo La (by omega) (by omega) (by omega) (by omega) (by omega)
  have o3 := M.of_early Y Mo La (by omega) (by omega) (by omega) (by omega) (by omega)
  have cN := fun W => days_nat Y Mo W (by omega)
  have cI := fun (j : Nat) W => days_nat Y j W (by omega)
  have cJ := fun (j : Nat) W => days_nat (Y + 400) j W (by omega)
  have h2 : M.days Y 2 = 29 := by rw [M.days_feb, hlg]; rfl
  have hall : M.cum Y 13 = 366 := by rw [M.cum_all, h2]
  have c2 : ∀ W, Calls Tryd.prog 13 #[.int .i64 Y, .int .i64 2] W fun e w' => e = .returned (.int .i64 29) ∧ W = w' := fun W => by have := days_nat Y 2 W (by omega); rw [h2] at this; exact this
  have c0 : ∀ W, Calls Tryd.prog 13 #[.int .i64 Y, .int .i64 0] W fun e w' => e = .returned (.int .i64 0) ∧ W = w' := fun W => by have := days_nat Y 0 W (by omega); rw [M.days_zero (Or.inl rfl)] at this; exact this
  have cm : ∀ W, Calls Tryd.prog 13 #[.int .i64 (-1), .int .i64 1] W fun e w' => e = .returned (.int .i64 0) ∧ W = w' := fun W => days_any (-1) 1 W (by omega)
  have hO1 : Ofs (bA (M.DT Y Mo (M.days Y Mo)) ++ ⟨#[32, 50, 51, 58, 53, 57, 58, 48, 48, 32, 45, 48, 58]⟩ ++ bA (M.d2 La)) (bA (M.nxt Y Mo La)) := Off _ _ _ (by simp [bA_toList]; rfl) o1 (by simp [M.DT_len, M.AT_len, M.len_d2])
  have hO2 : Ofs (bA (M.nxt Y Mo La)) (bA (M.nxt Y Mo La)) := Off _ _ _ (bA_toList _) o2 (by rw [nxt_len]; omega)
  have hO3 : Ofs (bA (M.DT (Y + Mo / 12) (Mo % 12 + 1) 1) ++ ⟨#[84, 48, 48, 58, 48, 48, 58, 48, 48, 43, 48, 48, 58]⟩ ++ bA (M.d2 La)) (bA (M.lst Y Mo La)) := Off _ _ _ (by simp [bA_toList]; rfl) o3 (by simp [M.DT_len, M.AT_len, M.len_d2])
  have hs1 : bA (M.d2 q) ++ bA (e2 Y) ++ ⟨#[45]⟩ ++ bA (M.d2 Mo) ++ ⟨#[45]⟩ ++ bA (M.d2 (M.days Y Mo)) = bA (M.DT Y Mo (M.days Y Mo)) := by
    apply eq_bA
    unfold M.DT
    rw [← e2_year Y (by omega), hq, e2_small (n := q) (by omega)]
    simp [bA_toList]
  have hs2 : bA (M.d2 q2) ++ bA (e2 Y2) ++ ⟨#[45]⟩ ++ bA (M.d2 M2) ++ ⟨#[45, 48, 49, 84, 48, 48, 58]⟩ ++ bA (M.d2 L1) ++ ⟨#[58, 48, 48, 90]⟩ = bA (M.nxt Y Mo La) := by
    apply eq_bA
    unfold M.nxt M.DT M.AT
    rw [he, hf, hY2, hM2, hL1, ← e2_year Y2 (by omega), hq2, e2_small (n := q2) (by omega)]
    simp [bA_toList]
    rfl
  have hs3 : bA (M.DT Y Mo (M.days Y Mo)) ++ ⟨#[84, 50, 51, 58]⟩ ++ bA (M.d2 L6) ++ ⟨#[58, 48, 48, 90]⟩ = bA (M.lst Y Mo La) := by
    apply eq_bA
    unfold M.lst M.AT
    rw [hL6]
    simp [bA_toList]
    rfl
  have hs4 : (bA (M.nxt Y Mo La)).extract 0 10 = bA (M.DT (Y + Mo / 12) (Mo % 12 + 1) 1) := by apply eq_bA; rw [extract_take, bA_toList]; rfl
  have zN : (bA (M.nxt Y Mo La)).size = 20 := by rw [bA_size, nxt_len]
  have zR : (bA (M.lst Y Mo La)).size = 20 := by rw [bA_size, lst_len]
  have zA : (bA (M.DT Y Mo (M.days Y Mo))).size = 10 := by rw [bA_size, M.DT_len]
  have zU : (bA (M.DT (Y + Mo / 12) (Mo % 12 + 1) 1)).size = 10 := by rw [bA_size, M.DT_len]
  have hcum := M.cum_le Y
  have hcs := M.cum_succ Y
  have h400 := M.days_400 Y
  obtain ⟨N, hN⟩ : ∃ x, M.days Y Mo = x := ⟨_, rfl⟩
  rw [hN] at hdp hdl cN hs1 hs3 hO1 zA
  have cq := fun W => two2_any q W (by omega)
  have cM := fun W => two2_any Mo W (by omega)
  have cD := fun W => two2_any N W (by omega)
  have cq2 := fun W => two2_any q2 W (by omega)
  have cM2 := fun W => two2_any M2 W (by omega)
  have cL1 := fun W => two2_any L1 W (by omega)
  have cLa := fun W => two2_any La W (by omega)
  have cL6 := fun W => two2_any L6 W (by omega)
  have cY := fun W => two_any Y W (by omega)
  have cY2 := fun W => two_any Y2 W (by omega)
  obtain ⟨AQ, eAQ⟩ : ∃ x, bA (M.d2 q) = x := ⟨_, rfl⟩
  have zAQ : AQ.size = 2 := by rw [← eAQ]; exact d2_size _
  rw [eAQ] at cq
  obtain ⟨AY, eAY⟩ : ∃ x, bA (e2 Y) = x := ⟨_, rfl⟩
  have zAY : AY.size = 2 := by rw [← eAY]; exact e2_size _
  rw [eAY] at cY
  obtain ⟨AM, eAM⟩ : ∃ x, bA (M.d2 Mo) = x := ⟨_, rfl⟩
  have zAM : AM.size = 2 := by rw [← eAM]; exact d2_size _
  rw [eAM] at cM
  obtain ⟨AN, eAN⟩ : ∃ x, bA (M.d2 N) = x := ⟨_, rfl⟩
  have zAN : AN.size = 2 := by rw [← eAN]; exact d2_size _
  rw [eAN] at cD
  obtain ⟨BQ, eBQ⟩ : ∃ x, bA (M.d2 q2) = x := ⟨_, rfl⟩
  have zBQ : BQ.size = 2 := by rw [← eBQ]; exact d2_size _
  rw [eBQ] at cq2
  obtain ⟨BY, eBY⟩ : ∃ x, bA (e2 Y2) = x := ⟨_, rfl⟩
  have zBY : BY.size = 2 := by rw [← eBY]; exact e2_size _
  rw [eBY] at cY2
  obtain ⟨BM, eBM⟩ : ∃ x, bA (M.d2 M2) = x := ⟨_, rfl⟩
  have zBM : BM.size = 2 := by rw [← eBM]; exact d2_size _
  rw [eBM] at cM2
  obtain ⟨BL, eBL⟩ : ∃ x, bA (M.d2 L1) = x := ⟨_, rfl⟩
  have zBL : BL.size = 2 := by rw [← eBL]; exact d2_size _
  rw [eBL] at cL1
  obtain ⟨AL, eAL⟩ : ∃ x, bA (M.d2 La) = x := ⟨_, rfl⟩
  have zAL : AL.size = 2 := by rw [← eAL]; exact d2_size _
  rw [eAL] at cLa
  obtain ⟨A6, eA6⟩ : ∃ x, bA (M.d2 L6) = x := ⟨_, rfl⟩
  have zA6 : A6.size = 2 := by rw [← eA6]; exact d2_size _
  rw [eA6] at cL6
  rw [eAQ, eAY, eAM, eAN] at hs1
  rw [eBQ, eBY, eBM, eBL] at hs2
  rw [eA6] at hs3
  rw [eAL] at hO1 hO3
  obtain ⟨DA, eDA⟩ : ∃ x, bA (M.DT Y Mo N) = x := ⟨_, rfl⟩
  obtain ⟨NX, eNX⟩ : ∃ x, bA (M.nxt Y Mo La) = x := ⟨_, rfl⟩
  obtain ⟨RX, eRX⟩ : ∃ x, bA (M.lst Y Mo La) = x := ⟨_, rfl⟩
  obtain ⟨U, eU⟩ : ∃ x, bA (M.DT (Y + Mo / 12) (Mo % 12 + 1) 1) = x := ⟨_, rfl⟩
  rw [eDA] at hs1 hs3 hO1 zA
  rw [eNX] at hs2 hs4 hO1 hO2 zN
  rw [eRX] at hs3 hO3 zR
  rw [eU] at hs4 hO3 zU
  clear eAQ eAY eAM eAN eBQ eBY eBM eBL eAL eA6 eDA eNX eRX eU o1 o2 o3
  have a1 : ∀ W, (Op.stringOp .add (AQ) (AY)).run Tryd.prog W = .ok (.string ((AQ) ++ AY)) W := fun W => run_string_add_sum _ _ _ (by have z2 : (⟨#[45]⟩ : ByteArray).size = 1 := rfl; have z4 : (⟨#[45]⟩ : ByteArray).size = 1 := rfl; first | omega | (simp only [append_sz]; omega))
  have a2 : ∀ W, (Op.stringOp .add (AQ ++ AY) (⟨#[45]⟩)).run Tryd.prog W = .ok (.string ((AQ ++ AY) ++ ⟨#[45]⟩)) W := fun W => run_string_add_sum _ _ _ (by have z2 : (⟨#[45]⟩ : ByteArray).size = 1 := rfl; have z4 : (⟨#[45]⟩ : ByteArray).size = 1 := rfl; first | omega | (simp only [append_sz]; omega))
  have a3 : ∀ W, (Op.stringOp .add (AQ ++ AY ++ ⟨#[45]⟩) (AM)).run Tryd.prog W = .ok (.string ((AQ ++ AY ++ ⟨#[45]⟩) ++ AM)) W := fun W => run_string_add_sum _ _ _ (by have z2 : (⟨#[45]⟩ : ByteArray).size = 1 := rfl; have z4 : (⟨#[45]⟩ : ByteArray).size = 1 := rfl; first | omega | (simp only [append_sz]; omega))
  have a4 : ∀ W, (Op.stringOp .add (AQ ++ AY ++ ⟨#[45]⟩ ++ AM) (⟨#[45]⟩)).run Tryd.prog W = .ok (.string ((AQ ++ AY ++ ⟨#[45]⟩ ++ AM) ++ ⟨#[45]⟩)) W := fun W => run_string_add_sum _ _ _ (by have z2 : (⟨#[45]⟩ : ByteArray).size = 1 := rfl; have z4 : (⟨#[45]⟩ : ByteArray).size = 1 := rfl; first | omega | (simp only [append_sz]; omega))
  have a5 : ∀ W, (Op.stringOp .add (AQ ++ AY ++ ⟨#[45]⟩ ++ AM ++ ⟨#[45]⟩) (AN)).run Tryd.prog W = .ok (.string ((AQ ++ AY ++ ⟨#[45]⟩ ++ AM ++ ⟨#[45]⟩) ++ AN)) W := fun W => run_string_add_sum _ _ _ (by have z2 : (⟨#[45]⟩ : ByteArray).size = 1 := rfl; have z4 : (⟨#[45]⟩ : ByteArray).size = 1 := rfl; first | omega | (simp only [append_sz]; omega))
  have a6 : ∀ W, (Op.stringOp .add (BQ) (BY)).run Tryd.prog W = .ok (.string ((BQ) ++ BY)) W := fun W => run_string_add_sum _ _ _ (by have z2 : (⟨#[45]⟩ : ByteArray).size = 1 := rfl; have z4 : (⟨#[45, 48, 49, 84, 48, 48, 58]⟩ : ByteArray).size = 7 := rfl; have z6 : (⟨#[58, 48, 48, 90]⟩ : ByteArray).size = 4 := rfl; first | omega | (simp only [append_sz]; omega))
  have a7 : ∀ W, (Op.stringOp .add (BQ ++ BY) (⟨#[45]⟩)).run Tryd.prog W = .ok (.string ((BQ ++ BY) ++ ⟨#[45]⟩)) W := fun W => run_string_add_sum _ _ _ (by have z2 : (⟨#[45]⟩ : ByteArray).size = 1 := rfl; have z4 : (⟨#[45, 48, 49, 84, 48, 48, 58]⟩ : ByteArray).size = 7 := rfl; have z6 : (⟨#[58, 48, 48, 90]⟩ : ByteArray).size = 4 := rfl; first | omega | (simp only [append_sz]; omega))
  have a8 : ∀ W, (Op.stringOp .add (BQ ++ BY ++ ⟨#[45]⟩) (BM)).run Tryd.prog W = .ok (.string ((BQ ++ BY ++ ⟨#[45]⟩) ++ BM)) W := fun W => run_string_add_sum _ _ _ (by have z2 : (⟨#[45]⟩ : ByteArray).size = 1 := rfl; have z4 : (⟨#[45, 48, 49, 84, 48, 48, 58]⟩ : ByteArray).size = 7 := rfl; have z6 : (⟨#[58, 48, 48, 90]⟩ : ByteArray).size = 4 := rfl; first | omega | (simp only [append_sz]; omega))
  have a9 : ∀ W, (Op.stringOp .add (BQ ++ BY ++ ⟨#[45]⟩ ++ BM) (⟨#[45, 48, 49, 84, 48, 48, 58]⟩)).run Tryd.prog W = .ok (.string ((BQ ++ BY ++ ⟨#[45]⟩ ++ BM) ++ ⟨#[45, 48, 49, 84, 48, 48, 58]⟩)) W := fun W => run_string_add_sum _ _ _ (by have z2 : (⟨#[45]⟩ : ByteArray).size = 1 := rfl; have z4 : (⟨#[45, 48, 49, 84, 48, 48, 58]⟩ : ByteArray).size = 7 := rfl; have z6 : (⟨#[58, 48, 48, 90]⟩ : ByteArray).size = 4 := rfl; first | omega | (simp only [append_sz]; omega))
  have a10 : ∀ W, (Op.stringOp .add (BQ ++ BY ++ ⟨#[45]⟩ ++ BM ++ ⟨#[45, 48, 49, 84, 48, 48, 58]⟩) (BL)).run Tryd.prog W = .ok (.string ((BQ ++ BY ++ ⟨#[45]⟩ ++ BM ++ ⟨#[45, 48, 49, 84, 48, 48, 58]⟩) ++ BL)) W := fun W => run_string_add_sum _ _ _ (by have z2 : (⟨#[45]⟩ : ByteArray).size = 1 := rfl; have z4 : (⟨#[45, 48, 49, 84, 48, 48, 58]⟩ : ByteArray).size = 7 := rfl; have z6 : (⟨#[58, 48, 48, 90]⟩ : ByteArray).size = 4 := rfl; first | omega | (simp only [append_sz]; omega))
  have a11 : ∀ W, (Op.stringOp .add (BQ ++ BY ++ ⟨#[45]⟩ ++ BM ++ ⟨#[45, 48, 49, 84, 48, 48, 58]⟩ ++ BL) (⟨#[58, 48, 48, 90]⟩)).run Tryd.prog W = .ok (.string ((BQ ++ BY ++ ⟨#[45]⟩ ++ BM ++ ⟨#[45, 48, 49, 84, 48, 48, 58]⟩ ++ BL) ++ ⟨#[58, 48, 48, 90]⟩)) W := fun W => run_string_add_sum _ _ _ (by have z2 : (⟨#[45]⟩ : ByteArray).size = 1 := rfl; have z4 : (⟨#[45, 48, 49, 84, 48, 48, 58]⟩ : ByteArray).size = 7 := rfl; have z6 : (⟨#[58, 48, 48, 90]⟩ : ByteArray).size = 4 := rfl; first | omega | (simp only [append_sz]; omega))
  have a12 : ∀ W, (Op.stringOp .add (DA) (⟨#[32, 50, 51, 58, 53, 57, 58, 48, 48, 32, 45, 48, 58]⟩)).run Tryd.prog W = .ok (.string ((DA) ++ ⟨#[32, 50, 51, 58, 53, 57, 58, 48, 48, 32, 45, 48, 58]⟩)) W := fun W => run_string_add_sum _ _ _ (by have z1 : (⟨#[32, 50, 51, 58, 53, 57, 58, 48, 48, 32, 45, 48, 58]⟩ : ByteArray).size = 13 := rfl; first | omega | (simp only [append_sz]; omega))
  have a13 : ∀ W, (Op.stringOp .add (DA ++ ⟨#[32, 50, 51, 58, 53, 57, 58, 48, 48, 32, 45, 48, 58]⟩) (AL)).run Tryd.prog W = .ok (.string ((DA ++ ⟨#[32, 50, 51, 58, 53, 57, 58, 48, 48, 32, 45, 48, 58]⟩) ++ AL)) W := fun W => run_string_add_sum _ _ _ (by have z1 : (⟨#[32, 50, 51, 58, 53, 57, 58, 48, 48, 32, 45, 48, 58]⟩ : ByteArray).size = 13 := rfl; first | omega | (simp only [append_sz]; omega))
  have a14 : ∀ W, (Op.stringOp .add (U) (⟨#[84, 48, 48, 58, 48, 48, 58, 48, 48, 43, 48, 48, 58]⟩)).run Tryd.prog W = .ok (.string ((U) ++ ⟨#[84, 48, 48, 58, 48, 48, 58, 48, 48, 43, 48, 48, 58]⟩)) W := fun W => run_string_add_sum _ _ _ (by have z1 : (⟨#[84, 48, 48, 58, 48, 48, 58, 48, 48, 43, 48, 48, 58]⟩ : ByteArray).size = 13 := rfl; first | omega | (simp only [append_sz]; omega))
  have a15 : ∀ W, (Op.stringOp .add (U ++ ⟨#[84, 48, 48, 58, 48, 48, 58, 48, 48, 43, 48, 48, 58]⟩) (AL)).run Tryd.prog W = .ok (.string ((U ++ ⟨#[84, 48, 48, 58, 48, 48, 58, 48, 48, 43, 48, 48, 58]⟩) ++ AL)) W := fun W => run_string_add_sum _ _ _ (by have z1 : (⟨#[84, 48, 48, 58, 48, 48, 58, 48, 48, 43, 48, 48, 58]⟩ : ByteArray).size = 13 := rfl; first | omega | (simp only [append_sz]; omega))
  have a16 : ∀ W, (Op.stringOp .add (DA) (⟨#[84, 50, 51, 58]⟩)).run Tryd.prog W = .ok (.string ((DA) ++ ⟨#[84, 50, 51, 58]⟩)) W := fun W => run_string_add_sum _ _ _ (by have z1 : (⟨#[84, 50, 51, 58]⟩ : ByteArray).size = 4 := rfl; have z3 : (⟨#[58, 48, 48, 90]⟩ : ByteArray).size = 4 := rfl; first | omega | (simp only [append_sz]; omega))
  have a17 : ∀ W, (Op.stringOp .add (DA ++ ⟨#[84, 50, 51, 58]⟩) (A6)).run Tryd.prog W = .ok (.string ((DA ++ ⟨#[84, 50, 51, 58]⟩) ++ A6)) W := fun W => run_string_add_sum _ _ _ (by have z1 : (⟨#[84, 50, 51, 58]⟩ : ByteArray).size = 4 := rfl; have z3 : (⟨#[58, 48, 48, 90]⟩ : ByteArray).size = 4 := rfl; first | omega | (simp only [append_sz]; omega))
  have a18 : ∀ W, (Op.stringOp .add (DA ++ ⟨#[84, 50, 51, 58]⟩ ++ A6) (⟨#[58, 48, 48, 90]⟩)).run Tryd.prog W = .ok (.string ((DA ++ ⟨#[84, 50, 51, 58]⟩ ++ A6) ++ ⟨#[58, 48, 48, 90]⟩)) W := fun W => run_string_add_sum _ _ _ (by have z1 : (⟨#[84, 50, 51, 58]⟩ : ByteArray).size = 4 := rfl; have z3 : (⟨#[58, 48, 48, 90]⟩ : ByteArray).size = 4 := rfl; first | omega | (simp only [append_sz]; omega))
  have s1 : 10 ≤ NX.size := by omega
  have s2 : (10 : Int) ≤ (NX.size : Int) := by omega
  have hYl : Y ≤ 9998 := by omega
  have hMl : Mo ≤ 12 := by omega
  have hLl : La ≤ 59 := by omega
  have hLl2 : 1 ≤ La := by omega
  have hY2l : Y2 ≤ 9999 := by omega
  have hel : e ≤ 1 := by omega
  have hfl : f ≤ 11 := by omega
  have hql : q ≤ 99 := by omega
  have hq2l : q2 ≤ 99 := by omega
  have HC := Lib.hid hcum
  have HS := Lib.hid hcs
  have H4 := Lib.hid h400
  have HI := Lib.hid cI
  have HJ := Lib.hid cJ
  have HA := Lib.hid hall
  clear hcum hcs h400 cI cJ hall hlg h2 hY hMM hTT hMo hLa he hf hq hY2 hM2 hq2 hL1 hL6 hN zN zR zA zU zAQ zAY zAM zAN zBQ zBY zBM zBL zAL zA6
  go_enter Tryd.func6, Tryd.ntmps6
  go_wp2_with fail
  refine (known_any _ ht).mono ?_
  rintro r w1 ⟨rfl, hb⟩
  have B1 : Below w.heap.size w w1 := hb
  have T1 : Tab w1 := ht.next B1
  clear hb
  go_wp2_with fail
  go_loop [9, 10] (fun nv iv => ∃ (j n : Nat), nv = .int .i64 n ∧ iv = .int .i64 j ∧ 1 ≤ j ∧ j ≤ 13 ∧ Hid (n = M.cum Y j)) (fun _ iv => 13 - (intOf iv).toNat)
  case atStart => exact ⟨1, 0, rfl, rfl, Nat.le_refl _, by omega, rfl⟩
  case round =>
    obtain ⟨j, n, rfl, rfl, hj1, hj2, hn⟩ := hrel
    by_cases hlt : j ≤ 12
    · have g1 : decide ((j : Int) ≤ 12) = true := decide_eq_true (by omega)
      have g1n : decide (j ≤ 12) = true := decide_eq_true hlt
      have k1 := HI.out j
      have k2 := HJ.out j
      rw [H4.out] at k2
      have kp := M.days_pos (y := Y) (m := j) hj1 hlt
      have kl := M.days_le Y j
      have hnl : n ≤ 403 := by have := HC.out j; rw [hn.out]; omega
      have hnext : Hid (n + M.days Y j = M.cum Y (j + 1)) := by show _ = _; rw [HS.out j hj1, hn.out]
      generalize M.days Y j = d at *
      have g2 : decide ((d : Int) < 28) = false := decide_eq_false (by omega)
      have g3 : decide ((31 : Int) < (d : Int)) = false := decide_eq_false (by omega)
      have g3n : decide (31 < d) = false := decide_eq_false (by omega)
      go_wp2_with fail
      refine (k1 _).mono ?_
      rintro r w' ⟨rfl, rfl⟩
      go_wp2_with fail
      refine (k2 _).mono ?_
      rintro r w' ⟨rfl, rfl⟩
      go_wp2_with fail
      go_round
      case rel => exact ⟨j + 1, n + d, by go_num, by go_num, by omega, by omega, hnext⟩
      case measure => simp [intOf]; omega
    · obtain rfl : j = 13 := by omega
      obtain rfl : n = 366 := by rw [hn.out]; exact HA.out
      clear hn hlt HC HS H4 HI HJ HA
      go_wp2_with fail
      refine (c2 _).mono ?_
      rintro r w' ⟨rfl, rfl⟩
      go_wp2_with fail
      refine (c0 _).mono ?_
      rintro r w' ⟨rfl, rfl⟩
      go_wp2_with fail
      refine (cm _).mono ?_
      rintro r w' ⟨rfl, rfl⟩
      go_wp2_with fail
      refine (cq _).mono ?_
      rintro r w2 ⟨rfl, hb⟩
      have B2 : Below w.heap.size w w2 := B1.trans (hb.mono B1.size)
      have T2 : Tab w2 := ht.next B2
      clear hb B1 T1
      go_wp2_with fail
      refine (cY _).mono ?_
      rintro r w3 ⟨rfl, hb⟩
      have B3 : Below w.heap.size w w3 := B2.trans (hb.mono B2.size)
      have T3 : Tab w3 := ht.next B3
      clear hb B2 T2
      go_wp2_with fail
      refine (cM _).mono ?_
      rintro r w4 ⟨rfl, hb⟩
      have B4 : Below w.heap.size w w4 := B3.trans (hb.mono B3.size)
      have T4 : Tab w4 := ht.next B4
      clear hb B3 T3
      go_wp2_with fail
      refine (cN _).mono ?_
      rintro r w' ⟨rfl, rfl⟩
      go_wp2_with fail
      refine (cD _).mono ?_
      rintro r w5 ⟨rfl, hb⟩
      have B5 : Below w.heap.size w w5 := B4.trans (hb.mono B4.size)
      have T5 : Tab w5 := ht.next B5
      clear hb B4 T4
      go_wp2_with fail
      refine (cq2 _).mono ?_
      rintro r w6 ⟨rfl, hb⟩
      have B6 : Below w.heap.size w w6 := B5.trans (hb.mono B5.size)
      have T6 : Tab w6 := ht.next B6
      clear hb B5 T5
      go_wp2_with fail
      refine (cY2 _).mono ?_
      rintro r w7 ⟨rfl, hb⟩
      have B7 : Below w.heap.size w w7 := B6.trans (hb.mono B6.size)
      have T7 : Tab w7 := ht.next B7
      clear hb B6 T6
      go_wp2_with fail
      refine (cM2 _).mono ?_
      rintro r w8 ⟨rfl, hb⟩
      have B8 : Below w.heap.size w w8 := B7.trans (hb.mono B7.size)
      have T8 : Tab w8 := ht.next B8
      clear hb B7 T7
      go_wp2_with fail
      refine (cL1 _).mono ?_
      rintro r w9 ⟨rfl, hb⟩
      have B9 : Below w.heap.size w w9 := B8.trans (hb.mono B8.size)
      have T9 : Tab w9 := ht.next B9
      clear hb B8 T8
      go_wp2_with fail
      refine (cLa _).mono ?_
      rintro r w10 ⟨rfl, hb⟩
      have B10 : Below w.heap.size w w10 := B9.trans (hb.mono B9.size)
      have T10 : Tab w10 := ht.next B10
      clear hb B9 T9
      go_wp2_with fail
      with_reducible refine (hO1 _ T10).mono ?_
      rintro r w11 ⟨rfl, hb⟩
      have B11 : Below w.heap.size w w11 := B10.trans (hb.mono B10.size)
      have T11 : Tab w11 := ht.next B11
      clear hb B10 T10
      go_wp2_with fail
      with_reducible refine (hO2 _ T11).mono ?_
      rintro r w12 ⟨rfl, hb⟩
      have B12 : Below w.heap.size w w12 := B11.trans (hb.mono B11.size)
      have T12 : Tab w12 := ht.next B12
      clear hb B11 T11
      go_wp2_with fail
      have HT : Hid (∀ W, Below w12.heap.size w12 W → Tab W) := fun W h => T12.next h
      go_region_held3 (fun wx => Below w12.heap.size w12 wx)
        (first | exact hS | exact (Below.refl _ _).drew)
        (first | (go_at_call 15; refine (liftB (W0 := w12) (cLa _) ?_).mono ?_; (exact ‹Below w12.heap.size w12 _›); rintro r wq ⟨rfl, hS⟩) | (go_at_call 10; refine (liftB (W0 := w12) (hO3 _ (HT.out _ (‹Below w12.heap.size w12 _›))) ?_).mono ?_; (exact ‹Below w12.heap.size w12 _›); rintro r wq ⟨rfl, hS⟩))
      have B13 : Below w.heap.size w wq := B12.trans (hS.mono B12.size)
      clear hS B12 T12 HT
      go_wp2_with fail
      refine (cL6 _).mono ?_
      rintro r w14 ⟨rfl, hb⟩
      have B14 : Below w.heap.size w w14 := B13.trans (hb.mono B13.size)
      clear hb B13
      go_wp2
      go_ret
      exact ⟨rfl, B14⟩
theorem dayslaw_any (y m t : Nat) (w : World) (ht : Env w) (hy : y ≤ 65535) (hm : m ≤ 255) (htt : t ≤ 255) :
    Calls Tryd.prog 6 #[.int .u16 y, .int .u8 m, .int .u8 t] w fun e w' => e = .returned (.bool true) ∧ Below w.heap.size w w' := by
  cases h : M.lng (y % 9999)
  · exact days_core0 y m t w ht hy hm htt h
  · exact days_core1 y m t w ht hy hm htt h
end Go.Proofs.YtoidlgopibnaaaaDoor
