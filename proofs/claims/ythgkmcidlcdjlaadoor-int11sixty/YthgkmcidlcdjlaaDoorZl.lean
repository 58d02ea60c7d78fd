/- The law Int11Sixty: its walk. -/
import Derived.Test.YthgkmcidlcdjlaaDoorZk
import Derived.Test.YthgkmcidlcdjlaaDoorZf
import Derived.Test.YthgkmcidlcdjlaaDoorZe
set_option linter.unusedVariables false
namespace Go.Proofs.YthgkmcidlcdjlaaDoor
open Go.RowKit
set_option maxRecDepth 100000 in
set_option maxHeartbeats 1000000 in
theorem text_wide (N : Nat) (w : World) (hN : N ≤ 3057647616000000) :
    Calls Tryd.prog 14 #[.int .i64 N] w fun e w' => e = .returned (.string (bA (M.dg N))) ∧ Below w.heap.size w w' := by
  have hlen : (M.dg N).length ≤ 16 := M.dg_len_le N 16 (by omega) (by omega)
  obtain ⟨L, hL⟩ : ∃ L, M.dg N = L := ⟨_, rfl⟩
  rw [hL] at hlen ⊢
  have HL := Lib.hid hL
  clear hL
  go_enter Tryd.func14, Tryd.ntmps14
  go_wp2
  go_loopw [0, 3] (fun nv sv wr => ∃ (n : Nat) (h : List UInt8) (H : ByteArray), nv = .int .i64 n ∧ sv = .string H ∧ n ≤ 3057647616000000 ∧ H.size ≤ 16 ∧ Hid (H = bA h) ∧ Hid (M.dg n ++ h = L) ∧ Below w.heap.size w wr) (fun nv _ _ => (intOf nv).toNat)
  case atStart => exact ⟨N, [], ⟨#[]⟩, rfl, rfl, hN, by decide, rfl, by show _ = _; rw [List.append_nil]; exact HL.out, Below.refl _ _⟩
  case round =>
    obtain ⟨n, h, H, rfl, rfl, hn, hH, HH, hst, hbw⟩ := hrel
    have hsz := hbw.size
    have k3 := fun W => one_conv W (48 + (n : Int) % 10) (dg1 n) (dig_cast n)
    have hXs : (bA [dg1 n]).size = 1 := bA_size _
    have hXH : bA [dg1 n] ++ H = bA (dg1 n :: h) := by rw [HH.out]; exact bA_append [dg1 n] h
    have HXH := Lib.hid hXH
    have hXz := Lib.hid (append_sz (bA [dg1 n]) H)
    have hHs : H.size = h.length := by rw [HH.out, bA_size]
    have hhl : h.length + 1 ≤ 16 := by
      have := congrArg List.length hst.out
      rw [List.length_append] at this
      have := M.dg_len_pos n
      omega
    clear hXH
    generalize bA [dg1 n] = X at *
    by_cases hn10 : n < 10
    · have e0 : (n : Int) / 10 = 0 := by omega
      have hfin : dg1 n :: h = L := by rw [← hst.out, M.dg_small hn10]; unfold dg1; rw [Nat.mod_eq_of_lt hn10]; rfl
      rw [hfin] at HXH
      clear hst hfin
      go_wp2
      go_ret
      exact ⟨ret_str HXH.out, hbw.alloc hsz _⟩
    · have e0 : ¬ (n : Int) / 10 = 0 := by omega
      have hdd : ((n : Int) / 10 == 0) = false := by simp; omega
      have hfin : M.dg (n / 10) ++ dg1 n :: h = L := by rw [← hst.out, M.dg_big hn10, List.append_assoc]; rfl
      have HF := Lib.hid hfin
      clear hst hfin e0
      go_wp2
      go_roundw
      case rel => exact ⟨n / 10, dg1 n :: h, X ++ H, by rw [cast_div10], rfl, by omega, by rw [hXz.out]; omega, HXH.out, HF.out, hbw.alloc hsz _⟩
      case measure => simp [intOf]; omega
theorem tx_plus (n : Nat) : tx (M.sgn false n) = bA (M.dg n) := by unfold tx; rw [show M.sgn false n = ((n : Nat) : Int) from rfl, M.txt_nat]
theorem tx_minus (n : Nat) (h : 1 ≤ n) : tx (M.sgn true n) = (⟨#[45]⟩ : ByteArray) ++ bA (M.dg n) := by
  unfold tx; rw [M.txt_sgn true n (by omega), show (⟨#[45]⟩ : ByteArray) = bA [45] from rfl, bA_append]; rfl
theorem hst_size {n i : Nat} {B : ByteArray} (h : M.SI n i B.data.toList) : B.size ≤ 5 + 3 * i := by
  obtain ⟨d, r, hU, h48, hd, hA, hg, hs, hl, hb, h1⟩ := h
  rw [sz_list]; exact hl
set_option maxRecDepth 100000 in
set_option maxHeartbeats 4000000 in
theorem sixty_core (f B : Nat) (a : Option Addr) (cap : Nat) (l : List UInt8) (neg : Bool) (w : World) (he : Env w) (hin : InB w a l) (hf1 : 1 ≤ f) (hf2 : f < 65536) (hl1 : 1 ≤ l.length) (hl6 : l.length ≤ 6) (hB : B ≤ 255) :
    Calls Tryd.prog 5 #[.int .u16 f, .slice a l.length cap, .bool neg, .int .u8 B] w fun e w' => e = .returned (.bool true) ∧ Below w.heap.size w w' := by
  have g1 : ((f : Int) == 0) = false := by simp; omega
  have g2 : decide ((l.length : Int) < 1) = false := by simp; omega
  have g2' : decide (l.length < 1) = false := decide_eq_false (by omega)
  have g3 : decide ((6 : Int) < (l.length : Int)) = false := by simp; omega
  have g3' : decide (6 < l.length) = false := by simp; omega
  have HIN := Lib.hid hin
  have hst := M.SI.start f hf1 hf2
  rw [← bA_toList (M.dg f)] at hst
  obtain ⟨b, hb⟩ : ∃ b, B % l.length = b := ⟨_, rfl⟩
  have hbl : b < l.length := by rw [← hb]; exact Nat.mod_lt _ hl1
  obtain ⟨q, hq⟩ : ∃ q, B % 40 = q := ⟨_, rfl⟩
  have hq40 : q < 40 := by omega
  have eb : Int.tmod (B : Int) (l.length : Int) = (b : Int) := by rw [← Int.ofNat_tmod, hb]
  have eb2 : (B : Int) % (l.length : Int) = (b : Int) := by rw [← Int.natCast_emod, hb]
  have eq1 : Int.tmod (B : Int) 40 = (q : Int) := by rw [show (40 : Int) = ((40 : Nat) : Int) from rfl, ← Int.ofNat_tmod, hq]
  have eq2 : (B : Int) % 40 = (q : Int) := by omega
  have hwb : IntKind.i64.wrap (b : Int) = (b : Int) := by rw [IntWalk.i64_in _ (by omega)]
  have hwq : IntKind.i64.wrap (q : Int) = (q : Int) := by rw [IntWalk.i64_in _ (by omega)]
  have hti := M.TI.start (b := b) hst
  have hs0 := hst_size hst
  have hbd := hst.bound (by omega)
  have HS0 := Lib.hid hst
  have HT0 := Lib.hid hti
  have cF := fun W => text_wide f W (by omega)
  clear hin hb hq hst hti
  generalize bA (M.dg f) = BF at *
  go_enter Tryd.func5, Tryd.ntmps5
  go_wp2_with fail
  refine (known_any _ he).mono ?_
  rintro r w1 ⟨rfl, hb1⟩
  go_wp2_with fail
  refine (cF _).mono ?_
  rintro r w2 ⟨rfl, hb2⟩
  clear cF
  go_wp2_with fail
  go_loopw [9, 10, 11, 12] (fun sv nv tv iv wr => ∃ (i n : Nat) (S T : ByteArray), sv = .string S ∧ nv = .int .i64 n ∧ tv = .string T ∧ iv = .int .i64 i ∧ i ≤ l.length ∧ S.size ≤ 5 + 3 * i ∧ T.size ≤ 5 + 3 * i ∧ n ≤ 3057647616000000 ∧ Hid (M.SI n i S.data.toList) ∧ Hid (M.TI b i T.data.toList) ∧ Below w.heap.size w wr) (fun _ _ _ iv _ => l.length - (intOf iv).toNat)
  case atStart => exact ⟨0, f, BF, BF, rfl, rfl, rfl, rfl, Nat.zero_le _, hs0, hs0, by omega, HS0.out, HT0.out, hb1.trans (hb2.mono hb1.size)⟩
  case round =>
    obtain ⟨i, n, S, T, rfl, rfl, rfl, rfl, hi, hSs, hTs, hnb, HS, HT, hbw⟩ := hrel
    clear HS0 HT0 hs0 hb1 hb2 hbd g1 g2 g2' g3 g3'
    by_cases hlt : i < l.length
    · have hltd : decide ((i : Int) < (l.length : Int)) = true := by simp; omega
      have hltd2 : decide (i < l.length) = true := by simp; omega
      obtain ⟨x, off, rfl, hcl, hbh⟩ := HIN.out (by intro e; rw [e] at hlt; simp at hlt)
      have hc0 := (hbw.cell (p := ⟨x, off + i, none⟩) hbh).trans (hcl i hlt)
      have h256 := l[i].toNat_lt
      generalize l[i].toNat = v at *
      clear hcl
      obtain ⟨p, hp⟩ : ∃ p, v % 60 = p := ⟨_, rfl⟩
      have hp60 : p < 60 := by omega
      have e1 : Int.tmod (v : Int) 60 = (p : Int) := by rw [show (60 : Int) = ((60 : Nat) : Int) from rfl, ← Int.ofNat_tmod, hp]
      have e2 : (v : Int) % 60 = (p : Int) := by omega
      have hw1 : IntKind.i64.wrap (p : Int) = (p : Int) := by rw [IntWalk.i64_in _ (by omega)]
      by_cases hib : i = b
      · by_cases hp10 : p < 10
        · by_cases hv : 127 < v
          · skip
            have k1 : decide ((p : Int) < 10) = true := by simp; omega
            have k2 : decide ((127 : Int) < (v : Int)) = true := by simp; omega
            have k3 : ((i : Int) == (b : Int)) = true := by simp; omega
            have hst := HS.out.step (show M.pr (48 :: M.dg p) = true from (M.pr_nought (by omega)).1)
            rw [show M.val 10 (48 :: M.dg p) = p from (M.pr_nought (by omega)).2] at hst
            have hti := HT.out.bad hib (p := 60 + q) (by omega) (by omega)
            have hbd := hst.bound (by omega)
            rw [← bA_toList (S.data.toList ++ 58 :: (48 :: M.dg p))] at hst
            rw [← bA_toList (T.data.toList ++ 58 :: M.dg (60 + q))] at hti
            have hSS := hst_size hst
            have hTT := hti.1
            rw [bA_toList] at hTT
            have hPl := M.dg_two_len (p := p) (by omega)
            have hQl := M.dg_two_len (p := (60 + q)) (by omega)
            have e5 : S ++ ⟨#[58]⟩ ++ (⟨#[48]⟩ ++ bA (M.dg p)) = bA (S.data.toList ++ 58 :: (48 :: M.dg p)) := by
              apply eq_bA; rw [append_list, append_list, append_list, bA_toList]; simp
            have e6 : T ++ ⟨#[58]⟩ ++ bA (M.dg (60 + q)) = bA (T.data.toList ++ 58 :: M.dg (60 + q)) := by
              apply eq_bA; rw [append_list, append_list, bA_toList]; simp
            rw [← e5] at hst hSS
            rw [← e6] at hti
            have hTT2 : (T ++ ⟨#[58]⟩ ++ bA (M.dg (60 + q))).size ≤ 5 + 3 * (i + 1) := by rw [sz_list]; exact hti.1
            have cT := fun W => text_wide p W (by omega)
            have cQ := fun W => text_wide (60 + q) W (by omega)
            rw [show (((60 + q : Nat)) : Int) = 60 + (q : Int) by omega] at cQ
            have hz1 : (bA (M.dg p)).size ≤ 2 := by rw [bA_size]; exact hPl
            have hz2 : (bA (M.dg (60 + q))).size ≤ 2 := by rw [bA_size]; exact hQl
            have HST := Lib.hid hst
            have HTI := Lib.hid hti
            have HSS := Lib.hid hSS
            have HTT := Lib.hid hTT2
            clear hst hti hSS hTT hTT2 hPl hQl e5 e6 HS HT hp60 hib hp
            generalize bA (M.dg (60 + q)) = BQ at *
            generalize bA (M.dg p) = BP at *
            have ha1 : ∀ W, (Op.stringOp .add S ⟨#[58]⟩).run Tryd.prog W = .ok (.string (S ++ ⟨#[58]⟩)) W := fun W => run_string_add_sum _ _ _ (by show S.size + 1 ≤ _; omega)
            have ha2 : ∀ W, (Op.stringOp .add (S ++ ⟨#[58]⟩) (⟨#[48]⟩ ++ BP)).run Tryd.prog W = .ok (.string (S ++ ⟨#[58]⟩ ++ (⟨#[48]⟩ ++ BP))) W := fun W => run_string_add_sum _ _ _ (by rw [append_sz, append_sz]; show S.size + 1 + (1 + BP.size) ≤ _; omega)
            have ha3 : ∀ W, (Op.stringOp .add T ⟨#[58]⟩).run Tryd.prog W = .ok (.string (T ++ ⟨#[58]⟩)) W := fun W => run_string_add_sum _ _ _ (by show T.size + 1 ≤ _; omega)
            have ha4 : ∀ W, (Op.stringOp .add (T ++ ⟨#[58]⟩) BQ).run Tryd.prog W = .ok (.string (T ++ ⟨#[58]⟩ ++ BQ)) W := fun W => run_string_add_sum _ _ _ (by rw [append_sz]; show T.size + 1 + BQ.size ≤ _; omega)
            have ha5 : ∀ W, (Op.stringOp .add ⟨#[48]⟩ BP).run Tryd.prog W = .ok (.string (⟨#[48]⟩ ++ BP)) W := fun W => run_string_add_sum _ _ _ (by show 1 + BP.size ≤ _; omega)
            go_wp2_with fail
            refine (cT _).mono ?_
            rintro r w3 ⟨rfl, hb3⟩
            have hc3 := (hb3.cell (p := ⟨x, off + i, none⟩) (Nat.lt_of_lt_of_le hbh hbw.size)).trans hc0
            go_wp2_with fail
            refine (cQ _).mono ?_
            rintro r w4 ⟨rfl, hb4⟩
            clear cT cQ
            go_wp2
            have hbz := hbw.trans ((hb3.mono hbw.size).trans (hb4.mono (Nat.le_trans hbw.size hb3.size)))
            go_roundw
            case rel => exact ⟨i + 1, 60 * n + p, _, _, rfl, by go_num, rfl, by go_num, by omega, HSS.out, HTT.out, by omega, HST.out, HTI.out, hbz⟩
            case measure => simp [intOf]; omega
          · skip
            have k1 : decide ((p : Int) < 10) = true := by simp; omega
            have k2 : decide ((127 : Int) < (v : Int)) = false := by simp; omega
            have k3 : ((i : Int) == (b : Int)) = true := by simp; omega
            have hst := HS.out.step (show M.pr (M.dg p) = true from M.pr_dg hp60)
            rw [show M.val 10 (M.dg p) = p from M.dg_val p] at hst
            have hti := HT.out.bad hib (p := 60 + q) (by omega) (by omega)
            have hbd := hst.bound (by omega)
            rw [← bA_toList (S.data.toList ++ 58 :: (M.dg p))] at hst
            rw [← bA_toList (T.data.toList ++ 58 :: M.dg (60 + q))] at hti
            have hSS := hst_size hst
            have hTT := hti.1
            rw [bA_toList] at hTT
            have hPl := M.dg_two_len (p := p) (by omega)
            have hQl := M.dg_two_len (p := (60 + q)) (by omega)
            have e5 : S ++ ⟨#[58]⟩ ++ bA (M.dg p) = bA (S.data.toList ++ 58 :: (M.dg p)) := by
              apply eq_bA; rw [append_list, append_list, bA_toList]; simp
            have e6 : T ++ ⟨#[58]⟩ ++ bA (M.dg (60 + q)) = bA (T.data.toList ++ 58 :: M.dg (60 + q)) := by
              apply eq_bA; rw [append_list, append_list, bA_toList]; simp
            rw [← e5] at hst hSS
            rw [← e6] at hti
            have hTT2 : (T ++ ⟨#[58]⟩ ++ bA (M.dg (60 + q))).size ≤ 5 + 3 * (i + 1) := by rw [sz_list]; exact hti.1
            have cT := fun W => text_wide p W (by omega)
            have cQ := fun W => text_wide (60 + q) W (by omega)
            rw [show (((60 + q : Nat)) : Int) = 60 + (q : Int) by omega] at cQ
            have hz1 : (bA (M.dg p)).size ≤ 2 := by rw [bA_size]; exact hPl
            have hz2 : (bA (M.dg (60 + q))).size ≤ 2 := by rw [bA_size]; exact hQl
            have HST := Lib.hid hst
            have HTI := Lib.hid hti
            have HSS := Lib.hid hSS
            have HTT := Lib.hid hTT2
            clear hst hti hSS hTT hTT2 hPl hQl e5 e6 HS HT hp60 hib hp
            generalize bA (M.dg (60 + q)) = BQ at *
            generalize bA (M.dg p) = BP at *
            have ha1 : ∀ W, (Op.stringOp .add S ⟨#[58]⟩).run Tryd.prog W = .ok (.string (S ++ ⟨#[58]⟩)) W := fun W => run_string_add_sum _ _ _ (by show S.size + 1 ≤ _; omega)
            have ha2 : ∀ W, (Op.stringOp .add (S ++ ⟨#[58]⟩) BP).run Tryd.prog W = .ok (.string (S ++ ⟨#[58]⟩ ++ BP)) W := fun W => run_string_add_sum _ _ _ (by rw [append_sz]; show S.size + 1 + BP.size ≤ _; omega)
            have ha3 : ∀ W, (Op.stringOp .add T ⟨#[58]⟩).run Tryd.prog W = .ok (.string (T ++ ⟨#[58]⟩)) W := fun W => run_string_add_sum _ _ _ (by show T.size + 1 ≤ _; omega)
            have ha4 : ∀ W, (Op.stringOp .add (T ++ ⟨#[58]⟩) BQ).run Tryd.prog W = .ok (.string (T ++ ⟨#[58]⟩ ++ BQ)) W := fun W => run_string_add_sum _ _ _ (by rw [append_sz]; show T.size + 1 + BQ.size ≤ _; omega)
            go_wp2_with fail
            refine (cT _).mono ?_
            rintro r w3 ⟨rfl, hb3⟩
            have hc3 := (hb3.cell (p := ⟨x, off + i, none⟩) (Nat.lt_of_lt_of_le hbh hbw.size)).trans hc0
            go_wp2_with fail
            refine (cQ _).mono ?_
            rintro r w4 ⟨rfl, hb4⟩
            clear cT cQ
            go_wp2
            have hbz := hbw.trans ((hb3.mono hbw.size).trans (hb4.mono (Nat.le_trans hbw.size hb3.size)))
            go_roundw
            case rel => exact ⟨i + 1, 60 * n + p, _, _, rfl, by go_num, rfl, by go_num, by omega, HSS.out, HTT.out, by omega, HST.out, HTI.out, hbz⟩
            case measure => simp [intOf]; omega
        · skip
          have k1 : decide ((p : Int) < 10) = false := by simp; omega
          have k3 : ((i : Int) == (b : Int)) = true := by simp; omega
          have hst := HS.out.step (show M.pr (M.dg p) = true from M.pr_dg hp60)
          rw [show M.val 10 (M.dg p) = p from M.dg_val p] at hst
          have hti := HT.out.bad hib (p := 60 + q) (by omega) (by omega)
          have hbd := hst.bound (by omega)
          rw [← bA_toList (S.data.toList ++ 58 :: (M.dg p))] at hst
          rw [← bA_toList (T.data.toList ++ 58 :: M.dg (60 + q))] at hti
          have hSS := hst_size hst
          have hTT := hti.1
          rw [bA_toList] at hTT
          have hPl := M.dg_two_len (p := p) (by omega)
          have hQl := M.dg_two_len (p := (60 + q)) (by omega)
          have e5 : S ++ ⟨#[58]⟩ ++ bA (M.dg p) = bA (S.data.toList ++ 58 :: (M.dg p)) := by
            apply eq_bA; rw [append_list, append_list, bA_toList]; simp
          have e6 : T ++ ⟨#[58]⟩ ++ bA (M.dg (60 + q)) = bA (T.data.toList ++ 58 :: M.dg (60 + q)) := by
            apply eq_bA; rw [append_list, append_list, bA_toList]; simp
          rw [← e5] at hst hSS
          rw [← e6] at hti
          have hTT2 : (T ++ ⟨#[58]⟩ ++ bA (M.dg (60 + q))).size ≤ 5 + 3 * (i + 1) := by rw [sz_list]; exact hti.1
          have cT := fun W => text_wide p W (by omega)
          have cQ := fun W => text_wide (60 + q) W (by omega)
          rw [show (((60 + q : Nat)) : Int) = 60 + (q : Int) by omega] at cQ
          have hz1 : (bA (M.dg p)).size ≤ 2 := by rw [bA_size]; exact hPl
          have hz2 : (bA (M.dg (60 + q))).size ≤ 2 := by rw [bA_size]; exact hQl
          have HST := Lib.hid hst
          have HTI := Lib.hid hti
          have HSS := Lib.hid hSS
          have HTT := Lib.hid hTT2
          clear hst hti hSS hTT hTT2 hPl hQl e5 e6 HS HT hp60 hib hp
          generalize bA (M.dg (60 + q)) = BQ at *
          generalize bA (M.dg p) = BP at *
          have ha1 : ∀ W, (Op.stringOp .add S ⟨#[58]⟩).run Tryd.prog W = .ok (.string (S ++ ⟨#[58]⟩)) W := fun W => run_string_add_sum _ _ _ (by show S.size + 1 ≤ _; omega)
          have ha2 : ∀ W, (Op.stringOp .add (S ++ ⟨#[58]⟩) BP).run Tryd.prog W = .ok (.string (S ++ ⟨#[58]⟩ ++ BP)) W := fun W => run_string_add_sum _ _ _ (by rw [append_sz]; show S.size + 1 + BP.size ≤ _; omega)
          have ha3 : ∀ W, (Op.stringOp .add T ⟨#[58]⟩).run Tryd.prog W = .ok (.string (T ++ ⟨#[58]⟩)) W := fun W => run_string_add_sum _ _ _ (by show T.size + 1 ≤ _; omega)
          have ha4 : ∀ W, (Op.stringOp .add (T ++ ⟨#[58]⟩) BQ).run Tryd.prog W = .ok (.string (T ++ ⟨#[58]⟩ ++ BQ)) W := fun W => run_string_add_sum _ _ _ (by rw [append_sz]; show T.size + 1 + BQ.size ≤ _; omega)
          go_wp2_with fail
          refine (cT _).mono ?_
          rintro r w3 ⟨rfl, hb3⟩
          have hc3 := (hb3.cell (p := ⟨x, off + i, none⟩) (Nat.lt_of_lt_of_le hbh hbw.size)).trans hc0
          go_wp2_with fail
          refine (cQ _).mono ?_
          rintro r w4 ⟨rfl, hb4⟩
          clear cT cQ
          go_wp2
          have hbz := hbw.trans ((hb3.mono hbw.size).trans (hb4.mono (Nat.le_trans hbw.size hb3.size)))
          go_roundw
          case rel => exact ⟨i + 1, 60 * n + p, _, _, rfl, by go_num, rfl, by go_num, by omega, HSS.out, HTT.out, by omega, HST.out, HTI.out, hbz⟩
          case measure => simp [intOf]; omega
      · by_cases hp10 : p < 10
        · by_cases hv : 127 < v
          · skip
            have k1 : decide ((p : Int) < 10) = true := by simp; omega
            have k2 : decide ((127 : Int) < (v : Int)) = true := by simp; omega
            have k3 : ((i : Int) == (b : Int)) = false := by simp; omega
            have hst := HS.out.step (show M.pr (48 :: M.dg p) = true from (M.pr_nought (by omega)).1)
            rw [show M.val 10 (48 :: M.dg p) = p from (M.pr_nought (by omega)).2] at hst
            have hti := HT.out.good hib hp60
            have hbd := hst.bound (by omega)
            rw [← bA_toList (S.data.toList ++ 58 :: (48 :: M.dg p))] at hst
            rw [← bA_toList (T.data.toList ++ 58 :: M.dg p)] at hti
            have hSS := hst_size hst
            have hTT := hti.1
            rw [bA_toList] at hTT
            have hPl := M.dg_two_len (p := p) (by omega)
            have hQl := M.dg_two_len (p := p) (by omega)
            have e5 : S ++ ⟨#[58]⟩ ++ (⟨#[48]⟩ ++ bA (M.dg p)) = bA (S.data.toList ++ 58 :: (48 :: M.dg p)) := by
              apply eq_bA; rw [append_list, append_list, append_list, bA_toList]; simp
            have e6 : T ++ ⟨#[58]⟩ ++ bA (M.dg p) = bA (T.data.toList ++ 58 :: M.dg p) := by
              apply eq_bA; rw [append_list, append_list, bA_toList]; simp
            rw [← e5] at hst hSS
            rw [← e6] at hti
            have hTT2 : (T ++ ⟨#[58]⟩ ++ bA (M.dg p)).size ≤ 5 + 3 * (i + 1) := by rw [sz_list]; exact hti.1
            have cT := fun W => text_wide p W (by omega)
            have hz1 : (bA (M.dg p)).size ≤ 2 := by rw [bA_size]; exact hPl
            have hz2 : (bA (M.dg p)).size ≤ 2 := by rw [bA_size]; exact hQl
            have HST := Lib.hid hst
            have HTI := Lib.hid hti
            have HSS := Lib.hid hSS
            have HTT := Lib.hid hTT2
            clear hst hti hSS hTT hTT2 hPl hQl e5 e6 HS HT hp60 hib hp
            generalize bA (M.dg p) = BP at *
            have ha1 : ∀ W, (Op.stringOp .add S ⟨#[58]⟩).run Tryd.prog W = .ok (.string (S ++ ⟨#[58]⟩)) W := fun W => run_string_add_sum _ _ _ (by show S.size + 1 ≤ _; omega)
            have ha2 : ∀ W, (Op.stringOp .add (S ++ ⟨#[58]⟩) (⟨#[48]⟩ ++ BP)).run Tryd.prog W = .ok (.string (S ++ ⟨#[58]⟩ ++ (⟨#[48]⟩ ++ BP))) W := fun W => run_string_add_sum _ _ _ (by rw [append_sz, append_sz]; show S.size + 1 + (1 + BP.size) ≤ _; omega)
            have ha3 : ∀ W, (Op.stringOp .add T ⟨#[58]⟩).run Tryd.prog W = .ok (.string (T ++ ⟨#[58]⟩)) W := fun W => run_string_add_sum _ _ _ (by show T.size + 1 ≤ _; omega)
            have ha4 : ∀ W, (Op.stringOp .add (T ++ ⟨#[58]⟩) BP).run Tryd.prog W = .ok (.string (T ++ ⟨#[58]⟩ ++ BP)) W := fun W => run_string_add_sum _ _ _ (by rw [append_sz]; show T.size + 1 + BP.size ≤ _; omega)
            have ha5 : ∀ W, (Op.stringOp .add ⟨#[48]⟩ BP).run Tryd.prog W = .ok (.string (⟨#[48]⟩ ++ BP)) W := fun W => run_string_add_sum _ _ _ (by show 1 + BP.size ≤ _; omega)
            go_wp2_with fail
            refine (cT _).mono ?_
            rintro r w3 ⟨rfl, hb3⟩
            have hc3 := (hb3.cell (p := ⟨x, off + i, none⟩) (Nat.lt_of_lt_of_le hbh hbw.size)).trans hc0
            go_wp2_with fail
            refine (cT _).mono ?_
            rintro r w4 ⟨rfl, hb4⟩
            clear cT 
            go_wp2
            have hbz := hbw.trans ((hb3.mono hbw.size).trans (hb4.mono (Nat.le_trans hbw.size hb3.size)))
            go_roundw
            case rel => exact ⟨i + 1, 60 * n + p, _, _, rfl, by go_num, rfl, by go_num, by omega, HSS.out, HTT.out, by omega, HST.out, HTI.out, hbz⟩
            case measure => simp [intOf]; omega
          · skip
            have k1 : decide ((p : Int) < 10) = true := by simp; omega
            have k2 : decide ((127 : Int) < (v : Int)) = false := by simp; omega
            have k3 : ((i : Int) == (b : Int)) = false := by simp; omega
            have hst := HS.out.step (show M.pr (M.dg p) = true from M.pr_dg hp60)
            rw [show M.val 10 (M.dg p) = p from M.dg_val p] at hst
            have hti := HT.out.good hib hp60
            have hbd := hst.bound (by omega)
            rw [← bA_toList (S.data.toList ++ 58 :: (M.dg p))] at hst
            rw [← bA_toList (T.data.toList ++ 58 :: M.dg p)] at hti
            have hSS := hst_size hst
            have hTT := hti.1
            rw [bA_toList] at hTT
            have hPl := M.dg_two_len (p := p) (by omega)
            have hQl := M.dg_two_len (p := p) (by omega)
            have e5 : S ++ ⟨#[58]⟩ ++ bA (M.dg p) = bA (S.data.toList ++ 58 :: (M.dg p)) := by
              apply eq_bA; rw [append_list, append_list, bA_toList]; simp
            have e6 : T ++ ⟨#[58]⟩ ++ bA (M.dg p) = bA (T.data.toList ++ 58 :: M.dg p) := by
              apply eq_bA; rw [append_list, append_list, bA_toList]; simp
            rw [← e5] at hst hSS
            rw [← e6] at hti
            have hTT2 : (T ++ ⟨#[58]⟩ ++ bA (M.dg p)).size ≤ 5 + 3 * (i + 1) := by rw [sz_list]; exact hti.1
            have cT := fun W => text_wide p W (by omega)
            have hz1 : (bA (M.dg p)).size ≤ 2 := by rw [bA_size]; exact hPl
            have hz2 : (bA (M.dg p)).size ≤ 2 := by rw [bA_size]; exact hQl
            have HST := Lib.hid hst
            have HTI := Lib.hid hti
            have HSS := Lib.hid hSS
            have HTT := Lib.hid hTT2
            clear hst hti hSS hTT hTT2 hPl hQl e5 e6 HS HT hp60 hib hp
            generalize bA (M.dg p) = BP at *
            have ha1 : ∀ W, (Op.stringOp .add S ⟨#[58]⟩).run Tryd.prog W = .ok (.string (S ++ ⟨#[58]⟩)) W := fun W => run_string_add_sum _ _ _ (by show S.size + 1 ≤ _; omega)
            have ha2 : ∀ W, (Op.stringOp .add (S ++ ⟨#[58]⟩) BP).run Tryd.prog W = .ok (.string (S ++ ⟨#[58]⟩ ++ BP)) W := fun W => run_string_add_sum _ _ _ (by rw [append_sz]; show S.size + 1 + BP.size ≤ _; omega)
            have ha3 : ∀ W, (Op.stringOp .add T ⟨#[58]⟩).run Tryd.prog W = .ok (.string (T ++ ⟨#[58]⟩)) W := fun W => run_string_add_sum _ _ _ (by show T.size + 1 ≤ _; omega)
            have ha4 : ∀ W, (Op.stringOp .add (T ++ ⟨#[58]⟩) BP).run Tryd.prog W = .ok (.string (T ++ ⟨#[58]⟩ ++ BP)) W := fun W => run_string_add_sum _ _ _ (by rw [append_sz]; show T.size + 1 + BP.size ≤ _; omega)
            go_wp2_with fail
            refine (cT _).mono ?_
            rintro r w3 ⟨rfl, hb3⟩
            have hc3 := (hb3.cell (p := ⟨x, off + i, none⟩) (Nat.lt_of_lt_of_le hbh hbw.size)).trans hc0
            go_wp2_with fail
            refine (cT _).mono ?_
            rintro r w4 ⟨rfl, hb4⟩
            clear cT 
            go_wp2
            have hbz := hbw.trans ((hb3.mono hbw.size).trans (hb4.mono (Nat.le_trans hbw.size hb3.size)))
            go_roundw
            case rel => exact ⟨i + 1, 60 * n + p, _, _, rfl, by go_num, rfl, by go_num, by omega, HSS.out, HTT.out, by omega, HST.out, HTI.out, hbz⟩
            case measure => simp [intOf]; omega
        · skip
          have k1 : decide ((p : Int) < 10) = false := by simp; omega
          have k3 : ((i : Int) == (b : Int)) = false := by simp; omega
          have hst := HS.out.step (show M.pr (M.dg p) = true from M.pr_dg hp60)
          rw [show M.val 10 (M.dg p) = p from M.dg_val p] at hst
          have hti := HT.out.good hib hp60
          have hbd := hst.bound (by omega)
          rw [← bA_toList (S.data.toList ++ 58 :: (M.dg p))] at hst
          rw [← bA_toList (T.data.toList ++ 58 :: M.dg p)] at hti
          have hSS := hst_size hst
          have hTT := hti.1
          rw [bA_toList] at hTT
          have hPl := M.dg_two_len (p := p) (by omega)
          have hQl := M.dg_two_len (p := p) (by omega)
          have e5 : S ++ ⟨#[58]⟩ ++ bA (M.dg p) = bA (S.data.toList ++ 58 :: (M.dg p)) := by
            apply eq_bA; rw [append_list, append_list, bA_toList]; simp
          have e6 : T ++ ⟨#[58]⟩ ++ bA (M.dg p) = bA (T.data.toList ++ 58 :: M.dg p) := by
            apply eq_bA; rw [append_list, append_list, bA_toList]; simp
          rw [← e5] at hst hSS
          rw [← e6] at hti
          have hTT2 : (T ++ ⟨#[58]⟩ ++ bA (M.dg p)).size ≤ 5 + 3 * (i + 1) := by rw [sz_list]; exact hti.1
          have cT := fun W => text_wide p W (by omega)
          have hz1 : (bA (M.dg p)).size ≤ 2 := by rw [bA_size]; exact hPl
          have hz2 : (bA (M.dg p)).size ≤ 2 := by rw [bA_size]; exact hQl
          have HST := Lib.hid hst
          have HTI := Lib.hid hti
          have HSS := Lib.hid hSS
          have HTT := Lib.hid hTT2
          clear hst hti hSS hTT hTT2 hPl hQl e5 e6 HS HT hp60 hib hp
          generalize bA (M.dg p) = BP at *
          have ha1 : ∀ W, (Op.stringOp .add S ⟨#[58]⟩).run Tryd.prog W = .ok (.string (S ++ ⟨#[58]⟩)) W := fun W => run_string_add_sum _ _ _ (by show S.size + 1 ≤ _; omega)
          have ha2 : ∀ W, (Op.stringOp .add (S ++ ⟨#[58]⟩) BP).run Tryd.prog W = .ok (.string (S ++ ⟨#[58]⟩ ++ BP)) W := fun W => run_string_add_sum _ _ _ (by rw [append_sz]; show S.size + 1 + BP.size ≤ _; omega)
          have ha3 : ∀ W, (Op.stringOp .add T ⟨#[58]⟩).run Tryd.prog W = .ok (.string (T ++ ⟨#[58]⟩)) W := fun W => run_string_add_sum _ _ _ (by show T.size + 1 ≤ _; omega)
          have ha4 : ∀ W, (Op.stringOp .add (T ++ ⟨#[58]⟩) BP).run Tryd.prog W = .ok (.string (T ++ ⟨#[58]⟩ ++ BP)) W := fun W => run_string_add_sum _ _ _ (by rw [append_sz]; show T.size + 1 + BP.size ≤ _; omega)
          go_wp2_with fail
          refine (cT _).mono ?_
          rintro r w3 ⟨rfl, hb3⟩
          have hc3 := (hb3.cell (p := ⟨x, off + i, none⟩) (Nat.lt_of_lt_of_le hbh hbw.size)).trans hc0
          go_wp2_with fail
          refine (cT _).mono ?_
          rintro r w4 ⟨rfl, hb4⟩
          clear cT 
          go_wp2
          have hbz := hbw.trans ((hb3.mono hbw.size).trans (hb4.mono (Nat.le_trans hbw.size hb3.size)))
          go_roundw
          case rel => exact ⟨i + 1, 60 * n + p, _, _, rfl, by go_num, rfl, by go_num, by omega, HSS.out, HTT.out, by omega, HST.out, HTI.out, hbz⟩
          case measure => simp [intOf]; omega
    · obtain rfl : l.length = i := by omega
      have hltd : decide ((l.length : Int) < (l.length : Int)) = false := by simp
      have hltd2 : decide (l.length < l.length) = false := by simp
      have hfin := HS.out.fB hl1
      have hti := HT.out.form hbl
      obtain ⟨d, r, hU, hd⟩ := HS.out.head
      have hsays := sign_says S.data.toList 6 n (by omega) hfin ⟨d, r, hU, hd⟩
      have hform := hsays.2.2.1
      have hn1 := HS.out.pos
      have hdl : (M.dg n).length ≤ 16 := M.dg_len_le n 16 (by omega) (by omega)
      have cT := fun W => text_wide n W (by omega)
      have cF := fun W => form_any S W (by omega)
      rw [hform] at cF
      have cG := fun W => form_any T W (by omega)
      rw [hti] at cG
      have cA := fun W => is_any (S ++ ⟨#[58]⟩) W (by rw [append_sz]; show S.size + 1 ≤ 1000; omega)
      rw [append_list, show S.data.toList ++ (⟨#[58]⟩ : ByteArray).data.toList = S.data.toList ++ 58 :: [] from rfl, (M.TB.start HS.out (Q := []) (by decide)).form, decide_eq_false (by simp)] at cA
      have cB := fun W => is_any (⟨#[58]⟩ ++ S) W (by rw [append_sz]; show 1 + S.size ≤ 1000; omega)
      rw [append_list, show (⟨#[58]⟩ : ByteArray).data.toList ++ S.data.toList = 58 :: S.data.toList from rfl, M.form_else _ (by decide) (by decide), M.fB_bad _ _ (by decide), decide_eq_false (by simp)] at cB
      have cC := fun W => is_any (S ++ ⟨#[58, 48, 48, 48]⟩) W (by rw [append_sz]; show S.size + 4 ≤ 1000; omega)
      rw [append_list, show S.data.toList ++ (⟨#[58, 48, 48, 48]⟩ : ByteArray).data.toList = S.data.toList ++ 58 :: [48, 48, 48] from rfl, (M.TB.start HS.out (Q := [48, 48, 48]) (by decide)).form, decide_eq_false (by simp)] at cC
      have hb1 : ∀ W, (Op.stringOp .add S ⟨#[58]⟩).run Tryd.prog W = .ok (.string (S ++ ⟨#[58]⟩)) W := fun W => run_string_add_sum _ _ _ (by show S.size + 1 ≤ _; omega)
      have hb2 : ∀ W, (Op.stringOp .add ⟨#[58]⟩ S).run Tryd.prog W = .ok (.string (⟨#[58]⟩ ++ S)) W := fun W => run_string_add_sum _ _ _ (by show 1 + S.size ≤ _; omega)
      have hb3 : ∀ W, (Op.stringOp .add S ⟨#[58, 48, 48, 48]⟩).run Tryd.prog W = .ok (.string (S ++ ⟨#[58, 48, 48, 48]⟩)) W := fun W => run_string_add_sum _ _ _ (by show S.size + 4 ≤ _; omega)
      clear HIN
      cases neg with
      | true =>
        have c1 := fun W hW => of_yes ((⟨#[45]⟩ : ByteArray) ++ S) W hW (by rw [append_sz]; show 1 + S.size ≤ 990; omega) (by rw [append_list, show (⟨#[45]⟩ : ByteArray).data.toList ++ S.data.toList = 45 :: S.data.toList from rfl, hsays.2.1.1]; omega)
        rw [append_list, show (⟨#[45]⟩ : ByteArray).data.toList ++ S.data.toList = 45 :: S.data.toList from rfl, hsays.2.1.2, tx_minus n hn1] at c1
        have ha1 : ∀ W, (Op.stringOp .add (⟨#[45]⟩ : ByteArray) S).run Tryd.prog W = .ok (.string ((⟨#[45]⟩ : ByteArray) ++ S)) W := fun W => run_string_add_sum _ _ _ (by show 1 + S.size ≤ _; omega)
        have ha5 : ∀ W, (Op.stringOp .add (⟨#[45]⟩ : ByteArray) (bA (M.dg n))).run Tryd.prog W = .ok (.string ((⟨#[45]⟩ : ByteArray) ++ bA (M.dg n))) W := fun W => run_string_add_sum _ _ _ (by rw [bA_size]; show 1 + _ ≤ _; omega)
        clear hsays hdl HS HT hn1 hfin hform hti
        generalize bA (M.dg n) = TN at *
        go_wp2_with fail
        refine (cT _).mono ?_
        rintro r w2 ⟨rfl, hb2⟩
        have B2 := hbw.trans (hb2.mono hbw.size)
        go_wp2_with fail
        refine (c1 _ (he.next B2)).mono ?_
        rintro r w3 ⟨rfl, hb3⟩
        have B3 := B2.trans (hb3.mono B2.size)
        go_wp2_with fail
        refine (cF _).mono ?_
        rintro r w' ⟨rfl, rfl⟩
        go_wp2_with fail
        refine (cG _).mono ?_
        rintro r w' ⟨rfl, rfl⟩
        go_wp2_with fail
        refine (cA _).mono ?_
        rintro r w' ⟨rfl, rfl⟩
        go_wp2_with fail
        refine (cB _).mono ?_
        rintro r w' ⟨rfl, rfl⟩
        go_wp2_with fail
        refine (cC _).mono ?_
        rintro r w' ⟨rfl, rfl⟩
        clear c1 cT cF cG cA cB cC
        go_wp2
        go_ret
        exact ⟨rfl, B3⟩
      | false =>
        have c1 := fun W hW => of_yes ((⟨#[]⟩ : ByteArray) ++ S) W hW (by rw [append_sz]; show 0 + S.size ≤ 990; omega) (by rw [append_list, show (⟨#[]⟩ : ByteArray).data.toList ++ S.data.toList = S.data.toList from rfl, hsays.2.2.1]; omega)
        rw [append_list, show (⟨#[]⟩ : ByteArray).data.toList ++ S.data.toList = S.data.toList from rfl, hsays.2.2.2, tx_plus n] at c1
        have ha1 : ∀ W, (Op.stringOp .add (⟨#[]⟩ : ByteArray) S).run Tryd.prog W = .ok (.string ((⟨#[]⟩ : ByteArray) ++ S)) W := fun W => run_string_add_sum _ _ _ (by show 0 + S.size ≤ _; omega)
        clear hsays hdl HS HT hn1 hfin hform hti
        generalize bA (M.dg n) = TN at *
        go_wp2_with fail
        refine (cT _).mono ?_
        rintro r w2 ⟨rfl, hb2⟩
        have B2 := hbw.trans (hb2.mono hbw.size)
        go_wp2_with fail
        refine (c1 _ (he.next B2)).mono ?_
        rintro r w3 ⟨rfl, hb3⟩
        have B3 := B2.trans (hb3.mono B2.size)
        go_wp2_with fail
        refine (cF _).mono ?_
        rintro r w' ⟨rfl, rfl⟩
        go_wp2_with fail
        refine (cG _).mono ?_
        rintro r w' ⟨rfl, rfl⟩
        go_wp2_with fail
        refine (cA _).mono ?_
        rintro r w' ⟨rfl, rfl⟩
        go_wp2_with fail
        refine (cB _).mono ?_
        rintro r w' ⟨rfl, rfl⟩
        go_wp2_with fail
        refine (cC _).mono ?_
        rintro r w' ⟨rfl, rfl⟩
        clear c1 cT cF cG cA cB cC
        go_wp2
        go_ret
        exact ⟨rfl, B3⟩
set_option maxRecDepth 100000 in
theorem sixty_none (f B : Nat) (a : Option Addr) (cap : Nat) (l : List UInt8) (neg : Bool) (w : World) (he : Env w) (hf2 : f < 65536) (h : f = 0 ∨ l.length < 1 ∨ 6 < l.length) :
    Calls Tryd.prog 5 #[.int .u16 f, .slice a l.length cap, .bool neg, .int .u8 B] w fun e w' => e = .returned (.bool true) ∧ Below w.heap.size w w' := by
  by_cases h0 : f = 0
  · subst h0
    clear h hf2
    go_enter Tryd.func5, Tryd.ntmps5
    go_wp2_with fail
    refine (known_any _ he).mono ?_
    rintro r w1 ⟨rfl, hb1⟩
    go_wp2
    go_ret
    exact ⟨rfl, hb1⟩
  · have g1 : ((f : Int) == 0) = false := by simp; omega
    by_cases h1 : l.length < 1
    · have g2 : decide ((l.length : Int) < 1) = true := by simp; omega
      have g2' : decide (l.length < 1) = true := decide_eq_true h1
      clear h h1 h0
      go_enter Tryd.func5, Tryd.ntmps5
      go_wp2_with fail
      refine (known_any _ he).mono ?_
      rintro r w1 ⟨rfl, hb1⟩
      go_wp2
      go_ret
      exact ⟨rfl, hb1⟩
    · have g2 : decide ((l.length : Int) < 1) = false := by simp; omega
      have g2' : decide (l.length < 1) = false := decide_eq_false (by omega)
      have g3 : decide ((6 : Int) < (l.length : Int)) = true := by simp; omega
      have g3' : decide (6 < l.length) = true := by simp; omega
      clear h h1 h0
      go_enter Tryd.func5, Tryd.ntmps5
      go_wp2_with fail
      refine (known_any _ he).mono ?_
      rintro r w1 ⟨rfl, hb1⟩
      go_wp2
      go_ret
      exact ⟨rfl, hb1⟩
theorem sixty_any (f : Nat) (a : Option Addr) (cap : Nat) (l : List UInt8) (neg : Bool) (B : Nat) (w : World) (he : Env w) (hf : f ≤ 65535) (hin : InB w a l) (hB : B ≤ 255) :
    Calls Tryd.prog 5 #[.int .u16 f, .slice a l.length cap, .bool neg, .int .u8 B] w fun e w' => e = .returned (.bool true) ∧ Below w.heap.size w w' := by
  by_cases h : f = 0 ∨ l.length < 1 ∨ 6 < l.length
  · exact sixty_none f B a cap l neg w he (by omega) h
  · exact sixty_core f B a cap l neg w he hin (by omega) (by omega) (by omega) (by omega) hB
end Go.Proofs.YthgkmcidlcdjlaaDoor
