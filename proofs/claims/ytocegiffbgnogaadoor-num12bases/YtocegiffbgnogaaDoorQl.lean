/- The law Num12Bases at the base 10: its walk. -/
import Derived.Test.YtocegiffbgnogaaDoorQh
import Derived.Deep.QuietTactic
set_option linter.unusedVariables false
namespace Go.Proofs.YtocegiffbgnogaaDoor
open Go.RowKit

set_option maxRecDepth 100000 in
set_option maxHeartbeats 8000000 in
theorem bases_10 (n B Z : Nat) (neg : Bool) (w : World) (he : Env w) (hn : n < 4294967296) (hB : B % 3 = 2) (hZ : Z ≤ 255) :
    Calls Tryd.prog 5 #[.int .u32 n, .int .u8 B, .int .u8 Z, .bool neg] w fun e w' => e = .returned (.bool true) ∧ Below w.heap.size w w' := by
  have hB4 : (B : Int) % 3 = 2 := by omega
  obtain ⟨m, hm⟩ : ∃ m, Z % 9 = m := ⟨_, rfl⟩
  have hmb : m < 9 := by omega
  have hme : (Z : Int) % 9 = (m : Int) := by omega
  clear hm hB
  go_enter Tryd.func5, Tryd.ntmps5
  go_wp2_with fail
  refine (known_any _ he).mono ?_
  rintro r w1 ⟨rfl, hb1⟩
  go_wp2_with fail
  go_loopw [11, 12] (fun sv kv wr => ∃ (k : Nat) (S : List UInt8), sv = .string (bA S) ∧ kv = .int .i64 k ∧ k < 4294967296 ∧ S.length ≤ 32 ∧ Hid (M.BS 10 n k S) ∧ Below w.heap.size w wr) (fun sv kv _ => 2 * (intOf kv).toNat + (match sv with | .string t => if t.size = 0 then 1 else 0 | _ => 0))
  case atStart => exact ⟨n, [], rfl, rfl, hn, by decide, M.BS.start 10 n, hb1⟩
  case round =>
    obtain ⟨k, S, rfl, rfl, hk, hSl, HBS, hbw⟩ := hrel
    by_cases hk0 : 0 < k
    · have hroom := M.BS.room HBS.out (by omega) hn hk0
      have d1 : decide ((0 : Int) < (k : Int)) = true := by simp; omega
      have d1n : decide (0 < k) = true := by simp; omega
      have hst := M.BS.step HBS.out (by omega) (by omega)
      have HST := Lib.hid hst
      obtain ⟨q, hq⟩ : ∃ q, k % 10 = q := ⟨_, rfl⟩
      obtain ⟨kd, hkd⟩ : ∃ kd, k / 10 = kd := ⟨_, rfl⟩
      have hq16 : q < 10 := by omega
      have hkd2 : kd < 4294967296 := by omega
      have hmeas : 2 * kd + 0 < 2 * k + (if (bA S).size = 0 then 1 else 0) := by split <;> omega
      rw [hq, hkd] at HST
      have e1 : Int.tmod (k : Int) 10 = (q : Int) := by rw [show (10 : Int) = ((10 : Nat) : Int) from rfl, ← Int.ofNat_tmod, hq]
      have e2 : (k : Int) % 10 = (q : Int) := by omega
      have e3 : Int.tdiv (k : Int) 10 = (kd : Int) := by rw [show (10 : Int) = ((10 : Nat) : Int) from rfl, ← Int.ofNat_tdiv, hkd]
      have e4 : (k : Int) / 10 = (kd : Int) := by omega
      have hw1 : IntKind.i64.wrap ((q : Int) + 1) = (q : Int) + 1 := by rw [IntWalk.i64_in _ (by omega)]
      have hw2 : IntKind.i64.wrap (q : Int) = (q : Int) := by rw [IntWalk.i64_in _ (by omega)]
      have hb1q : (q : Int) ≤ (q : Int) + 1 := by omega
      have hb2q : (q : Int) + 1 ≤ 16 := by omega
      have hb0q : (0 : Int) ≤ (q : Int) := by omega
      have hX := sig16 q (by omega)
      have hadd : ∀ W, (Op.stringOp .add (bA [M.dch q]) (bA S)).run Tryd.prog W = .ok (.string (bA (M.dch q :: S))) W := fun W => by
        rw [run_string_add_sum _ _ _ (by rw [bA_size, bA_size]; simp; omega), bA_append]; rfl
      have hlen2 : S.length + 1 ≤ 32 := by omega
      have hsz2 : (bA (M.dch q :: S)).size = S.length + 1 := by rw [bA_size]; rfl
      clear hst hq hkd
      generalize hNb : bA (M.dch q :: S) = BN at *
      generalize hXb : bA [M.dch q] = XD at *
      generalize hSb : bA S = BS at *
      have HNb := Lib.hid hNb
      have HM := Lib.hid hmeas
      have HZ := Lib.hid hsz2
      clear hNb hXb hmeas hsz2
      go_wp2_with fail
      go_quiet (fail)
      go_wp2
      go_roundw
      case rel => exact ⟨kd, M.dch q :: S, by rw [HNb.out], by go_num, hkd2, by simp only [List.length_cons]; omega, HST.out, below_dN hbw _⟩
      case measure =>
        have h1 := HM.out
        have h2 := HZ.out
        simp only [intOf]
        rw [if_neg (show ¬ BN.size = 0 by omega)]
        simpa using h1
    · by_cases hS : S = []
      · have hem : ((bA S).toList == []) = true := by rw [ByteArray.toList_eq, bA_toList, hS]; rfl
        have hem2 : (bA S).toList.isEmpty = true := by rw [ByteArray.toList_eq, bA_toList, hS]; rfl
        have hroom : S.length = 0 := by rw [hS]; rfl
        have d1 : decide ((0 : Int) < (k : Int)) = false := by simp; omega
        have d1n : decide (0 < k) = false := by simp; omega
        have hst := M.BS.step HBS.out (by omega) (by omega)
        have HST := Lib.hid hst
        obtain ⟨q, hq⟩ : ∃ q, k % 10 = q := ⟨_, rfl⟩
        obtain ⟨kd, hkd⟩ : ∃ kd, k / 10 = kd := ⟨_, rfl⟩
        have hq16 : q < 10 := by omega
        have hkd2 : kd < 4294967296 := by omega
        have hmeas : 2 * kd + 0 < 2 * k + (if (bA S).size = 0 then 1 else 0) := by rw [if_pos (by rw [bA_size, hS]; rfl)]; omega
        rw [hq, hkd] at HST
        have e1 : Int.tmod (k : Int) 10 = (q : Int) := by rw [show (10 : Int) = ((10 : Nat) : Int) from rfl, ← Int.ofNat_tmod, hq]
        have e2 : (k : Int) % 10 = (q : Int) := by omega
        have e3 : Int.tdiv (k : Int) 10 = (kd : Int) := by rw [show (10 : Int) = ((10 : Nat) : Int) from rfl, ← Int.ofNat_tdiv, hkd]
        have e4 : (k : Int) / 10 = (kd : Int) := by omega
        have hw1 : IntKind.i64.wrap ((q : Int) + 1) = (q : Int) + 1 := by rw [IntWalk.i64_in _ (by omega)]
        have hw2 : IntKind.i64.wrap (q : Int) = (q : Int) := by rw [IntWalk.i64_in _ (by omega)]
        have hb1q : (q : Int) ≤ (q : Int) + 1 := by omega
        have hb2q : (q : Int) + 1 ≤ 16 := by omega
        have hb0q : (0 : Int) ≤ (q : Int) := by omega
        have hX := sig16 q (by omega)
        have hadd : ∀ W, (Op.stringOp .add (bA [M.dch q]) (bA S)).run Tryd.prog W = .ok (.string (bA (M.dch q :: S))) W := fun W => by
          rw [run_string_add_sum _ _ _ (by rw [bA_size, bA_size]; simp; omega), bA_append]; rfl
        have hlen2 : S.length + 1 ≤ 32 := by omega
        have hsz2 : (bA (M.dch q :: S)).size = S.length + 1 := by rw [bA_size]; rfl
        clear hst hq hkd
        generalize hNb : bA (M.dch q :: S) = BN at *
        generalize hXb : bA [M.dch q] = XD at *
        generalize hSb : bA S = BS at *
        have HNb := Lib.hid hNb
        have HM := Lib.hid hmeas
        have HZ := Lib.hid hsz2
        clear hNb hXb hmeas hsz2
        go_wp2_with fail
        go_quiet (fail)
        go_wp2
        go_roundw
        case rel => exact ⟨kd, M.dch q :: S, by rw [HNb.out], by go_num, hkd2, by simp only [List.length_cons]; omega, HST.out, below_dN hbw _⟩
        case measure =>
          have h1 := HM.out
          have h2 := HZ.out
          simp only [intOf]
          rw [if_neg (show ¬ BN.size = 0 by omega)]
          simpa using h1
      · skip
        have d1 : decide ((0 : Int) < (k : Int)) = false := by simp; omega
        have d1n : decide (0 < k) = false := by simp; omega
        have hem : ((bA S).toList == []) = false := by rw [ByteArray.toList_eq, bA_toList]; exact beq_eq_false_iff_ne.2 hS
        have hem2 : (bA S).toList.isEmpty = false := by
          rw [ByteArray.toList_eq, bA_toList]
          cases S with
          | nil => exact absurd rfl hS
          | cons a b => rfl
        obtain rfl : k = 0 := by omega
        have HO := Lib.hid (HBS.out.ok hS)
        have hSz : (bA S).size = S.length := bA_size S
        clear HBS hS hb1
        go_wp2_with fail
        go_loopw [11, 13] (fun sv iv wr => ∃ (i : Nat), sv = .string (bA (List.replicate i 48 ++ S)) ∧ iv = .int .i64 i ∧ i ≤ m ∧ Below w.heap.size w wr) (fun _ iv _ => m - (intOf iv).toNat)
        case atStart => exact ⟨0, rfl, rfl, Nat.zero_le _, hbw⟩
        case round =>
          clear hbw
          obtain ⟨i, rfl, rfl, him, hbw⟩ := hrel
          by_cases hlt : i < m
          · have hltd : decide ((i : Int) < (m : Int)) = true := by simp; omega
            have hltd2 : decide (i < m) = true := by simp; omega
            have hadd : ∀ W, (Op.stringOp .add ⟨#[48]⟩ (bA (List.replicate i 48 ++ S))).run Tryd.prog W = .ok (.string (bA (List.replicate (i + 1) 48 ++ S))) W := fun W => by
              rw [run_string_add_sum _ _ _ (by rw [bA_size, List.length_append, List.length_replicate]; show 1 + (i + S.length) ≤ _; omega), show (⟨#[48]⟩ : ByteArray) = bA [48] from rfl, bA_append]; rfl
            generalize hB1 : bA (List.replicate (i + 1) 48 ++ S) = BN at *
            have HB1 := Lib.hid hB1
            clear hB1 hem hem2 hSz
            generalize bA (List.replicate i 48 ++ S) = BO at *
            go_wp2
            go_roundw
            case rel => exact ⟨i + 1, by rw [HB1.out], by go_num, by omega, hbw⟩
            case measure => simp [intOf]; omega
          · obtain rfl : i = m := by omega
            have hltd : decide ((i : Int) < (i : Int)) = false := by simp
            have hltd2 : decide (i < i) = false := by simp
            clear hem hem2 hSz
            have hTo : M.okD 10 (List.replicate i 48 ++ S) = true ∧ M.val 10 (List.replicate i 48 ++ S) = n := by
              obtain ⟨z1, z2⟩ := M.zeros_ok (b := 10) (by omega) i HO.out.1
              exact ⟨z1, z2.trans HO.out.2⟩
            have hTl : (List.replicate i 48 ++ S).length ≤ 50 := by rw [List.length_append, List.length_replicate]; omega
            obtain ⟨T, hT⟩ : ∃ T, List.replicate i 48 ++ S = T := ⟨_, rfl⟩
            rw [hT] at hTo hTl ⊢
            clear hT HO
            obtain ⟨hTo, hTv⟩ := hTo
            have hl1 : (⟨#[]⟩ ++ bA T : ByteArray).data.toList = T := by rw [append_list, bA_toList]; rfl
            have hz1 : (⟨#[]⟩ ++ bA T : ByteArray).size ≤ 60 := by rw [append_sz, bA_size]; show 0 + T.length ≤ 60; omega
            have hiv : M.iv (⟨#[]⟩ ++ bA T : ByteArray).data.toList = some (n : Int) := by
              rw [hl1, iv_10 hTo, hTv]
            have c1 := fun W => nint_yes (⟨#[]⟩ ++ bA T) n W (by omega) hiv
            rw [tx_is] at c1
            obtain ⟨SB, g, hSN, hg, hgd, hSBl, hSBs⟩ : ∃ (SB : ByteArray) (g : UInt8), ((neg = true ∧ SB = ⟨#[45]⟩) ∨ (neg = false ∧ SB = ⟨#[43]⟩)) ∧ (g = 43 ∨ g = 45) ∧ decide (g = 45) = neg ∧ SB.data.toList = [g] ∧ SB.size = 1 := by
              cases neg
              · exact ⟨⟨#[43]⟩, 43, Or.inr ⟨rfl, rfl⟩, Or.inl rfl, by decide, rfl, rfl⟩
              · exact ⟨⟨#[45]⟩, 45, Or.inl ⟨rfl, rfl⟩, Or.inr rfl, by decide, rfl, rfl⟩
            have c2 := fun W => nint_yes (SB ++ ⟨#[]⟩ ++ bA T) (M.sgn neg n) W (by simp only [append_sz]; rw [bA_size, hSBs]; show 1 + 0 + T.length ≤ 1000; omega) (by
              rw [append_list, append_list, bA_toList, hSBl]
              have := iv_sign hg hTo
              rw [hTv, hgd] at this
              exact this)
            have c3 := fun W => nint_no (⟨#[]⟩ ++ bA T ++ ⟨#[95]⟩) W (by rw [append_sz]; show _ + 1 ≤ 1000; omega) (by rw [append_list]; exact M.iv_gap _)
            have c4 := fun W => flo_of_iv (⟨#[]⟩ ++ bA T) n W (by omega) hiv
            have cT := fun W => text_any n W (by omega)
            have hdl : (M.dg n).length ≤ 10 := M.dg_len_le n 10 (by omega) (by omega)
            have cN := fun W => rnorm_list neg (M.dg n) W (M.dg_ok n) (by omega)
            rw [M.dg_val] at cN
            have hTs : (bA T).size ≤ 50 := by rw [bA_size]; exact hTl
            clear hiv hl1 hz1 hdl hTo hTl hg hgd hSBl hSBs hTv
            generalize bA (M.dg n) = TN at *
            generalize tx (M.sgn neg n) = TX at *
            generalize bA T = BT at *
            rcases hSN with ⟨rfl, rfl⟩ | ⟨rfl, rfl⟩
            all_goals
              go_wp2_with fail
              refine (c1 _).mono ?_
              rintro r w2 ⟨rfl, hw⟩
              have B2 := below_on hbw hw
              clear hw
              go_wp2_with fail
              refine (c2 _).mono ?_
              rintro r w3 ⟨rfl, hw⟩
              have B3 := below_on B2 hw
              clear hw
              go_wp2_with fail
              refine (c3 _).mono ?_
              rintro r w' ⟨rfl, rfl⟩
              go_wp2_with fail
              refine (c4 _).mono ?_
              rintro r w4 ⟨rfl, hw⟩
              have B4 := below_on B3 hw
              clear hw
              go_wp2_with fail
              refine (cT _).mono ?_
              rintro r w5 ⟨rfl, hw⟩
              have B5 : Below w.heap.size w w5 := below_over B4 hw
              clear hw

              go_wp2_with fail
              refine (cT _).mono ?_
              rintro r w6 ⟨rfl, hw⟩
              have B6 : Below w.heap.size w w6 := below_on B5 hw
              clear hw
              go_wp2_with fail
              refine (cN _).mono ?_
              rintro r w' ⟨rfl, rfl⟩
              clear c1 c2 c3 c4 cT cN
              go_wp2
              go_ret
              exact ⟨rfl, B6⟩
end Go.Proofs.YtocegiffbgnogaaDoor
