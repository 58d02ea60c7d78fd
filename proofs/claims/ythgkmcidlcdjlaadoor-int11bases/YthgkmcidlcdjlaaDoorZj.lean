/- The law Int11Bases: its walk, to the base 10. -/
import Derived.Test.YthgkmcidlcdjlaaDoorZf
import Derived.Test.YthgkmcidlcdjlaaDoorLe
set_option linter.unusedVariables false
namespace Go.Proofs.YthgkmcidlcdjlaaDoor
open Go.RowKit
set_option maxRecDepth 100000 in
set_option maxHeartbeats 4000000 in
theorem bases_10 (n B g : Nat) (neg : Bool) (w : World) (he : Env w) (hn : n < 4294967296) (hB : B % 4 = 3) (hg : g ≤ 255) :
    Calls Tryd.prog 4 #[.int .u32 n, .int .u8 B, .bool neg, .int .u8 g] w fun e w' => e = .returned (.bool true) ∧ Below w.heap.size w w' := by
  have hB4 : (B : Int) % 4 = 3 := by omega
  obtain ⟨g12, hg12⟩ : ∃ g12, g % 12 = g12 := ⟨_, rfl⟩
  have hgb : g12 < 12 := by omega
  have hge : (g : Int) % 12 = (g12 : Int) := by omega
  clear hg12 hB
  go_enter Tryd.func4, Tryd.ntmps4
  go_wp2_with fail
  refine (known_any _ he).mono ?_
  rintro r w1 ⟨rfl, hb1⟩
  go_wp2_with fail
  go_loopw [12, 13, 14] (fun sv kv iv wr => ∃ (k i : Nat) (S : List UInt8), sv = .string (bA S) ∧ kv = .int .i64 k ∧ iv = .int .i64 i ∧ k < 4294967296 ∧ i ≤ 32 ∧ S.length ≤ 2 * i ∧ Hid (M.BR 10 n k i S) ∧ Below w.heap.size w wr) (fun _ kv iv _ => 2 * (intOf kv).toNat + (if (intOf iv).toNat = 0 then 1 else 0))
  case atStart => exact ⟨n, 0, [], rfl, rfl, rfl, hn, by omega, by simp, M.BR.start 10 n, hb1⟩
  case round =>
    obtain ⟨k, i, S, rfl, rfl, rfl, hk, hi, hSl, HBR, hbw⟩ := hrel
    by_cases hi0 : 0 < i
    · by_cases hk0 : 0 < k
      · have hroom := M.BR.room HBR.out (by omega) hn hk0
        by_cases hig : i = g12
        · have d1 : decide ((0 : Int) < (k : Int)) = true := by simp; omega
          have d2 : ((i : Int) == 0) = false := by simp; omega
          have d3 : decide ((0 : Int) < (i : Int)) = true := by simp; omega
          have hst := M.BR.step (S1 := 95 :: S) HBR.out (by omega) (by omega) (by omega) (Or.inr ⟨by omega, rfl⟩)
          have HST := Lib.hid hst
          obtain ⟨q, hq⟩ : ∃ q, k % 10 = q := ⟨_, rfl⟩
          obtain ⟨kd, hkd⟩ : ∃ kd, k / 10 = kd := ⟨_, rfl⟩
          have hq16 : q < 10 := by omega
          have hkd2 : kd < 4294967296 := by omega
          have hmeas : 2 * kd < 2 * k + (if i = 0 then 1 else 0) := by rw [if_neg (by omega)]; omega
          rw [hq, hkd] at HST
          have e1 : Int.tmod (k : Int) 10 = (q : Int) := by rw [show (10 : Int) = ((10 : Nat) : Int) from rfl, ← Int.ofNat_tmod, hq]
          have e2 : (k : Int) % 10 = (q : Int) := by omega
          have e3 : Int.tdiv (k : Int) 10 = (kd : Int) := by rw [show (10 : Int) = ((10 : Nat) : Int) from rfl, ← Int.ofNat_tdiv, hkd]
          have e4 : (k : Int) / 10 = (kd : Int) := by omega
          have hw1 : IntKind.i64.wrap ((q : Int) + 1) = (q : Int) + 1 := by rw [IntWalk.i64_in _ (by omega)]
          have hw2 : IntKind.i64.wrap (q : Int) = (q : Int) := by rw [IntWalk.i64_in _ (by omega)]
          have hb1q : (q : Int) ≤ (q : Int) + 1 := by omega
          have hb2q : (q : Int) + 1 ≤ 16 := by omega
          have hb0q : (0 : Int) ≤ (q : Int) := by omega
          have hX := sig16 q (by omega)
          have hSs : (bA S).size ≤ 64 := by rw [bA_size]; omega
          have hcat1 : (⟨#[95]⟩ : ByteArray) ++ bA S = bA (95 :: S) := by rw [show (⟨#[95]⟩ : ByteArray) = bA [95] from rfl, bA_append]; rfl
          have hadd : ∀ W, (Op.stringOp .add (bA [M.dc q]) (bA (95 :: S))).run Tryd.prog W = .ok (.string (bA (M.dc q :: 95 :: S))) W := fun W => by
            rw [run_string_add_sum _ _ _ (by rw [bA_size, bA_size]; simp; omega), bA_append]; rfl
          have d4 : ((i : Int) == (g12 : Int)) = true := by simp; omega
          have hlen2 : (95 :: S).length + 1 ≤ 65 := by rw [List.length_cons]; omega
          clear hst hq hkd hig
          generalize hNb : bA (M.dc q :: 95 :: S) = BN at *
          generalize hXb : bA [M.dc q] = XD at *
          generalize hSb1 : bA (95 :: S) = BS1 at *
          generalize hSb : bA S = BS at *
          have HNb := Lib.hid hNb
          have HM := Lib.hid hmeas
          clear hNb hXb hSb hSb1 hmeas
          go_wp2_with fail
          go_quiet (fail)
          go_wp2
          go_roundw
          case rel => exact ⟨kd, i + 1, M.dc q :: 95 :: S, by rw [HNb.out], rfl, by go_num, hkd2, by omega, by simp only [List.length_cons]; omega, HST.out, below_dN hbw _⟩
          case measure => have := HM.out; simp [intOf]; first | exact this | omega
        · have d1 : decide ((0 : Int) < (k : Int)) = true := by simp; omega
          have d2 : ((i : Int) == 0) = false := by simp; omega
          have d3 : decide ((0 : Int) < (i : Int)) = true := by simp; omega
          have hst := M.BR.step (S1 := S) HBR.out (by omega) (by omega) (by omega) (Or.inl rfl)
          have HST := Lib.hid hst
          obtain ⟨q, hq⟩ : ∃ q, k % 10 = q := ⟨_, rfl⟩
          obtain ⟨kd, hkd⟩ : ∃ kd, k / 10 = kd := ⟨_, rfl⟩
          have hq16 : q < 10 := by omega
          have hkd2 : kd < 4294967296 := by omega
          have hmeas : 2 * kd < 2 * k + (if i = 0 then 1 else 0) := by rw [if_neg (by omega)]; omega
          rw [hq, hkd] at HST
          have e1 : Int.tmod (k : Int) 10 = (q : Int) := by rw [show (10 : Int) = ((10 : Nat) : Int) from rfl, ← Int.ofNat_tmod, hq]
          have e2 : (k : Int) % 10 = (q : Int) := by omega
          have e3 : Int.tdiv (k : Int) 10 = (kd : Int) := by rw [show (10 : Int) = ((10 : Nat) : Int) from rfl, ← Int.ofNat_tdiv, hkd]
          have e4 : (k : Int) / 10 = (kd : Int) := by omega
          have hw1 : IntKind.i64.wrap ((q : Int) + 1) = (q : Int) + 1 := by rw [IntWalk.i64_in _ (by omega)]
          have hw2 : IntKind.i64.wrap (q : Int) = (q : Int) := by rw [IntWalk.i64_in _ (by omega)]
          have hb1q : (q : Int) ≤ (q : Int) + 1 := by omega
          have hb2q : (q : Int) + 1 ≤ 16 := by omega
          have hb0q : (0 : Int) ≤ (q : Int) := by omega
          have hX := sig16 q (by omega)
          have hSs : (bA S).size ≤ 64 := by rw [bA_size]; omega
          have hadd : ∀ W, (Op.stringOp .add (bA [M.dc q]) (bA (S))).run Tryd.prog W = .ok (.string (bA (M.dc q :: S))) W := fun W => by
            rw [run_string_add_sum _ _ _ (by rw [bA_size, bA_size]; simp; omega), bA_append]; rfl
          have d4 : ((i : Int) == (g12 : Int)) = false := by simp; omega
          have hlen2 : (S).length + 1 ≤ 65 := by omega
          clear hst hq hkd hig
          generalize hNb : bA (M.dc q :: S) = BN at *
          generalize hXb : bA [M.dc q] = XD at *
          generalize hSb : bA S = BS at *
          have HNb := Lib.hid hNb
          have HM := Lib.hid hmeas
          clear hNb hXb hSb  hmeas
          go_wp2_with fail
          go_quiet (fail)
          go_wp2
          go_roundw
          case rel => exact ⟨kd, i + 1, M.dc q :: S, by rw [HNb.out], rfl, by go_num, hkd2, by omega, by simp only [List.length_cons]; omega, HST.out, below_dN hbw _⟩
          case measure => have := HM.out; simp [intOf]; first | exact this | omega
      · have hkz : k = 0 := by omega
        have HB0 := HBR.out
        rw [hkz] at HB0
        clear HBR
        have HBR := Lib.hid HB0
        clear HB0
        cases neg with
        | true =>
          by_cases hn0 : n = 0
          · have hnz : ((n : Int) == 0) = true := by simp; omega
            have hsays := sign_says (S) 4 n (by omega) (by have := M.base_10 HBR.out hi0; rw [if_pos hn0] at this; exact this) (by
              obtain ⟨d, r, hS, hd, _⟩ := HBR.out.2.2.2.2.2.2.1 hi0
              exact ⟨d, r, hS, by omega⟩)
            have c1 := fun W hW => of_yes (((⟨#[45]⟩ : ByteArray)) ++ ⟨#[]⟩ ++ bA S) W hW (by rw [append_sz, append_sz, bA_size]; show 1 + S.length ≤ 990; omega) (by rw [append_list, bA_toList]; show M.form (45 :: (S)) ≠ 0; rw [hsays.2.1.1]; omega)
            rw [append_list, bA_toList, show (((⟨#[45]⟩ : ByteArray)) ++ ⟨#[]⟩).data.toList ++ S = 45 :: (S) from rfl, hsays.2.1.2] at c1
            have c2 := fun W hW => of_yes ((⟨#[]⟩ : ByteArray) ++ bA S) W hW (by rw [append_sz, bA_size]; show 0 + S.length ≤ 990; omega) (by rw [append_list, bA_toList]; show M.form (S) ≠ 0; rw [hsays.2.2.1]; omega)
            rw [append_list, bA_toList, show ((⟨#[]⟩ : ByteArray)).data.toList ++ S = S from rfl, hsays.2.2.2, show tx (M.sgn false n) = bA (M.dg n) by unfold tx; rw [show M.sgn false n = ((n : Nat) : Int) from rfl, M.txt_nat]] at c2
            have c3 := fun W => form_any ((⟨#[]⟩ : ByteArray) ++ bA S) W (by rw [append_sz, bA_size]; show 0 + S.length ≤ 1000; omega)
            rw [append_list, bA_toList, show ((⟨#[]⟩ : ByteArray)).data.toList ++ S = S from rfl, hsays.2.2.1] at c3
            have cT := fun W => text_any n W (by omega)
            have hdl : (M.dg n).length ≤ 10 := M.dg_len_le n 10 (by omega) (by omega)
            have cN := fun W => rnorm_list true (M.dg n) W (M.dg_ok n) (by omega)
            rw [M.dg_val] at cN
            have d1 : decide ((0 : Int) < (k : Int)) = false := by simp; omega
            have d1n : decide (0 < k) = false := by simp; omega
            have d2 : ((i : Int) == 0) = false := by simp; omega
            have hSs : (bA S).size ≤ 64 := by rw [bA_size]; omega
            clear hsays hdl HBR hkz hk0 hn0
            generalize tx (M.sgn true n) = TX at *
            generalize bA (M.dg n) = TN at *
            generalize bA S = BS at *
            go_wp2_with fail
            refine (cT _).mono ?_
            rintro r w2 ⟨rfl, hb2⟩
            have B2 : Below w.heap.size w w2 := hbw.trans (hb2.mono hbw.size)
            go_wp2_with fail
            refine (cN _).mono ?_
            rintro r w' ⟨rfl, rfl⟩
            go_wp2_with fail
            refine (c1 _ (he.next B2)).mono ?_
            rintro r w3 ⟨rfl, hb3⟩
            have B3 : Below w.heap.size w w3 := B2.trans (hb3.mono B2.size)
            go_wp2_with fail
            refine (c2 _ (he.next B3)).mono ?_
            rintro r w4 ⟨rfl, hb4⟩
            have B4 : Below w.heap.size w w4 := B3.trans (hb4.mono B3.size)
            go_wp2_with fail
            refine (cT _).mono ?_
            rintro r w5 ⟨rfl, hb5⟩
            have B5 : Below w.heap.size w w5 := B4.trans (hb5.mono B4.size)
            go_wp2_with fail
            refine (c3 _).mono ?_
            rintro r w' ⟨rfl, rfl⟩
            clear c1 c2 c3 cT cN
            go_wp2
            go_ret
            exact ⟨rfl, B5⟩
          · have hnz : ((n : Int) == 0) = false := by simp; omega
            have hsays := sign_says (S) 5 n (by omega) (by have := M.base_10 HBR.out hi0; rw [if_neg hn0] at this; exact this) (by
              obtain ⟨d, r, hS, hd, _⟩ := HBR.out.2.2.2.2.2.2.1 hi0
              exact ⟨d, r, hS, by omega⟩)
            have c1 := fun W hW => of_yes (((⟨#[45]⟩ : ByteArray)) ++ ⟨#[]⟩ ++ bA S) W hW (by rw [append_sz, append_sz, bA_size]; show 1 + S.length ≤ 990; omega) (by rw [append_list, bA_toList]; show M.form (45 :: (S)) ≠ 0; rw [hsays.2.1.1]; omega)
            rw [append_list, bA_toList, show (((⟨#[45]⟩ : ByteArray)) ++ ⟨#[]⟩).data.toList ++ S = 45 :: (S) from rfl, hsays.2.1.2] at c1
            have c2 := fun W hW => of_yes ((⟨#[]⟩ : ByteArray) ++ bA S) W hW (by rw [append_sz, bA_size]; show 0 + S.length ≤ 990; omega) (by rw [append_list, bA_toList]; show M.form (S) ≠ 0; rw [hsays.2.2.1]; omega)
            rw [append_list, bA_toList, show ((⟨#[]⟩ : ByteArray)).data.toList ++ S = S from rfl, hsays.2.2.2, show tx (M.sgn false n) = bA (M.dg n) by unfold tx; rw [show M.sgn false n = ((n : Nat) : Int) from rfl, M.txt_nat]] at c2
            have c3 := fun W => form_any ((⟨#[]⟩ : ByteArray) ++ bA S) W (by rw [append_sz, bA_size]; show 0 + S.length ≤ 1000; omega)
            rw [append_list, bA_toList, show ((⟨#[]⟩ : ByteArray)).data.toList ++ S = S from rfl, hsays.2.2.1] at c3
            have cT := fun W => text_any n W (by omega)
            have hdl : (M.dg n).length ≤ 10 := M.dg_len_le n 10 (by omega) (by omega)
            have cN := fun W => rnorm_list true (M.dg n) W (M.dg_ok n) (by omega)
            rw [M.dg_val] at cN
            have d1 : decide ((0 : Int) < (k : Int)) = false := by simp; omega
            have d1n : decide (0 < k) = false := by simp; omega
            have d2 : ((i : Int) == 0) = false := by simp; omega
            have hSs : (bA S).size ≤ 64 := by rw [bA_size]; omega
            clear hsays hdl HBR hkz hk0 hn0
            generalize tx (M.sgn true n) = TX at *
            generalize bA (M.dg n) = TN at *
            generalize bA S = BS at *
            go_wp2_with fail
            refine (cT _).mono ?_
            rintro r w2 ⟨rfl, hb2⟩
            have B2 : Below w.heap.size w w2 := hbw.trans (hb2.mono hbw.size)
            go_wp2_with fail
            refine (cN _).mono ?_
            rintro r w' ⟨rfl, rfl⟩
            go_wp2_with fail
            refine (c1 _ (he.next B2)).mono ?_
            rintro r w3 ⟨rfl, hb3⟩
            have B3 : Below w.heap.size w w3 := B2.trans (hb3.mono B2.size)
            go_wp2_with fail
            refine (c2 _ (he.next B3)).mono ?_
            rintro r w4 ⟨rfl, hb4⟩
            have B4 : Below w.heap.size w w4 := B3.trans (hb4.mono B3.size)
            go_wp2_with fail
            refine (cT _).mono ?_
            rintro r w5 ⟨rfl, hb5⟩
            have B5 : Below w.heap.size w w5 := B4.trans (hb5.mono B4.size)
            go_wp2_with fail
            refine (c3 _).mono ?_
            rintro r w' ⟨rfl, rfl⟩
            clear c1 c2 c3 cT cN
            go_wp2
            go_ret
            exact ⟨rfl, B5⟩
        | false =>
          by_cases hn0 : n = 0
          · have hnz : ((n : Int) == 0) = true := by simp; omega
            have hsays := sign_says (S) 4 n (by omega) (by have := M.base_10 HBR.out hi0; rw [if_pos hn0] at this; exact this) (by
              obtain ⟨d, r, hS, hd, _⟩ := HBR.out.2.2.2.2.2.2.1 hi0
              exact ⟨d, r, hS, by omega⟩)
            have c1 := fun W hW => of_yes (((⟨#[43]⟩ : ByteArray)) ++ ⟨#[]⟩ ++ bA S) W hW (by rw [append_sz, append_sz, bA_size]; show 1 + S.length ≤ 990; omega) (by rw [append_list, bA_toList]; show M.form (43 :: (S)) ≠ 0; rw [hsays.1.1]; omega)
            rw [append_list, bA_toList, show (((⟨#[43]⟩ : ByteArray)) ++ ⟨#[]⟩).data.toList ++ S = 43 :: (S) from rfl, hsays.1.2] at c1
            have c2 := fun W hW => of_yes ((⟨#[]⟩ : ByteArray) ++ bA S) W hW (by rw [append_sz, bA_size]; show 0 + S.length ≤ 990; omega) (by rw [append_list, bA_toList]; show M.form (S) ≠ 0; rw [hsays.2.2.1]; omega)
            rw [append_list, bA_toList, show ((⟨#[]⟩ : ByteArray)).data.toList ++ S = S from rfl, hsays.2.2.2, show tx (M.sgn false n) = bA (M.dg n) by unfold tx; rw [show M.sgn false n = ((n : Nat) : Int) from rfl, M.txt_nat]] at c2
            have c3 := fun W => form_any ((⟨#[]⟩ : ByteArray) ++ bA S) W (by rw [append_sz, bA_size]; show 0 + S.length ≤ 1000; omega)
            rw [append_list, bA_toList, show ((⟨#[]⟩ : ByteArray)).data.toList ++ S = S from rfl, hsays.2.2.1] at c3
            have cT := fun W => text_any n W (by omega)
            have hdl : (M.dg n).length ≤ 10 := M.dg_len_le n 10 (by omega) (by omega)
            have cN := fun W => rnorm_list false (M.dg n) W (M.dg_ok n) (by omega)
            rw [M.dg_val] at cN
            have d1 : decide ((0 : Int) < (k : Int)) = false := by simp; omega
            have d1n : decide (0 < k) = false := by simp; omega
            have d2 : ((i : Int) == 0) = false := by simp; omega
            have hSs : (bA S).size ≤ 64 := by rw [bA_size]; omega
            clear hsays hdl HBR hkz hk0 hn0
            generalize tx (M.sgn false n) = TX at *
            generalize bA (M.dg n) = TN at *
            generalize bA S = BS at *
            go_wp2_with fail
            refine (cT _).mono ?_
            rintro r w2 ⟨rfl, hb2⟩
            have B2 : Below w.heap.size w w2 := hbw.trans (hb2.mono hbw.size)
            go_wp2_with fail
            refine (cN _).mono ?_
            rintro r w' ⟨rfl, rfl⟩
            go_wp2_with fail
            refine (c1 _ (he.next B2)).mono ?_
            rintro r w3 ⟨rfl, hb3⟩
            have B3 : Below w.heap.size w w3 := B2.trans (hb3.mono B2.size)
            go_wp2_with fail
            refine (c2 _ (he.next B3)).mono ?_
            rintro r w4 ⟨rfl, hb4⟩
            have B4 : Below w.heap.size w w4 := B3.trans (hb4.mono B3.size)
            go_wp2_with fail
            refine (cT _).mono ?_
            rintro r w5 ⟨rfl, hb5⟩
            have B5 : Below w.heap.size w w5 := B4.trans (hb5.mono B4.size)
            go_wp2_with fail
            refine (c3 _).mono ?_
            rintro r w' ⟨rfl, rfl⟩
            clear c1 c2 c3 cT cN
            go_wp2
            go_ret
            exact ⟨rfl, B5⟩
          · have hnz : ((n : Int) == 0) = false := by simp; omega
            have hsays := sign_says (S) 5 n (by omega) (by have := M.base_10 HBR.out hi0; rw [if_neg hn0] at this; exact this) (by
              obtain ⟨d, r, hS, hd, _⟩ := HBR.out.2.2.2.2.2.2.1 hi0
              exact ⟨d, r, hS, by omega⟩)
            have c1 := fun W hW => of_yes (((⟨#[43]⟩ : ByteArray)) ++ ⟨#[]⟩ ++ bA S) W hW (by rw [append_sz, append_sz, bA_size]; show 1 + S.length ≤ 990; omega) (by rw [append_list, bA_toList]; show M.form (43 :: (S)) ≠ 0; rw [hsays.1.1]; omega)
            rw [append_list, bA_toList, show (((⟨#[43]⟩ : ByteArray)) ++ ⟨#[]⟩).data.toList ++ S = 43 :: (S) from rfl, hsays.1.2] at c1
            have c2 := fun W hW => of_yes ((⟨#[]⟩ : ByteArray) ++ bA S) W hW (by rw [append_sz, bA_size]; show 0 + S.length ≤ 990; omega) (by rw [append_list, bA_toList]; show M.form (S) ≠ 0; rw [hsays.2.2.1]; omega)
            rw [append_list, bA_toList, show ((⟨#[]⟩ : ByteArray)).data.toList ++ S = S from rfl, hsays.2.2.2, show tx (M.sgn false n) = bA (M.dg n) by unfold tx; rw [show M.sgn false n = ((n : Nat) : Int) from rfl, M.txt_nat]] at c2
            have c3 := fun W => form_any ((⟨#[]⟩ : ByteArray) ++ bA S) W (by rw [append_sz, bA_size]; show 0 + S.length ≤ 1000; omega)
            rw [append_list, bA_toList, show ((⟨#[]⟩ : ByteArray)).data.toList ++ S = S from rfl, hsays.2.2.1] at c3
            have cT := fun W => text_any n W (by omega)
            have hdl : (M.dg n).length ≤ 10 := M.dg_len_le n 10 (by omega) (by omega)
            have cN := fun W => rnorm_list false (M.dg n) W (M.dg_ok n) (by omega)
            rw [M.dg_val] at cN
            have d1 : decide ((0 : Int) < (k : Int)) = false := by simp; omega
            have d1n : decide (0 < k) = false := by simp; omega
            have d2 : ((i : Int) == 0) = false := by simp; omega
            have hSs : (bA S).size ≤ 64 := by rw [bA_size]; omega
            clear hsays hdl HBR hkz hk0 hn0
            generalize tx (M.sgn false n) = TX at *
            generalize bA (M.dg n) = TN at *
            generalize bA S = BS at *
            go_wp2_with fail
            refine (cT _).mono ?_
            rintro r w2 ⟨rfl, hb2⟩
            have B2 : Below w.heap.size w w2 := hbw.trans (hb2.mono hbw.size)
            go_wp2_with fail
            refine (cN _).mono ?_
            rintro r w' ⟨rfl, rfl⟩
            go_wp2_with fail
            refine (c1 _ (he.next B2)).mono ?_
            rintro r w3 ⟨rfl, hb3⟩
            have B3 : Below w.heap.size w w3 := B2.trans (hb3.mono B2.size)
            go_wp2_with fail
            refine (c2 _ (he.next B3)).mono ?_
            rintro r w4 ⟨rfl, hb4⟩
            have B4 : Below w.heap.size w w4 := B3.trans (hb4.mono B3.size)
            go_wp2_with fail
            refine (cT _).mono ?_
            rintro r w5 ⟨rfl, hb5⟩
            have B5 : Below w.heap.size w w5 := B4.trans (hb5.mono B4.size)
            go_wp2_with fail
            refine (c3 _).mono ?_
            rintro r w' ⟨rfl, rfl⟩
            clear c1 c2 c3 cT cN
            go_wp2
            go_ret
            exact ⟨rfl, B5⟩
    · by_cases hk0 : 0 < k
      · have d1 : decide ((0 : Int) < (k : Int)) = true := by simp; omega
        have d2 : ((i : Int) == 0) = true := by simp; omega
        have d3 : decide ((0 : Int) < (i : Int)) = false := by simp; omega
        have hst := M.BR.step (S1 := S) HBR.out (by omega) (by omega) (by omega) (Or.inl rfl)
        have HST := Lib.hid hst
        obtain ⟨q, hq⟩ : ∃ q, k % 10 = q := ⟨_, rfl⟩
        obtain ⟨kd, hkd⟩ : ∃ kd, k / 10 = kd := ⟨_, rfl⟩
        have hq16 : q < 10 := by omega
        have hkd2 : kd < 4294967296 := by omega
        have hmeas : 2 * kd < 2 * k + (if i = 0 then 1 else 0) := by rw [if_pos (by omega)]; omega
        rw [hq, hkd] at HST
        have e1 : Int.tmod (k : Int) 10 = (q : Int) := by rw [show (10 : Int) = ((10 : Nat) : Int) from rfl, ← Int.ofNat_tmod, hq]
        have e2 : (k : Int) % 10 = (q : Int) := by omega
        have e3 : Int.tdiv (k : Int) 10 = (kd : Int) := by rw [show (10 : Int) = ((10 : Nat) : Int) from rfl, ← Int.ofNat_tdiv, hkd]
        have e4 : (k : Int) / 10 = (kd : Int) := by omega
        have hw1 : IntKind.i64.wrap ((q : Int) + 1) = (q : Int) + 1 := by rw [IntWalk.i64_in _ (by omega)]
        have hw2 : IntKind.i64.wrap (q : Int) = (q : Int) := by rw [IntWalk.i64_in _ (by omega)]
        have hb1q : (q : Int) ≤ (q : Int) + 1 := by omega
        have hb2q : (q : Int) + 1 ≤ 16 := by omega
        have hb0q : (0 : Int) ≤ (q : Int) := by omega
        have hX := sig16 q (by omega)
        have hSs : (bA S).size ≤ 64 := by rw [bA_size]; omega
        have hadd : ∀ W, (Op.stringOp .add (bA [M.dc q]) (bA (S))).run Tryd.prog W = .ok (.string (bA (M.dc q :: S))) W := fun W => by
          rw [run_string_add_sum _ _ _ (by rw [bA_size, bA_size]; simp; omega), bA_append]; rfl
        have hlen2 : (S).length + 1 ≤ 65 := by omega
        clear hst hq hkd
        generalize hNb : bA (M.dc q :: S) = BN at *
        generalize hXb : bA [M.dc q] = XD at *
        generalize hSb : bA S = BS at *
        have HNb := Lib.hid hNb
        have HM := Lib.hid hmeas
        clear hNb hXb hSb  hmeas
        go_wp2_with fail
        go_quiet (fail)
        go_wp2
        go_roundw
        case rel => exact ⟨kd, i + 1, M.dc q :: S, by rw [HNb.out], rfl, by go_num, hkd2, by omega, by simp only [List.length_cons]; omega, HST.out, below_dN hbw _⟩
        case measure => have := HM.out; simp [intOf]; first | exact this | omega
      · have d1 : decide ((0 : Int) < (k : Int)) = false := by simp; omega
        have d2 : ((i : Int) == 0) = true := by simp; omega
        have d3 : decide ((0 : Int) < (i : Int)) = false := by simp; omega
        have hst := M.BR.step (S1 := S) HBR.out (by omega) (by omega) (by omega) (Or.inl rfl)
        have HST := Lib.hid hst
        obtain ⟨q, hq⟩ : ∃ q, k % 10 = q := ⟨_, rfl⟩
        obtain ⟨kd, hkd⟩ : ∃ kd, k / 10 = kd := ⟨_, rfl⟩
        have hq16 : q < 10 := by omega
        have hkd2 : kd < 4294967296 := by omega
        have hmeas : 2 * kd < 2 * k + (if i = 0 then 1 else 0) := by rw [if_pos (by omega)]; omega
        rw [hq, hkd] at HST
        have e1 : Int.tmod (k : Int) 10 = (q : Int) := by rw [show (10 : Int) = ((10 : Nat) : Int) from rfl, ← Int.ofNat_tmod, hq]
        have e2 : (k : Int) % 10 = (q : Int) := by omega
        have e3 : Int.tdiv (k : Int) 10 = (kd : Int) := by rw [show (10 : Int) = ((10 : Nat) : Int) from rfl, ← Int.ofNat_tdiv, hkd]
        have e4 : (k : Int) / 10 = (kd : Int) := by omega
        have hw1 : IntKind.i64.wrap ((q : Int) + 1) = (q : Int) + 1 := by rw [IntWalk.i64_in _ (by omega)]
        have hw2 : IntKind.i64.wrap (q : Int) = (q : Int) := by rw [IntWalk.i64_in _ (by omega)]
        have hb1q : (q : Int) ≤ (q : Int) + 1 := by omega
        have hb2q : (q : Int) + 1 ≤ 16 := by omega
        have hb0q : (0 : Int) ≤ (q : Int) := by omega
        have hX := sig16 q (by omega)
        have hSs : (bA S).size ≤ 64 := by rw [bA_size]; omega
        have hadd : ∀ W, (Op.stringOp .add (bA [M.dc q]) (bA (S))).run Tryd.prog W = .ok (.string (bA (M.dc q :: S))) W := fun W => by
          rw [run_string_add_sum _ _ _ (by rw [bA_size, bA_size]; simp; omega), bA_append]; rfl
        have hlen2 : (S).length + 1 ≤ 65 := by omega
        clear hst hq hkd
        generalize hNb : bA (M.dc q :: S) = BN at *
        generalize hXb : bA [M.dc q] = XD at *
        generalize hSb : bA S = BS at *
        have HNb := Lib.hid hNb
        have HM := Lib.hid hmeas
        clear hNb hXb hSb  hmeas
        go_wp2_with fail
        go_quiet (fail)
        go_wp2
        go_roundw
        case rel => exact ⟨kd, i + 1, M.dc q :: S, by rw [HNb.out], rfl, by go_num, hkd2, by omega, by simp only [List.length_cons]; omega, HST.out, below_dN hbw _⟩
        case measure => have := HM.out; simp [intOf]; first | exact this | omega
end Go.Proofs.YthgkmcidlcdjlaaDoor
