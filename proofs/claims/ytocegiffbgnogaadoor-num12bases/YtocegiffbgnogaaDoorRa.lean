/- Walks of targumref4's IsDigit, Digits, Good, Value. Walk of targumref4's Norm. -/
import Derived.Test.YtocegiffbgnogaaDoorWf
set_option linter.unusedVariables false
namespace Go.Proofs.YtocegiffbgnogaaDoor
open Go.RowKit

theorem dec_iff (c : UInt8) : M.dv c < 10 ↔ 48 ≤ c.toNat ∧ c.toNat ≤ 57 :=
  ⟨fun h => ⟨(M.dv_lt10 h).1, (M.dv_lt10 h).2.1⟩, fun h => by rw [M.dv_dec h.1 h.2]; omega⟩
set_option maxRecDepth 100000 in
theorem isDigit_any (c : UInt8) (w : World) : Calls Tryd.prog 28 #[.int .u8 c.toNat] w fun e w' => e = .returned (.bool (decide (M.dv c < 10))) ∧ w = w' := by
  have h := dec_iff c
  obtain ⟨R, hR⟩ : ∃ R, decide (M.dv c < 10) = R := ⟨_, rfl⟩
  rw [hR]
  have hR2 : decide (48 ≤ c.toNat ∧ c.toNat ≤ 57) = R := by rw [← hR, decide_eq_decide, h]
  have HR := Lib.hid hR2
  clear hR hR2 h
  have hc : c.toNat < 256 := c.toNat_lt
  generalize c.toNat = k at *
  go_enter Tryd.func28, Tryd.ntmps28
  go_wp2
  all_goals
    go_ret
    refine ⟨ret_bool ?_, rfl⟩
    rw [← HR.out]
    first | exact (decide_eq_true (by omega)).symm | exact (decide_eq_false (by omega)).symm | (rw [decide_eq_decide]; omega)

set_option maxRecDepth 100000 in
set_option maxHeartbeats 1000000 in
theorem rdigits_any (s : ByteArray) (w : World) (hs : s.size ≤ 1000000) :
    Calls Tryd.prog 30 #[.string s] w fun e w' => e = .returned (.bool (M.okD 10 s.data.toList)) ∧ w = w' := by
  have hLl := sz_list s
  obtain ⟨R, hR⟩ : ∃ R, M.okD 10 s.data.toList = R := ⟨_, rfl⟩
  rw [hR]
  have HR := Lib.hid hR
  have HL := Lib.hid hLl
  clear hR hLl
  go_enter Tryd.func30, Tryd.ntmps30
  go_wp2
  go_loop [3] (fun i => ∃ k : Nat, i = .int .i64 k ∧ k ≤ s.size ∧ Hid (M.allD 10 (s.data.toList.take k) = true)) (fun i => s.size - (intOf i).toNat)
  case atStart => exact ⟨0, rfl, Nat.zero_le _, rfl⟩
  case round =>
    obtain ⟨k, rfl, hk, hst⟩ := hrel
    by_cases hlt : k < s.size
    · have hltd : decide (k < s.size) = true := by simpa using hlt
      have c1 := isDigit_any s[k] w
      have hsn := M.allD_snoc 10 (s.data.toList.take k) s[k]
      rw [← take_snoc s k hlt, hst.out, Bool.true_and] at hsn
      have HS := Lib.hid hsn
      clear hsn
      by_cases hdb : M.dv s[k] < 10
      · rw [decide_eq_true hdb] at c1
        have HDB := Lib.hid hdb
        clear hdb
        go_wp2_with (go_at_call 28; refine c1.mono ?_; rintro r w' ⟨rfl, rfl⟩)
        go_round
        case rel => exact ⟨k + 1, by go_num, by omega, by show _ = true; rw [HS.out]; simpa using HDB.out⟩
        case measure => simp [intOf]; omega
      · rw [decide_eq_false hdb] at c1
        have HDB := Lib.hid hdb
        clear hdb
        go_wp2_with (go_at_call 28; refine c1.mono ?_; rintro r w' ⟨rfl, rfl⟩)
        go_ret
        refine ⟨ret_bool ?_, rfl⟩
        have h1 : M.allD 10 (s.data.toList.take (k + 1)) = false := by rw [HS.out]; simpa using HDB.out
        rw [← HR.out]
        unfold M.okD
        rw [← List.take_append_drop (k + 1) s.data.toList, M.allD_append, h1]
        simp
    · obtain rfl : k = s.size := by omega
      have hltd : decide (s.size < s.size) = false := by simp
      have h1 := hst.out
      rw [take_all] at h1
      have HF := Lib.hid h1
      clear h1 hst
      go_wp2
      all_goals
        go_ret
        refine ⟨ret_bool ?_, rfl⟩
        rw [← HR.out]
        unfold M.okD
        rw [HF.out, Bool.and_true]
        have hl := HL.out
        cases hh : s.data.toList with
        | nil => rw [hh] at hl; simp at hl; simp [hl]
        | cons c r => rw [hh] at hl; simp at hl; simp [hl]

set_option maxRecDepth 100000 in
set_option maxHeartbeats 1000000 in
theorem value_any (c : UInt8) (w : World) : Calls Tryd.prog 46 #[.int .u8 c.toNat] w fun e w' => e = .returned (.int .i64 (M.dv c : Nat)) ∧ w = w' := by
  obtain ⟨R, hR⟩ : ∃ R, M.dv c = R := ⟨_, rfl⟩
  rw [hR]
  have HR := Lib.hid hR
  clear hR
  have hc : c.toNat < 256 := c.toNat_lt
  unfold M.dv at HR
  generalize c.toNat = k at *
  go_enter Tryd.func46, Tryd.ntmps46
  go_wp2
  all_goals
    go_ret
    refine ⟨ret_int ?_, rfl⟩
    rw [← HR.out]
    clear HR
    repeat' split
    all_goals omega

theorem head_ne (A : ByteArray) (h0 : 0 < A.size) (h : M.isNeg A.data.toList = false) : ¬ A[0].toNat = 45 := by
  intro e
  have := head_not A h0 h
  rw [e] at this
  exact absurd this (by decide)
set_option maxRecDepth 100000 in
set_option maxHeartbeats 1000000 in
theorem rgood_any (s : ByteArray) (w : World) (hs : s.size ≤ 100000) :
    Calls Tryd.prog 31 #[.string s] w fun e w' => e = .returned (.bool (M.goodB s.data.toList)) ∧ w = w' := by
  by_cases h48 : s.data.toList = [48]
  · have e1 : (s.toList == [48]) = true := by rw [ByteArray.toList_eq, h48]; rfl
    have e2 : M.goodB s.data.toList = true := by unfold M.goodB; rw [h48]; rfl
    rw [e2]
    clear h48 e2
    go_enter Tryd.func31, Tryd.ntmps31
    go_wp2
    go_ret
    exact ⟨rfl, rfl⟩
  · have e1 : (s.toList == [48]) = false := by rw [ByteArray.toList_eq]; simpa using h48
    have hG : M.goodB s.data.toList = (M.okD 10 (M.unsign s.data.toList) && decide (M.unsign s.data.toList ≠ [] ∧ (M.unsign s.data.toList).head? ≠ some 48)) := by
      unfold M.goodB; rw [decide_eq_false h48, Bool.false_or]
    rw [hG]
    clear hG h48
    have hU : (bA (M.unsign s.data.toList)).size ≤ 1000000 := by
      rw [bA_size]
      have : (M.unsign s.data.toList).length ≤ s.data.toList.length := by
        unfold M.unsign
        split
        · rw [List.length_tail]; omega
        · omega
      rw [← sz_list] at this
      omega
    have c1 := rdigits_any (bA (M.unsign s.data.toList)) w hU
    rw [bA_toList] at c1
    -- the test of the first digit
    obtain ⟨U, hUe⟩ : ∃ U, bA (M.unsign s.data.toList) = U := ⟨_, rfl⟩
    have hUl : M.unsign s.data.toList = U.data.toList := by rw [← hUe, bA_toList]
    rw [hUe] at c1 hU
    have hcut : (0 < s.size ∧ M.isNeg s.data.toList = true ∧ U = s.extract 1 s.size) ∨ (M.isNeg s.data.toList = false ∧ U = s) := by
      by_cases hn : M.isNeg s.data.toList = true
      · left
        refine ⟨?_, hn, ?_⟩
        · rw [sz_list]
          match hh : s.data.toList, hn with
          | c :: r, _ => simp
        · rw [← hUe]; symm; apply eq_bA; rw [Lib.extract_to_end]; unfold M.unsign; rw [if_pos hn]; simp
      · right
        exact ⟨by simpa using hn, by rw [← hUe]; unfold M.unsign; rw [if_neg hn, bA_of]⟩
    have HUL := Lib.hid hUl
    by_cases hok : M.okD 10 (M.unsign s.data.toList) = true
    · rw [hok] at c1 ⊢
      have hne : 0 < U.size := by
        rw [sz_list, ← hUl]
        exact List.length_pos_iff.2 ((M.okD_iff _ _).1 hok).1
      have hl := drop_cons U 0 hne
      rw [List.drop_zero] at hl
      have hR : (true && decide (M.unsign s.data.toList ≠ [] ∧ (M.unsign s.data.toList).head? ≠ some 48)) = !decide (U[0].toNat = 48) := by
        rw [Bool.true_and, hUl, hl]
        rw [← decide_not, decide_eq_decide]
        simp [← UInt8.toNat_inj]
      rw [hR]
      clear hR hl hok hUl HUL hUe
      rcases hcut with ⟨h0, hn, hcut⟩ | ⟨hn, hcut⟩
      · have h45 := head_is s h0 hn
        have h1 : s.size - 1 = U.size := by rw [hcut]; simp
        have hx : s.extract 1 s.size = U := hcut.symm
        clear hn hcut
        by_cases hz : U[0].toNat = 48
        · rw [decide_eq_true hz]
          go_enter Tryd.func31, Tryd.ntmps31
          go_wp2_with fail
          refine c1.mono ?_
          rintro r w' ⟨rfl, rfl⟩
          go_wp2
          go_ret
          exact ⟨rfl, rfl⟩
        · have hzb : ((U[0].toNat : Int) != 48) = true := by simp; omega
          rw [decide_eq_false hz]
          clear hz
          go_enter Tryd.func31, Tryd.ntmps31
          go_wp2_with fail
          refine c1.mono ?_
          rintro r w' ⟨rfl, rfl⟩
          go_wp2
          go_ret
          exact ⟨rfl, rfl⟩
      · subst hcut
        have h45 := head_not U hne hn
        clear hn
        by_cases hz : U[0].toNat = 48
        · rw [decide_eq_true hz]
          clear h45
          go_enter Tryd.func31, Tryd.ntmps31
          go_wp2_with fail
          refine c1.mono ?_
          rintro r w' ⟨rfl, rfl⟩
          go_wp2
          go_ret
          exact ⟨rfl, rfl⟩
        · have hzb : ((U[0].toNat : Int) != 48) = true := by simp; omega
          rw [decide_eq_false hz]
          clear hz
          go_enter Tryd.func31, Tryd.ntmps31
          go_wp2_with fail
          refine c1.mono ?_
          rintro r w' ⟨rfl, rfl⟩
          go_wp2
          go_ret
          exact ⟨rfl, rfl⟩
    · have hok' : M.okD 10 (M.unsign s.data.toList) = false := by simpa using hok
      rw [hok'] at c1 ⊢
      rw [Bool.false_and]
      clear hok hok' hUl HUL hUe
      rcases hcut with ⟨h0, hn, hcut⟩ | ⟨hn, hcut⟩
      · have h45 := head_is s h0 hn
        have hx : s.extract 1 s.size = U := hcut.symm
        clear hn hcut
        go_enter Tryd.func31, Tryd.ntmps31
        go_wp2_with fail
        refine c1.mono ?_
        rintro r w' ⟨rfl, rfl⟩
        go_wp2
        go_ret
        exact ⟨rfl, rfl⟩
      · subst hcut
        by_cases h0 : 0 < U.size
        · have h45 := head_not U h0 hn
          clear hn
          go_enter Tryd.func31, Tryd.ntmps31
          go_wp2_with fail
          refine c1.mono ?_
          rintro r w' ⟨rfl, rfl⟩
          go_wp2
          go_ret
          exact ⟨rfl, rfl⟩
        · have h00 : U.size = 0 := by omega
          clear hn h0
          go_enter Tryd.func31, Tryd.ntmps31
          go_wp2_with fail
          refine c1.mono ?_
          rintro r w' ⟨rfl, rfl⟩
          go_wp2
          go_ret
          exact ⟨rfl, rfl⟩
end Go.Proofs.YtocegiffbgnogaaDoor

namespace Go.Proofs.YtocegiffbgnogaaDoor
open Go.RowKit

/-- Digits without noughts ahead, but a last one. -/
theorem lean_dg (l : List UInt8) (ha : M.allD 10 l = true) (h0 : 0 < l.length) (h : l.length = 1 ∨ l.head? ≠ some 48) : l = M.dg (M.val 10 l) := by
  have hne : l ≠ [] := List.length_pos_iff.1 h0
  by_cases hh : l.head? = some 48
  · have h1 : l.length = 1 := by rcases h with h | h; exact h; exact absurd hh h
    match l, h1, hh with
    | [c], _, hh =>
      have : c = 48 := by simpa using hh
      subst this
      rw [M.val_one, show M.dv 48 = 0 by decide, M.dg_zero]
  · exact (M.dg_of l ((M.okD_iff _ _).2 ⟨hne, ha⟩) ⟨hne, hh⟩).2
theorem val_drop_nought (l : List UInt8) (i : Nat) (hi : i < l.length) (h : l[i] = 48) : M.val 10 (l.drop i) = M.val 10 (l.drop (i + 1)) := by
  rw [List.drop_eq_getElem_cons hi, M.val_cons, h, show M.dv 48 = 0 by decide, Nat.zero_mul, Nat.zero_add]

set_option maxRecDepth 100000 in
set_option maxHeartbeats 1000000 in
theorem rnorm_yes (neg : Bool) (s : ByteArray) (w : World) (hs : s.size ≤ 100000) (hd : M.okD 10 s.data.toList = true) :
    Calls Tryd.prog 17 #[.bool neg, .string s] w fun e w' => e = .returned (.string (tx (M.sgn neg (M.val 10 s.data.toList)))) ∧ w = w' := by
  have c1 := rdigits_any s w (by omega)
  rw [hd] at c1
  obtain ⟨hne, hall⟩ := (M.okD_iff _ _).1 hd
  have h0 : 0 < s.size := by rw [sz_list]; exact List.length_pos_iff.2 hne
  obtain ⟨R, hR⟩ : ∃ R, tx (M.sgn neg (M.val 10 s.data.toList)) = R := ⟨_, rfl⟩
  rw [hR]
  have HR := Lib.hid hR
  have HALL := Lib.hid hall
  clear hd hne hall hR
  go_enter Tryd.func17, Tryd.ntmps17
  go_wp2_with fail
  refine c1.mono ?_
  rintro r w' ⟨rfl, rfl⟩
  clear c1
  go_wp2
  go_loop [5] (fun v => ∃ i : Nat, v = .int .i64 i ∧ i < s.size ∧ Hid (M.val 10 (s.data.toList.drop i) = M.val 10 s.data.toList)) (fun v => s.size - (intOf v).toNat)
  case atStart => exact ⟨0, rfl, h0, rfl⟩
  case round =>
    obtain ⟨i, rfl, hi, hst⟩ := hrel
    by_cases hgo : i + 1 < s.size ∧ s[i].toNat = 48
    · obtain ⟨hg1, hg2⟩ := hgo
      have d1 : decide ((i : Int) < (s.size : Int) - 1) = true := decide_eq_true (by omega)
      have hv := val_drop_nought s.data.toList i (by rw [← sz_list]; exact hi) (UInt8.toNat_inj.1 hg2)
      rw [hst.out] at hv
      have HV := Lib.hid hv.symm
      clear hv hst
      go_wp2
      go_round
      case rel => exact ⟨i + 1, by go_num, by omega, HV.out⟩
      case measure => simp [intOf]; omega
    · have hle : s.data.toList.drop i = M.dg (M.val 10 s.data.toList) := by
        rw [← hst.out]
        apply lean_dg
        · have := HALL.out
          rw [← List.take_append_drop i s.data.toList, M.allD_append, Bool.and_eq_true] at this
          exact this.2
        · rw [List.length_drop, ← sz_list]; omega
        · by_cases hg1 : i + 1 < s.size
          · right
            rw [drop_cons s i hi]
            have : ¬ s[i].toNat = 48 := fun e => hgo ⟨hg1, e⟩
            simp [← UInt8.toNat_inj]
            exact this
          · left; rw [List.length_drop, ← sz_list]; omega
      obtain ⟨n, hn⟩ : ∃ n, M.val 10 s.data.toList = n := ⟨_, rfl⟩
      rw [hn] at hle
      have hRn : R = tx (M.sgn neg n) := by rw [← HR.out, hn]
      have hx : s.extract i s.size = bA (M.dg n) := by apply eq_bA; rw [Lib.extract_to_end]; exact hle
      have hz : ((bA (M.dg n)).toList == [48]) = decide (n = 0) := by
        have := tx_beq (n : Int) 0
        rw [show (tx 0).toList = [48] by rw [tx0, ByteArray.toList_eq], show tx (n : Int) = bA (M.dg n) by unfold tx; rw [M.txt_nat]] at this
        rw [this, decide_eq_decide]; omega
      have hzs : (bA (M.dg n)).size ≤ 100000 := by rw [← hx]; simp; omega
      have hmin : ⟨#[45]⟩ ++ bA (M.dg n) = bA (45 :: M.dg n) := bA_append [45] (M.dg n)
      have hR0 : n = 0 → R = bA (M.dg n) := by intro h; rw [hRn, h, M.sgn_zero]; unfold tx; rw [M.txt_zero, M.dg_zero]
      have hR1 : n ≠ 0 → neg = true → R = bA (45 :: M.dg n) := by intro h h2; rw [hRn, h2]; unfold tx; rw [M.txt_sgn _ _ (by omega)]; rfl
      have hR2 : neg = false → R = bA (M.dg n) := by intro h2; rw [hRn, h2]; unfold tx; exact congrArg bA (M.txt_nat n)
      have HR0 := Lib.hid hR0
      have HR1 := Lib.hid hR1
      have HR2 := Lib.hid hR2
      clear hle hn hRn hR0 hR1 hR2 HALL HR hst
      generalize bA (M.dg n) = D at *
      generalize bA (45 :: M.dg n) = E at *
      by_cases hg1 : i + 1 < s.size
      · have d1 : decide ((i : Int) < (s.size : Int) - 1) = true := decide_eq_true (by omega)
        have hnz : ¬ s[i].toNat = 48 := fun e => hgo ⟨hg1, e⟩
        have d2 : ((s[i].toNat : Int) == 48) = false := by simp; omega
        clear hnz hgo
        cases neg
        · go_wp2
          go_ret
          exact ⟨ret_str (HR2.out (by trivial)).symm, rfl⟩
        · by_cases hn0 : n = 0
          · rw [decide_eq_true hn0] at hz
            have HN := Lib.hid hn0
            clear hn0
            go_wp2
            go_ret
            exact ⟨ret_str (HR0.out HN.out).symm, rfl⟩
          · rw [decide_eq_false hn0] at hz
            have HN := Lib.hid hn0
            clear hn0
            go_wp2
            go_ret
            exact ⟨ret_str (HR1.out HN.out (by trivial)).symm, rfl⟩
      · have d1 : decide ((i : Int) < (s.size : Int) - 1) = false := decide_eq_false (by omega)
        clear hgo
        cases neg
        · go_wp2
          go_ret
          exact ⟨ret_str (HR2.out (by trivial)).symm, rfl⟩
        · by_cases hn0 : n = 0
          · rw [decide_eq_true hn0] at hz
            have HN := Lib.hid hn0
            clear hn0
            go_wp2
            go_ret
            exact ⟨ret_str (HR0.out HN.out).symm, rfl⟩
          · rw [decide_eq_false hn0] at hz
            have HN := Lib.hid hn0
            clear hn0
            go_wp2
            go_ret
            exact ⟨ret_str (HR1.out HN.out (by trivial)).symm, rfl⟩
theorem rnorm_no (neg : Bool) (s : ByteArray) (w : World) (hs : s.size ≤ 100000) (hd : M.okD 10 s.data.toList = false) :
    Calls Tryd.prog 17 #[.bool neg, .string s] w fun e w' => e = .returned (.string ⟨#[]⟩) ∧ w = w' := by
  have c1 := rdigits_any s w (by omega)
  rw [hd] at c1
  clear hd
  go_enter Tryd.func17, Tryd.ntmps17
  go_wp2_with (go_at_call 30; refine c1.mono ?_; rintro r w' ⟨rfl, rfl⟩)
  go_ret
  exact ⟨rfl, rfl⟩
theorem rnorm_list (neg : Bool) (l : List UInt8) (w : World) (h : M.okD 10 l = true) (hl : l.length ≤ 100000) :
    Calls Tryd.prog 17 #[.bool neg, .string (bA l)] w fun e w' => e = .returned (.string (tx (M.sgn neg (M.val 10 l)))) ∧ w = w' := by
  have := rnorm_yes neg (bA l) w (by rw [bA_size]; omega) (by rw [bA_toList]; exact h)
  rwa [bA_toList] at this
end Go.Proofs.YtocegiffbgnogaaDoor
