/- Walks of targumref4's IsDigit, Digits, Good, Value. Walk of targumref4's Norm. Walk of targumref4's mulAdd. Walks of targumref4's Base and MulAdd; that both sides answer the same. Walks of targumref4's MulAdd, Text, compare; that both sides' MulAdd answer the same. The law BigTells: its walk. Walks of targumref4's Base and MulAdd; that both sides answer the same. Walks of targumref4's MulAdd, Text, compare; that both sides' MulAdd answer the same. Walk of targumref4's less. Walks of targumref4's Add and Compare; that both sides answer the same. Walk of targumref4's Make. What targumref4's Make and Parse answer; that both sides answer the same. -/
import Derived.Test.YtipgipgehnhgkaaGreatDoorBa
import Derived.Test.YtipgipgehnhgkaaGreatDoorBb
set_option linter.unusedVariables false
namespace Go.Proofs.YtipgipgehnhgkaaGreatDoor
open Go.RowKit

theorem dec_iff (c : UInt8) : M.dv c < 10 ↔ 48 ≤ c.toNat ∧ c.toNat ≤ 57 :=
  ⟨fun h => ⟨(M.dv_lt10 h).1, (M.dv_lt10 h).2.1⟩, fun h => by rw [M.dv_dec h.1 h.2]; omega⟩
set_option maxRecDepth 100000 in
theorem isDigit_any (c : UInt8) (w : World) : Calls Tryz.prog 70 #[.int .u8 c.toNat] w fun e w' => e = .returned (.bool (decide (M.dv c < 10))) ∧ w = w' := by
  have h := dec_iff c
  obtain ⟨R, hR⟩ : ∃ R, decide (M.dv c < 10) = R := ⟨_, rfl⟩
  rw [hR]
  have hR2 : decide (48 ≤ c.toNat ∧ c.toNat ≤ 57) = R := by rw [← hR, decide_eq_decide, h]
  have HR := Lib.hid hR2
  clear hR hR2 h
  have hc : c.toNat < 256 := c.toNat_lt
  generalize c.toNat = k at *
  go_enter Tryz.func70, Tryz.ntmps70
  go_wp2
  all_goals
    go_ret
    refine ⟨ret_bool ?_, rfl⟩
    rw [← HR.out]
    first | exact (decide_eq_true (by omega)).symm | exact (decide_eq_false (by omega)).symm | (rw [decide_eq_decide]; omega)

set_option maxRecDepth 100000 in
set_option maxHeartbeats 1000000 in
theorem rdigits_any (s : ByteArray) (w : World) (hs : s.size ≤ 1000000) :
    Calls Tryz.prog 116 #[.string s] w fun e w' => e = .returned (.bool (M.okD 10 s.data.toList)) ∧ w = w' := by
  have hLl := sz_list s
  obtain ⟨R, hR⟩ : ∃ R, M.okD 10 s.data.toList = R := ⟨_, rfl⟩
  rw [hR]
  have HR := Lib.hid hR
  have HL := Lib.hid hLl
  clear hR hLl
  go_enter Tryz.func116, Tryz.ntmps116
  go_wp2
  go_loop [3] (fun i => ∃ k : Nat, i = .int .i64 k ∧ k ≤ s.size ∧ Hid (M.allD 10 (s.data.toList.take k) = true)) (fun i => s.size - (intOf i).toNat)
  case atStart => exact ⟨0, rfl, Nat.zero_le _, rfl⟩
  case round =>
    obtain ⟨k, rfl, hk, hst⟩ := hrel
    by_cases hlt : k < s.size
    · have hltd : decide (k < s.size) = true := by simpa using hlt
      have c1 := isDigit_any s[k] w
      have hsn := M.allD_snoc 10 (s.data.toList.take k) s[k]
      rw [← take_snoc s k hlt, hst.out, Bool.true_and] at hsn
      have HS := Lib.hid hsn
      clear hsn
      by_cases hdb : M.dv s[k] < 10
      · rw [decide_eq_true hdb] at c1
        have HDB := Lib.hid hdb
        clear hdb
        go_wp2_with (go_at_call 70; refine c1.mono ?_; rintro r w' ⟨rfl, rfl⟩)
        go_round
        case rel => exact ⟨k + 1, by go_num, by omega, by show _ = true; rw [HS.out]; simpa using HDB.out⟩
        case measure => simp [intOf]; omega
      · rw [decide_eq_false hdb] at c1
        have HDB := Lib.hid hdb
        clear hdb
        go_wp2_with (go_at_call 70; refine c1.mono ?_; rintro r w' ⟨rfl, rfl⟩)
        go_ret
        refine ⟨ret_bool ?_, rfl⟩
        have h1 : M.allD 10 (s.data.toList.take (k + 1)) = false := by rw [HS.out]; simpa using HDB.out
        rw [← HR.out]
        unfold M.okD
        rw [← List.take_append_drop (k + 1) s.data.toList, M.allD_append, h1]
        simp
    · obtain rfl : k = s.size := by omega
      have hltd : decide (s.size < s.size) = false := by simp
      have h1 := hst.out
      rw [take_all] at h1
      have HF := Lib.hid h1
      clear h1 hst
      go_wp2
      all_goals
        go_ret
        refine ⟨ret_bool ?_, rfl⟩
        rw [← HR.out]
        unfold M.okD
        rw [HF.out, Bool.and_true]
        have hl := HL.out
        cases hh : s.data.toList with
        | nil => rw [hh] at hl; simp at hl; simp [hl]
        | cons c r => rw [hh] at hl; simp at hl; simp [hl]

set_option maxRecDepth 100000 in
set_option maxHeartbeats 1000000 in
theorem value_any (c : UInt8) (w : World) : Calls Tryz.prog 114 #[.int .u8 c.toNat] w fun e w' => e = .returned (.int .i64 (M.dv c : Nat)) ∧ w = w' := by
  obtain ⟨R, hR⟩ : ∃ R, M.dv c = R := ⟨_, rfl⟩
  rw [hR]
  have HR := Lib.hid hR
  clear hR
  have hc : c.toNat < 256 := c.toNat_lt
  unfold M.dv at HR
  generalize c.toNat = k at *
  go_enter Tryz.func114, Tryz.ntmps114
  go_wp2
  all_goals
    go_ret
    refine ⟨ret_int ?_, rfl⟩
    rw [← HR.out]
    clear HR
    repeat' split
    all_goals omega

theorem head_ne (A : ByteArray) (h0 : 0 < A.size) (h : M.isNeg A.data.toList = false) : ¬ A[0].toNat = 45 := by
  intro e
  have := head_not A h0 h
  rw [e] at this
  exact absurd this (by decide)
set_option maxRecDepth 100000 in
set_option maxHeartbeats 1000000 in
theorem rgood_any (s : ByteArray) (w : World) (hs : s.size ≤ 100000) :
    Calls Tryz.prog 118 #[.string s] w fun e w' => e = .returned (.bool (M.goodB s.data.toList)) ∧ w = w' := by
  by_cases h48 : s.data.toList = [48]
  · have e1 : (s.toList == [48]) = true := by rw [ByteArray.toList_eq, h48]; rfl
    have e2 : M.goodB s.data.toList = true := by unfold M.goodB; rw [h48]; rfl
    rw [e2]
    clear h48 e2
    go_enter Tryz.func118, Tryz.ntmps118
    go_wp2
    go_ret
    exact ⟨rfl, rfl⟩
  · have e1 : (s.toList == [48]) = false := by rw [ByteArray.toList_eq]; simpa using h48
    have hG : M.goodB s.data.toList = (M.okD 10 (M.unsign s.data.toList) && decide (M.unsign s.data.toList ≠ [] ∧ (M.unsign s.data.toList).head? ≠ some 48)) := by
      unfold M.goodB; rw [decide_eq_false h48, Bool.false_or]
    rw [hG]
    clear hG h48
    have hU : (bA (M.unsign s.data.toList)).size ≤ 1000000 := by
      rw [bA_size]
      have : (M.unsign s.data.toList).length ≤ s.data.toList.length := by
        unfold M.unsign
        split
        · rw [List.length_tail]; omega
        · omega
      rw [← sz_list] at this
      omega
    have c1 := rdigits_any (bA (M.unsign s.data.toList)) w hU
    rw [bA_toList] at c1
    -- the test of the first digit
    obtain ⟨U, hUe⟩ : ∃ U, bA (M.unsign s.data.toList) = U := ⟨_, rfl⟩
    have hUl : M.unsign s.data.toList = U.data.toList := by rw [← hUe, bA_toList]
    rw [hUe] at c1 hU
    have hcut : (0 < s.size ∧ M.isNeg s.data.toList = true ∧ U = s.extract 1 s.size) ∨ (M.isNeg s.data.toList = false ∧ U = s) := by
      by_cases hn : M.isNeg s.data.toList = true
      · left
        refine ⟨?_, hn, ?_⟩
        · rw [sz_list]
          match hh : s.data.toList, hn with
          | c :: r, _ => simp
        · rw [← hUe]; symm; apply eq_bA; rw [Lib.extract_to_end]; unfold M.unsign; rw [if_pos hn]; simp
      · right
        exact ⟨by simpa using hn, by rw [← hUe]; unfold M.unsign; rw [if_neg hn, bA_of]⟩
    have HUL := Lib.hid hUl
    by_cases hok : M.okD 10 (M.unsign s.data.toList) = true
    · rw [hok] at c1 ⊢
      have hne : 0 < U.size := by
        rw [sz_list, ← hUl]
        exact List.length_pos_iff.2 ((M.okD_iff _ _).1 hok).1
      have hl := drop_cons U 0 hne
      rw [List.drop_zero] at hl
      have hR : (true && decide (M.unsign s.data.toList ≠ [] ∧ (M.unsign s.data.toList).head? ≠ some 48)) = !decide (U[0].toNat = 48) := by
        rw [Bool.true_and, hUl, hl]
        rw [← decide_not, decide_eq_decide]
        simp [← UInt8.toNat_inj]
      rw [hR]
      clear hR hl hok hUl HUL hUe
      rcases hcut with ⟨h0, hn, hcut⟩ | ⟨hn, hcut⟩
      · have h45 := head_is s h0 hn
        have h1 : s.size - 1 = U.size := by rw [hcut]; simp
        have hx : s.extract 1 s.size = U := hcut.symm
        clear hn hcut
        by_cases hz : U[0].toNat = 48
        · rw [decide_eq_true hz]
          go_enter Tryz.func118, Tryz.ntmps118
          go_wp2_with fail
          refine c1.mono ?_
          rintro r w' ⟨rfl, rfl⟩
          go_wp2
          go_ret
          exact ⟨rfl, rfl⟩
        · have hzb : ((U[0].toNat : Int) != 48) = true := by simp; omega
          rw [decide_eq_false hz]
          clear hz
          go_enter Tryz.func118, Tryz.ntmps118
          go_wp2_with fail
          refine c1.mono ?_
          rintro r w' ⟨rfl, rfl⟩
          go_wp2
          go_ret
          exact ⟨rfl, rfl⟩
      · subst hcut
        have h45 := head_not U hne hn
        clear hn
        by_cases hz : U[0].toNat = 48
        · rw [decide_eq_true hz]
          clear h45
          go_enter Tryz.func118, Tryz.ntmps118
          go_wp2_with fail
          refine c1.mono ?_
          rintro r w' ⟨rfl, rfl⟩
          go_wp2
          go_ret
          exact ⟨rfl, rfl⟩
        · have hzb : ((U[0].toNat : Int) != 48) = true := by simp; omega
          rw [decide_eq_false hz]
          clear hz
          go_enter Tryz.func118, Tryz.ntmps118
          go_wp2_with fail
          refine c1.mono ?_
          rintro r w' ⟨rfl, rfl⟩
          go_wp2
          go_ret
          exact ⟨rfl, rfl⟩
    · have hok' : M.okD 10 (M.unsign s.data.toList) = false := by simpa using hok
      rw [hok'] at c1 ⊢
      rw [Bool.false_and]
      clear hok hok' hUl HUL hUe
      rcases hcut with ⟨h0, hn, hcut⟩ | ⟨hn, hcut⟩
      · have h45 := head_is s h0 hn
        have hx : s.extract 1 s.size = U := hcut.symm
        clear hn hcut
        go_enter Tryz.func118, Tryz.ntmps118
        go_wp2_with fail
        refine c1.mono ?_
        rintro r w' ⟨rfl, rfl⟩
        go_wp2
        go_ret
        exact ⟨rfl, rfl⟩
      · subst hcut
        by_cases h0 : 0 < U.size
        · have h45 := head_not U h0 hn
          clear hn
          go_enter Tryz.func118, Tryz.ntmps118
          go_wp2_with fail
          refine c1.mono ?_
          rintro r w' ⟨rfl, rfl⟩
          go_wp2
          go_ret
          exact ⟨rfl, rfl⟩
        · have h00 : U.size = 0 := by omega
          clear hn h0
          go_enter Tryz.func118, Tryz.ntmps118
          go_wp2_with fail
          refine c1.mono ?_
          rintro r w' ⟨rfl, rfl⟩
          go_wp2
          go_ret
          exact ⟨rfl, rfl⟩
end Go.Proofs.YtipgipgehnhgkaaGreatDoor

namespace Go.Proofs.YtipgipgehnhgkaaGreatDoor
open Go.RowKit

/-- Digits without noughts ahead, but a last one. -/
theorem lean_dg (l : List UInt8) (ha : M.allD 10 l = true) (h0 : 0 < l.length) (h : l.length = 1 ∨ l.head? ≠ some 48) : l = M.dg (M.val 10 l) := by
  have hne : l ≠ [] := List.length_pos_iff.1 h0
  by_cases hh : l.head? = some 48
  · have h1 : l.length = 1 := by rcases h with h | h; exact h; exact absurd hh h
    match l, h1, hh with
    | [c], _, hh =>
      have : c = 48 := by simpa using hh
      subst this
      rw [M.val_one, show M.dv 48 = 0 by decide, M.dg_zero]
  · exact (M.dg_of l ((M.okD_iff _ _).2 ⟨hne, ha⟩) ⟨hne, hh⟩).2
theorem val_drop_nought (l : List UInt8) (i : Nat) (hi : i < l.length) (h : l[i] = 48) : M.val 10 (l.drop i) = M.val 10 (l.drop (i + 1)) := by
  rw [List.drop_eq_getElem_cons hi, M.val_cons, h, show M.dv 48 = 0 by decide, Nat.zero_mul, Nat.zero_add]

set_option maxRecDepth 100000 in
set_option maxHeartbeats 1000000 in
theorem rnorm_yes (neg : Bool) (s : ByteArray) (w : World) (hs : s.size ≤ 100000) (hd : M.okD 10 s.data.toList = true) :
    Calls Tryz.prog 66 #[.bool neg, .string s] w fun e w' => e = .returned (.string (tx (M.sgn neg (M.val 10 s.data.toList)))) ∧ w = w' := by
  have c1 := rdigits_any s w (by omega)
  rw [hd] at c1
  obtain ⟨hne, hall⟩ := (M.okD_iff _ _).1 hd
  have h0 : 0 < s.size := by rw [sz_list]; exact List.length_pos_iff.2 hne
  obtain ⟨R, hR⟩ : ∃ R, tx (M.sgn neg (M.val 10 s.data.toList)) = R := ⟨_, rfl⟩
  rw [hR]
  have HR := Lib.hid hR
  have HALL := Lib.hid hall
  clear hd hne hall hR
  go_enter Tryz.func66, Tryz.ntmps66
  go_wp2_with fail
  refine c1.mono ?_
  rintro r w' ⟨rfl, rfl⟩
  clear c1
  go_wp2
  go_loop [5] (fun v => ∃ i : Nat, v = .int .i64 i ∧ i < s.size ∧ Hid (M.val 10 (s.data.toList.drop i) = M.val 10 s.data.toList)) (fun v => s.size - (intOf v).toNat)
  case atStart => exact ⟨0, rfl, h0, rfl⟩
  case round =>
    obtain ⟨i, rfl, hi, hst⟩ := hrel
    by_cases hgo : i + 1 < s.size ∧ s[i].toNat = 48
    · obtain ⟨hg1, hg2⟩ := hgo
      have d1 : decide ((i : Int) < (s.size : Int) - 1) = true := decide_eq_true (by omega)
      have hv := val_drop_nought s.data.toList i (by rw [← sz_list]; exact hi) (UInt8.toNat_inj.1 hg2)
      rw [hst.out] at hv
      have HV := Lib.hid hv.symm
      clear hv hst
      go_wp2
      go_round
      case rel => exact ⟨i + 1, by go_num, by omega, HV.out⟩
      case measure => simp [intOf]; omega
    · have hle : s.data.toList.drop i = M.dg (M.val 10 s.data.toList) := by
        rw [← hst.out]
        apply lean_dg
        · have := HALL.out
          rw [← List.take_append_drop i s.data.toList, M.allD_append, Bool.and_eq_true] at this
          exact this.2
        · rw [List.length_drop, ← sz_list]; omega
        · by_cases hg1 : i + 1 < s.size
          · right
            rw [drop_cons s i hi]
            have : ¬ s[i].toNat = 48 := fun e => hgo ⟨hg1, e⟩
            simp [← UInt8.toNat_inj]
            exact this
          · left; rw [List.length_drop, ← sz_list]; omega
      obtain ⟨n, hn⟩ : ∃ n, M.val 10 s.data.toList = n := ⟨_, rfl⟩
      rw [hn] at hle
      have hRn : R = tx (M.sgn neg n) := by rw [← HR.out, hn]
      have hx : s.extract i s.size = bA (M.dg n) := by apply eq_bA; rw [Lib.extract_to_end]; exact hle
      have hz : ((bA (M.dg n)).toList == [48]) = decide (n = 0) := by
        have := tx_beq (n : Int) 0
        rw [show (tx 0).toList = [48] by rw [tx0, ByteArray.toList_eq], show tx (n : Int) = bA (M.dg n) by unfold tx; rw [M.txt_nat]] at this
        rw [this, decide_eq_decide]; omega
      have hzs : (bA (M.dg n)).size ≤ 100000 := by rw [← hx]; simp; omega
      have hmin : ⟨#[45]⟩ ++ bA (M.dg n) = bA (45 :: M.dg n) := bA_append [45] (M.dg n)
      have hR0 : n = 0 → R = bA (M.dg n) := by intro h; rw [hRn, h, M.sgn_zero]; unfold tx; rw [M.txt_zero, M.dg_zero]
      have hR1 : n ≠ 0 → neg = true → R = bA (45 :: M.dg n) := by intro h h2; rw [hRn, h2]; unfold tx; rw [M.txt_sgn _ _ (by omega)]; rfl
      have hR2 : neg = false → R = bA (M.dg n) := by intro h2; rw [hRn, h2]; unfold tx; exact congrArg bA (M.txt_nat n)
      have HR0 := Lib.hid hR0
      have HR1 := Lib.hid hR1
      have HR2 := Lib.hid hR2
      clear hle hn hRn hR0 hR1 hR2 HALL HR hst
      generalize bA (M.dg n) = D at *
      generalize bA (45 :: M.dg n) = E at *
      by_cases hg1 : i + 1 < s.size
      · have d1 : decide ((i : Int) < (s.size : Int) - 1) = true := decide_eq_true (by omega)
        have hnz : ¬ s[i].toNat = 48 := fun e => hgo ⟨hg1, e⟩
        have d2 : ((s[i].toNat : Int) == 48) = false := by simp; omega
        clear hnz hgo
        cases neg
        · go_wp2
          go_ret
          exact ⟨ret_str (HR2.out (by trivial)).symm, rfl⟩
        · by_cases hn0 : n = 0
          · rw [decide_eq_true hn0] at hz
            have HN := Lib.hid hn0
            clear hn0
            go_wp2
            go_ret
            exact ⟨ret_str (HR0.out HN.out).symm, rfl⟩
          · rw [decide_eq_false hn0] at hz
            have HN := Lib.hid hn0
            clear hn0
            go_wp2
            go_ret
            exact ⟨ret_str (HR1.out HN.out (by trivial)).symm, rfl⟩
      · have d1 : decide ((i : Int) < (s.size : Int) - 1) = false := decide_eq_false (by omega)
        clear hgo
        cases neg
        · go_wp2
          go_ret
          exact ⟨ret_str (HR2.out (by trivial)).symm, rfl⟩
        · by_cases hn0 : n = 0
          · rw [decide_eq_true hn0] at hz
            have HN := Lib.hid hn0
            clear hn0
            go_wp2
            go_ret
            exact ⟨ret_str (HR0.out HN.out).symm, rfl⟩
          · rw [decide_eq_false hn0] at hz
            have HN := Lib.hid hn0
            clear hn0
            go_wp2
            go_ret
            exact ⟨ret_str (HR1.out HN.out (by trivial)).symm, rfl⟩
theorem rnorm_no (neg : Bool) (s : ByteArray) (w : World) (hs : s.size ≤ 100000) (hd : M.okD 10 s.data.toList = false) :
    Calls Tryz.prog 66 #[.bool neg, .string s] w fun e w' => e = .returned (.string ⟨#[]⟩) ∧ w = w' := by
  have c1 := rdigits_any s w (by omega)
  rw [hd] at c1
  clear hd
  go_enter Tryz.func66, Tryz.ntmps66
  go_wp2_with (go_at_call 116; refine c1.mono ?_; rintro r w' ⟨rfl, rfl⟩)
  go_ret
  exact ⟨rfl, rfl⟩
theorem rnorm_list (neg : Bool) (l : List UInt8) (w : World) (h : M.okD 10 l = true) (hl : l.length ≤ 100000) :
    Calls Tryz.prog 66 #[.bool neg, .string (bA l)] w fun e w' => e = .returned (.string (tx (M.sgn neg (M.val 10 l)))) ∧ w = w' := by
  have := rnorm_yes neg (bA l) w (by rw [bA_size]; omega) (by rw [bA_toList]; exact h)
  rwa [bA_toList] at this
end Go.Proofs.YtipgipgehnhgkaaGreatDoor

namespace Go.Proofs.YtipgipgehnhgkaaGreatDoor
open Go.RowKit

theorem Row.alloc {w : World} {g : Nat} {l : List UInt8} (h : Row w g l) (o : Obj) : Row (w.alloc o) g l :=
  h.below ((Below.refl w.heap.size w).alloc (Nat.le_refl _) o) h.lt
def dg1 (c : Nat) : UInt8 := UInt8.ofNat (48 + c % 10)
theorem dg1_dv (c : Nat) : M.dv (dg1 c) = c % 10 := M.dv_dig _ (by omega)
theorem mulr_step (t r : List UInt8) (x : UInt8) (c m k C : Nat) (hl : r.length = t.length) (hC : C = c + M.dv x * m) (h : M.val 10 r + c * 10 ^ r.length = M.val 10 t * m + k) :
    M.val 10 (dg1 C :: r) + C / 10 * 10 ^ (r.length + 1) = M.val 10 (x :: t) * m + k := by
  rw [M.val_cons, M.val_cons, dg1_dv, Nat.pow_succ, Nat.add_mul, ← hl]
  have e : C % 10 * 10 ^ r.length + C / 10 * (10 ^ r.length * 10) = C * 10 ^ r.length := by
    rw [← Nat.mul_assoc, Nat.mul_right_comm, ← Nat.add_mul]
    congr 1; omega
  have e2 : C * 10 ^ r.length = c * 10 ^ r.length + M.dv x * 10 ^ r.length * m := by
    rw [hC, Nat.add_mul]; congr 1; rw [Nat.mul_right_comm]
  omega
theorem head_step (h : List UInt8) (c T : Nat) (hh : M.val 10 h + c * 10 ^ h.length = T) : M.val 10 (dg1 c :: h) + c / 10 * 10 ^ (h.length + 1) = T := by
  rw [M.val_cons, dg1_dv, Nat.pow_succ]
  have e : c % 10 * 10 ^ h.length + c / 10 * (10 ^ h.length * 10) = c * 10 ^ h.length := by
    rw [← Nat.mul_assoc, Nat.mul_right_comm, ← Nat.add_mul]
    congr 1; omega
  omega
theorem head_room (c n : Nat) (hc : 0 < c) (h : c < 10 ^ (13 - n)) : n < 13 ∧ c / 10 < 10 ^ (13 - (n + 1)) := by
  rcases Nat.lt_or_ge n 13 with h1 | h1
  · refine ⟨h1, ?_⟩
    rw [show 13 - n = (13 - (n + 1)) + 1 by omega, Nat.pow_succ] at h
    omega
  · rw [show 13 - n = 0 by omega] at h; simp at h; omega

set_option maxRecDepth 100000 in
set_option maxHeartbeats 2000000 in
theorem rmulAdd_any (s : ByteArray) (m k : Nat) (w : World) (hs : s.size ≤ 10000) (h0 : 0 < s.size) (hd : M.allD 10 s.data.toList = true) (hm : m ≤ 1099511627776) (hk : k ≤ 1099511627776) :
    Calls Tryz.prog 115 #[.string s, .int .i64 m, .int .i64 k] w fun e w' => e = .returned (.string (tx ((M.val 10 s.data.toList * m + k : Nat) : Int))) ∧ Below w.heap.size w w' := by
  obtain ⟨T, hT⟩ : ∃ T, M.val 10 s.data.toList * m + k = T := ⟨_, rfl⟩
  rw [hT]
  have HT := Lib.hid hT
  have HD := Lib.hid hd
  clear hT hd
  obtain ⟨i0, hi, hz0, hz1, hz2⟩ := info_parts Tryz.info5
  go_enter Tryz.func115, Tryz.ntmps115
  go_wp2_with (first | (at_make; refine wpList_make_full w rfl (.tmp 12) (.tmp 12) 22 rfl w.heap.size 5 i0 (.int .u8 0) 1 Tryz.underlying22 hi hz0 hz1 .i64 .i64 _ _ s.size rfl rfl (by simp) (by simp) (by rw [hz2]; omega) (by unfold maxLen; omega) (Nat.le_refl _) ?_; intro w1 ho1 hg1; obtain ⟨hR1, hB1⟩ := made_mem w w1 _ ho1 hg1; have HR1 := Lib.hid hR1; clear ho1 hg1 hR1) | fail)
  go_loopw [8, 9] (fun cv iv wr => ∃ (c i : Nat) (z : Int) (r : List UInt8), cv = .int .i64 c ∧ iv = .int .i64 z ∧ z + 1 = i ∧ c ≤ 1099511627776 ∧ i ≤ s.size ∧ Hid (r.length + i = s.size) ∧ Hid (M.allD 10 r = true) ∧ Hid (M.val 10 r + c * 10 ^ r.length = M.val 10 (s.data.toList.drop i) * m + k) ∧ Hid (Row wr w.heap.size (List.replicate i 0 ++ r)) ∧ Below w.heap.size w wr) (fun _ iv _ => (intOf iv + 1).toNat)
  case atStart => exact ⟨k, s.size, (s.size : Int) - 1, [], rfl, by go_num, by omega, hk, Nat.le_refl _, by show _ = _; simp, rfl, by show _ = _; rw [List.drop_of_length_le (by rw [← sz_list]; omega)]; simp [M.val], by show Row _ _ _; rw [List.append_nil]; exact HR1.out, hB1⟩
  case round =>
    obtain ⟨c, i, z, r, rfl, rfl, hz, hc, hi, hrl, hra, hst, hrow, hbw⟩ := hrel
    by_cases hgo : 0 < i
    · obtain ⟨j, rfl⟩ : ∃ j, i = j + 1 := ⟨i - 1, by omega⟩
      obtain rfl : z = (j : Int) := by omega
      have hjl : j < s.size := by omega
      have hdv : M.dv s[j] < 10 := (M.allD_iff _ _).1 HD.out _ (List.mem_of_getElem? (get_list s j hjl))
      obtain ⟨e1, e2, e3⟩ := M.dv_lt10 hdv
      obtain ⟨v, hv⟩ : ∃ v, M.dv s[j] = v := ⟨_, rfl⟩
      have hev : (s[j].toNat : Int) - 48 = (v : Int) := by omega
      obtain ⟨C, hC⟩ : ∃ C, C = c + v * m := ⟨_, rfl⟩
      have hstep := mulr_step (s.data.toList.drop (j + 1)) r s[j] c m k C (by have := hrl.out; rw [List.length_drop, ← sz_list]; omega) (by rw [hv]; exact hC) hst.out
      rw [← drop_cons s j hjl] at hstep
      obtain ⟨vm, hvm⟩ : ∃ vm, v * m = vm := ⟨_, rfl⟩
      have hvm2 : (v : Int) * (m : Int) = (vm : Int) := by rw [← Int.natCast_mul, hvm]
      have hvm3 : vm ≤ 9 * 1099511627776 := by rw [← hvm]; exact Nat.mul_le_mul (by omega) hm
      rw [hvm] at hC
      have hC2 : (c : Int) + (vm : Int) = (C : Int) := by omega
      have hC3 : C ≤ 10995116277760 := by omega
      have hfr := hrow.out.frozen j
      obtain ⟨x, hx⟩ : ∃ x, wr.cell? ⟨w.heap.size, j, none⟩ = some (.int .u8 x) := ⟨_, hrow.out.cell j (by simp; omega)⟩
      have hset := hrow.out.set j (dg1 C)
      rw [set_rep, show ((dg1 C).toNat : Int) = 48 + (C : Int) % 10 from dig_cast C] at hset
      have HSET := Lib.hid hset
      have HSTEP := Lib.hid hstep
      clear hset hstep hrow hst hv e3 hC hvm hdv
      go_wp2
      go_roundw
      case rel => exact ⟨C / 10, j, (j : Int) - 1, dg1 C :: r, by rw [cast_div10], rfl, by omega, by omega, by omega, by show _ = _; rw [List.length_cons]; have := hrl.out; omega, allD_cons (dg1_dv C) (by omega) hra.out, HSTEP.out, HSET.out, hbw.setCell (Nat.le_refl _) _⟩
      case measure => simp [intOf]
    · obtain rfl : i = 0 := by omega
      obtain rfl : z = -1 := by omega
      have hst1 := hst.out
      rw [List.drop_zero, HT.out] at hst1
      have hrow1 := hrow.out
      rw [List.replicate_zero, List.nil_append] at hrow1
      have HST := Lib.hid hst1
      have HROW := Lib.hid hrow1
      clear hst hst1 hrow hrow1 hgo hi hz
      go_wp2
      go_loopw [8, 10] (fun cv hv wr2 => ∃ (e : Nat) (h : List UInt8) (H : ByteArray), cv = .int .i64 e ∧ hv = .string H ∧ e ≤ 1099511627776 ∧ H.size ≤ 13 ∧ Hid (H = bA h) ∧ Hid (e < 10 ^ (13 - h.length)) ∧ Hid (h.length ≤ 13) ∧ Hid (M.allD 10 h = true) ∧ Hid (M.val 10 h + e * 10 ^ h.length = c) ∧ Hid (Row wr2 w.heap.size r) ∧ Below w.heap.size w wr2) (fun cv _ _ => (intOf cv).toNat)
      case atStart => exact ⟨c, [], ⟨#[]⟩, rfl, rfl, hc, by decide, rfl, by show _ < _; simp; omega, by show _ ≤ _; simp, rfl, by show _ = _; simp [M.val], HROW.out, hbw⟩
      case round =>
        obtain ⟨e, h, H, rfl, rfl, he, hH, HH, hroom, hhl, hha, hhv, hrow2, hbw2⟩ := hrel
        have hsz := hbw2.size
        by_cases he0 : 0 < e
        · have hed : decide (0 < e) = true := by simpa using he0
          obtain ⟨r1, r2⟩ := head_room e h.length he0 hroom.out
          have hstep := head_step h e c hhv.out
          have k3 := fun W => one_conv W (48 + (e : Int) % 10) (dg1 e) (dig_cast e)
          have hXs : (bA [dg1 e]).size = 1 := bA_size _
          have hXH : bA [dg1 e] ++ H = bA (dg1 e :: h) := by rw [HH.out]; exact bA_append [dg1 e] h
          have hH2 : H.size = h.length := by rw [HH.out, bA_size]
          have HXH := Lib.hid hXH
          have HSTEP := Lib.hid hstep
          have HR2 := Lib.hid r2
          have hrow3 := Lib.hid (fun o => hrow2.out.alloc o)
          have hXz := Lib.hid (append_sz (bA [dg1 e]) H)
          generalize bA [dg1 e] = X at *
          clear hstep r2 hXH hroom hhv
          go_wp2
          go_roundw
          case rel => exact ⟨e / 10, dg1 e :: h, X ++ H, by rw [cast_div10], rfl, by omega, by rw [hXz.out]; omega, HXH.out, HR2.out, by show _ ≤ _; rw [List.length_cons]; omega, allD_cons (dg1_dv e) (by omega) hha.out, HSTEP.out, hrow3.out _, hbw2.alloc hsz _⟩
          case measure => simp [intOf]; omega
        · obtain rfl : e = 0 := by omega
          have hv0 := hhv.out
          rw [Nat.zero_mul, Nat.add_zero] at hv0
          have hlr : r.length = s.size := by have := hrl.out; omega
          have hcv := hrow2.out.conv0 s.size
          rw [hlr] at hcv
          have hval : M.val 10 (h ++ r) = T := by rw [M.val_append, hv0, ← HST.out, Nat.add_comm]
          have hok : M.okD 10 (h ++ r) = true := by
            rw [M.okD_iff, M.allD_append, hha.out, hra.out]
            refine ⟨?_, rfl⟩
            intro e
            have := congrArg List.length e
            rw [List.length_append, List.length_nil] at this
            omega
          have c1 := fun W => rnorm_list false (h ++ r) W hok (by rw [List.length_append]; have := hhl.out; omega)
          rw [hval, ← bA_append, ← HH.out] at c1
          rw [show M.sgn false T = (T : Int) from rfl] at c1
          have hrs : (bA r).size = s.size := by rw [bA_size, hlr]
          generalize bA r = Rr at *
          clear hroom hhv hv0 hval hok hlr hha hhl HH hrow2 HST HROW
          go_wp2_with fail
          refine (c1 _).mono ?_
          rintro r w' ⟨rfl, rfl⟩
          go_wp2
          go_ret
          exact ⟨rfl, hbw2⟩
end Go.Proofs.YtipgipgehnhgkaaGreatDoor

namespace Go.Proofs.YtipgipgehnhgkaaGreatDoor
open Go.RowKit

theorem tx_nat_list (n : Nat) : (tx (n : Int)).data.toList = M.dg n := by rw [tx_list, M.txt_nat]
theorem rmul_nat (a m k : Nat) (r : ByteArray) (hr : r = tx ((a * m + k : Nat) : Int)) (ha : (tx (a : Int)).size ≤ 10000) (hm : m ≤ 1099511627776) (hk : k ≤ 1099511627776) (w : World) :
    Calls Tryz.prog 115 #[.string (tx a), .int .i64 m, .int .i64 k] w fun e w' => e = .returned (.string r) ∧ Below w.heap.size w w' := by
  have := rmulAdd_any (tx (a : Int)) m k w ha (tx_pos _) (by rw [tx_nat_list]; exact M.dg_all a) hm hk
  rw [hr]
  rwa [tx_nat_list, M.dg_val] at this
def tAt (b : Nat) (l : List UInt8) (i : Nat) : ByteArray := tx ((M.val b (l.take i) : Nat) : Int)
theorem tAt_size (b : Nat) (l : List UInt8) (i : Nat) (hb : b ≤ 16) (hl : l.length ≤ 100) (ha : M.allD b (l.take i) = true) : (tAt b l i).size ≤ 10000 := by
  have h1 := M.val_lt b _ ha
  have h2 : b ^ (l.take i).length ≤ 16 ^ 100 := Nat.le_trans (Nat.pow_le_pow_left hb _) (Nat.pow_le_pow_right (by omega) (by rw [List.length_take]; omega))
  have h3 : (16 : Nat) ^ 100 ≤ 10 ^ 130 := by decide +kernel
  exact Nat.le_trans (tx_len _ 130 (by omega) (by omega)) (by omega)

end Go.Proofs.YtipgipgehnhgkaaGreatDoor

namespace Go.Proofs.YtipgipgehnhgkaaGreatDoor
open Go.RowKit

set_option maxRecDepth 100000 in
set_option maxHeartbeats 1000000 in
theorem rmul_yes (a m k : Nat) (w : World) (ha : (tx (a : Int)).size ≤ 6000) (hm : m ≤ 1099511627776) (hk : k ≤ 1099511627776) :
    Calls Tryz.prog 117 #[.string (tx a), .int .i64 m, .int .i64 k] w fun r w' => r = .returned (.string (tx ((a * m + k : Nat) : Int))) ∧ Below w.heap.size w w' := by
  have c1 := rgood_any (tx (a : Int)) w (by omega)
  rw [tx_good] at c1
  have h0 := tx_pos (a : Int)
  have hh := head_not (tx (a : Int)) h0 (by rw [tx_list, M.txt_isNeg]; simp)
  have c2 := rmul_nat a m k _ rfl (by omega) hm hk
  generalize tx ((a * m + k : Nat) : Int) = R at *
  generalize tx (a : Int) = A at *
  have q1 : decide ((m : Int) < 0) = false := decide_eq_false (by omega)
  have q2 : decide ((1099511627776 : Int) < (m : Int)) = false := decide_eq_false (by omega)
  have q3 : decide ((k : Int) < 0) = false := decide_eq_false (by omega)
  have q4 : decide ((1099511627776 : Int) < (k : Int)) = false := decide_eq_false (by omega)
  go_enter Tryz.func117, Tryz.ntmps117
  go_wp2_with fail
  refine c1.mono ?_
  rintro r w' ⟨rfl, rfl⟩
  go_wp2_with fail
  refine (c2 _).mono ?_
  rintro r w1 ⟨rfl, hb1⟩
  clear c1 c2
  go_wp2
  go_ret
  exact ⟨rfl, hb1⟩
set_option maxRecDepth 100000 in
set_option maxHeartbeats 1000000 in
theorem rmul_no (A : ByteArray) (m k : Int) (w : World) (hA : A.size ≤ 6000) (h : mulNo A m k) :
    Calls Tryz.prog 117 #[.string A, .int .i64 m, .int .i64 k] w fun r w' => r = .returned (.string ⟨#[]⟩) ∧ w = w' := by
  have c1 := rgood_any A w (by omega)
  by_cases hg : M.goodB A.data.toList = true
  · rw [hg] at c1
    obtain ⟨z, hz⟩ := M.txt_of_good hg
    have h0 : 0 < A.size := by rw [sz_list, hz]; exact List.length_pos_iff.2 (M.txt_ne z)
    clear hz z
    by_cases hn : M.isNeg A.data.toList = true
    · have h2 := head_is A h0 hn
      have h3 : ((A[0].toNat : Int) == 45) = true := by rw [h2]; rfl
      clear hn hg h h2
      go_enter Tryz.func117, Tryz.ntmps117
      go_wp2_with fail
      refine c1.mono ?_
      rintro r w' ⟨rfl, rfl⟩
      go_wp2
      go_ret
      exact ⟨rfl, rfl⟩
    · have h2 := head_not A h0 (by simpa using hn)
      have hmk : (m < 0 ∨ 1099511627776 < m) ∨ (k < 0 ∨ 1099511627776 < k) := by
        rcases h with h | h | h | h
        · rw [hg] at h; cases h
        · exact absurd h hn
        · left; unfold stepB at h; have := of_decide_eq_false h; omega
        · right; unfold stepB at h; have := of_decide_eq_false h; omega
      clear hn hg h
      by_cases h10 : m < 0
      · have q1 : decide (m < (0 : Int)) = true := decide_eq_true (by omega)
        clear h10
        clear hmk
        go_enter Tryz.func117, Tryz.ntmps117
        go_wp2_with fail
        refine c1.mono ?_
        rintro r w' ⟨rfl, rfl⟩
        go_wp2
        go_ret
        exact ⟨rfl, rfl⟩
      by_cases h11 : 1099511627776 < m
      · have q1 : decide (m < (0 : Int)) = false := decide_eq_false (by omega)
        have q2 : decide ((1099511627776 : Int) < m) = true := decide_eq_true (by omega)
        clear h10 h11
        clear hmk
        go_enter Tryz.func117, Tryz.ntmps117
        go_wp2_with fail
        refine c1.mono ?_
        rintro r w' ⟨rfl, rfl⟩
        go_wp2
        go_ret
        exact ⟨rfl, rfl⟩
      by_cases h12 : k < 0
      · have q1 : decide (m < (0 : Int)) = false := decide_eq_false (by omega)
        have q2 : decide ((1099511627776 : Int) < m) = false := decide_eq_false (by omega)
        have q3 : decide (k < (0 : Int)) = true := decide_eq_true (by omega)
        clear h10 h11 h12
        clear hmk
        go_enter Tryz.func117, Tryz.ntmps117
        go_wp2_with fail
        refine c1.mono ?_
        rintro r w' ⟨rfl, rfl⟩
        go_wp2
        go_ret
        exact ⟨rfl, rfl⟩
      have q1 : decide (m < (0 : Int)) = false := decide_eq_false (by omega)
      have q2 : decide ((1099511627776 : Int) < m) = false := decide_eq_false (by omega)
      have q3 : decide (k < (0 : Int)) = false := decide_eq_false (by omega)
      have q4 : decide ((1099511627776 : Int) < k) = true := decide_eq_true (by omega)
      clear h10 h11 h12
      clear hmk
      go_enter Tryz.func117, Tryz.ntmps117
      go_wp2_with fail
      refine c1.mono ?_
      rintro r w' ⟨rfl, rfl⟩
      go_wp2
      go_ret
      exact ⟨rfl, rfl⟩
  · rw [show M.goodB A.data.toList = false by simpa using hg] at c1
    clear hg h
    go_enter Tryz.func117, Tryz.ntmps117
    go_wp2_with fail
    refine c1.mono ?_
    rintro r w' ⟨rfl, rfl⟩
    go_wp2
    go_ret
    exact ⟨rfl, rfl⟩
theorem good_tx {A : ByteArray} (h : M.goodB A.data.toList = true) : ∃ z : Int, A = tx z := by
  obtain ⟨z, hz⟩ := M.txt_of_good h
  exact ⟨z, eq_bA hz⟩
/-- Both sides' MulAdd answer the same. -/
theorem mul_agree (A : ByteArray) (m k : Int) (hA : A.size ≤ 100) : ∃ R : ByteArray, (∀ w, Calls Tryz.prog 96 #[.string A, .int .i64 m, .int .i64 k] w fun e w' => e = .returned (.string R) ∧ Below w.heap.size w w') ∧ (∀ w, Calls Tryz.prog 117 #[.string A, .int .i64 m, .int .i64 k] w fun e w' => e = .returned (.string R) ∧ Below w.heap.size w w') := by
  by_cases h : mulNo A m k
  · exact ⟨⟨#[]⟩, fun w => (mulAdd_no A m k w (by omega) h).mono (fun e w' h => ⟨h.1, h.2 ▸ Below.refl _ _⟩), fun w => (rmul_no A m k w (by omega) h).mono (fun e w' h => ⟨h.1, h.2 ▸ Below.refl _ _⟩)⟩
  · unfold mulNo at h
    have h1 : M.goodB A.data.toList = true := by
      cases hh : M.goodB A.data.toList
      · exact absurd (Or.inl hh) h
      · rfl
    have h2 : ¬ M.isNeg A.data.toList = true := fun e => h (Or.inr (Or.inl e))
    have h3 : stepB m = true := by
      cases hh : stepB m
      · exact absurd (Or.inr (Or.inr (Or.inl hh))) h
      · rfl
    have h4 : stepB k = true := by
      cases hh : stepB k
      · exact absurd (Or.inr (Or.inr (Or.inr hh))) h
      · rfl
    unfold stepB at h3 h4
    have h3' := of_decide_eq_true h3
    have h4' := of_decide_eq_true h4
    obtain ⟨z, rfl⟩ := good_tx h1
    rw [tx_list, M.txt_isNeg] at h2
    have hz : 0 ≤ z := by
      rcases Int.lt_or_le z 0 with h | h
      · exact absurd (decide_eq_true h) h2
      · exact h
    obtain ⟨a, rfl⟩ := Int.eq_ofNat_of_zero_le hz
    obtain ⟨p, rfl⟩ := Int.eq_ofNat_of_zero_le h3'.1
    obtain ⟨q, rfl⟩ := Int.eq_ofNat_of_zero_le h4'.1
    exact ⟨_, fun w => mulAdd_yes a p q w (by rw [← tx_size]; omega) (by omega) (by omega), fun w => rmul_yes a p q w (by omega) (by omega) (by omega)⟩

set_option maxRecDepth 100000 in
set_option maxHeartbeats 1000000 in
theorem text_any (N : Nat) (w : World) (hN : N ≤ 1099511627776) :
    Calls Tryz.prog 12 #[.int .i64 N] w fun e w' => e = .returned (.string (bA (M.dg N))) ∧ Below w.heap.size w w' := by
  have hlen : (M.dg N).length ≤ 13 := M.dg_len_le N 13 (by omega) (by omega)
  obtain ⟨L, hL⟩ : ∃ L, M.dg N = L := ⟨_, rfl⟩
  rw [hL] at hlen ⊢
  have HL := Lib.hid hL
  clear hL
  go_enter Tryz.func12, Tryz.ntmps12
  go_wp2
  go_loopw [0, 3] (fun nv sv wr => ∃ (n : Nat) (h : List UInt8) (H : ByteArray), nv = .int .i64 n ∧ sv = .string H ∧ n ≤ 1099511627776 ∧ H.size ≤ 13 ∧ Hid (H = bA h) ∧ Hid (M.dg n ++ h = L) ∧ Below w.heap.size w wr) (fun nv _ _ => (intOf nv).toNat)
  case atStart => exact ⟨N, [], ⟨#[]⟩, rfl, rfl, hN, by decide, rfl, by show _ = _; rw [List.append_nil]; exact HL.out, Below.refl _ _⟩
  case round =>
    obtain ⟨n, h, H, rfl, rfl, hn, hH, HH, hst, hbw⟩ := hrel
    have hsz := hbw.size
    have k3 := fun W => one_conv W (48 + (n : Int) % 10) (dg1 n) (dig_cast n)
    have hXs : (bA [dg1 n]).size = 1 := bA_size _
    have hXH : bA [dg1 n] ++ H = bA (dg1 n :: h) := by rw [HH.out]; exact bA_append [dg1 n] h
    have HXH := Lib.hid hXH
    have hXz := Lib.hid (append_sz (bA [dg1 n]) H)
    have hHs : H.size = h.length := by rw [HH.out, bA_size]
    have hhl : h.length + 1 ≤ 13 := by
      have := congrArg List.length hst.out
      rw [List.length_append] at this
      have := M.dg_len_pos n
      omega
    clear hXH
    generalize bA [dg1 n] = X at *
    by_cases hn10 : n < 10
    · have e0 : (n : Int) / 10 = 0 := by omega
      have hfin : dg1 n :: h = L := by rw [← hst.out, M.dg_small hn10]; unfold dg1; rw [Nat.mod_eq_of_lt hn10]; rfl
      rw [hfin] at HXH
      clear hst hfin
      go_wp2
      go_ret
      exact ⟨ret_str HXH.out, hbw.alloc hsz _⟩
    · have e0 : ¬ (n : Int) / 10 = 0 := by omega
      have hdd : ((n : Int) / 10 == 0) = false := by simp; omega
      have hfin : M.dg (n / 10) ++ dg1 n :: h = L := by rw [← hst.out, M.dg_big hn10, List.append_assoc]; rfl
      have HF := Lib.hid hfin
      clear hst hfin e0
      go_wp2
      go_roundw
      case rel => exact ⟨n / 10, dg1 n :: h, X ++ H, by rw [cast_div10], rfl, by omega, by rw [hXz.out]; omega, HXH.out, HF.out, hbw.alloc hsz _⟩
      case measure => simp [intOf]; omega

end Go.Proofs.YtipgipgehnhgkaaGreatDoor

namespace Go.Proofs.YtipgipgehnhgkaaGreatDoor
open Go.RowKit

/-- Both sides' Norm answer the same: a whole number, or nothing. -/
theorem norm_agree (neg : Bool) (a : ByteArray) (ha : a.size ≤ 80) : ∃ R : ByteArray, R.size ≤ 81 ∧ M.goodB R.data.toList = !R.toList.isEmpty ∧ (∀ w, Calls Tryz.prog 44 #[.bool neg, .string a] w fun e w' => e = .returned (.string R) ∧ Below w.heap.size w w') ∧ (∀ w, Calls Tryz.prog 66 #[.bool neg, .string a] w fun e w' => e = .returned (.string R) ∧ Below w.heap.size w w') := by
  by_cases h : M.okD 10 a.data.toList = true
  · refine ⟨tx (M.sgn neg (M.val 10 a.data.toList)), ?_, ?_, fun w => norm_yes neg a w (by omega) h, fun w => (rnorm_yes neg a w (by omega) h).mono (fun e w' h => ⟨h.1, h.2 ▸ Below.refl _ _⟩)⟩
    · refine tx_len _ 80 (by omega) ?_
      rw [sgn_abs]
      have h1 := M.val_lt 10 _ ((M.okD_iff _ _).1 h).2
      rw [← sz_list] at h1
      have h2 : 10 ^ a.size ≤ 10 ^ 80 := Nat.pow_le_pow_right (by omega) ha
      omega
    · rw [tx_good, ByteArray.toList_eq, tx_list]
      have := M.txt_ne (M.sgn neg (M.val 10 a.data.toList))
      cases hh : M.txt (M.sgn neg (M.val 10 a.data.toList))
      · exact absurd hh this
      · rfl
  · have h' : M.okD 10 a.data.toList = false := by simpa using h
    refine ⟨⟨#[]⟩, by decide, by rw [ByteArray.toList_eq]; rfl, fun w => (norm_no neg a w (by omega) h').mono (fun e w' h => ⟨h.1, h.2 ▸ Below.refl _ _⟩), fun w => (rnorm_no neg a w (by omega) h').mono (fun e w' h => ⟨h.1, h.2 ▸ Below.refl _ _⟩)⟩
theorem good_agree (a : ByteArray) (ha : a.size ≤ 100) : ∃ R : Bool, R = M.goodB a.data.toList ∧ (∀ w, Calls Tryz.prog 97 #[.string a] w fun e w' => e = .returned (.bool R) ∧ w = w') ∧ (∀ w, Calls Tryz.prog 118 #[.string a] w fun e w' => e = .returned (.bool R) ∧ w = w') :=
  ⟨_, rfl, fun w => good_any a w (by omega), fun w => rgood_any a w (by omega)⟩

end Go.Proofs.YtipgipgehnhgkaaGreatDoor

namespace Go.Proofs.YtipgipgehnhgkaaGreatDoor
open Go.RowKit

set_option maxRecDepth 100000 in
set_option maxHeartbeats 1000000 in
theorem rbase_in (s : ByteArray) (b : Nat) (w : World) (hb : b = 2 ∨ b = 8 ∨ b = 16) (hs : s.size ≤ 100) (h0 : 0 < s.size) :
    Calls Tryz.prog 64 #[.string s, .int .i64 b] w fun e w' => e = .returned (.string (if M.allD b s.data.toList = true then tx (M.val b s.data.toList : Nat) else ⟨#[]⟩)) ∧ Below w.heap.size w w' := by
  obtain ⟨R, hR⟩ : ∃ R, (if M.allD b s.data.toList = true then tx (M.val b s.data.toList : Nat) else ⟨#[]⟩) = R := ⟨_, rfl⟩
  rw [hR]
  have HR := Lib.hid hR
  clear hR
  have hne : (s.toList == []) = false := by
    rw [ByteArray.toList_eq]
    have : s.data.toList ≠ [] := List.length_pos_iff.1 (by rw [← sz_list]; exact h0)
    simpa using this
  have hne2 : s.toList.isEmpty = false := by
    rw [ByteArray.toList_eq]
    have : s.data.toList ≠ [] := List.length_pos_iff.1 (by rw [← sz_list]; exact h0)
    simpa using this
  have hb16 : b ≤ 16 ∧ 2 ≤ b := by omega
  have hl : s.data.toList.length ≤ 100 := by rw [← sz_list]; exact hs
  have HLl := Lib.hid hl
  clear hl
  rcases hb with rfl | rfl | rfl
  · show Calls Tryz.prog 64 #[.string s, .int .i64 (2 : Int)] w _
    go_enter Tryz.func64, Tryz.ntmps64
    go_wp2
    go_loopw [5, 6] (fun dv v wr => ∃ i : Nat, dv = .string (tAt 2 s.data.toList i) ∧ v = .int .i64 i ∧ i ≤ s.size ∧ Hid (M.allD 2 (s.data.toList.take i) = true) ∧ Below w.heap.size w wr) (fun _ v _ => s.size - (intOf v).toNat)
    case atStart => exact ⟨0, congrArg _ tx0.symm, rfl, Nat.zero_le _, rfl, Below.refl _ _⟩
    case round =>
      obtain ⟨i, rfl, rfl, hi, ha, hbw⟩ := hrel
      by_cases hlt : i < s.size
      · have d5 : decide (i < s.size) = true := by simpa using hlt
        have c1 := value_any s[i] wr
        have hts := take_snoc s i hlt
        have hsn := M.allD_snoc 2 (s.data.toList.take i) s[i]
        rw [← hts, ha.out, Bool.true_and] at hsn
        have hvs := M.val_snoc 2 (s.data.toList.take i) s[i]
        rw [← hts] at hvs
        have hdle := M.dv_le s[i]
        obtain ⟨d, hdd⟩ : ∃ d, M.dv s[i] = d := ⟨_, rfl⟩
        rw [hdd] at c1 hsn hvs hdle
        have HSN := Lib.hid hsn
        by_cases hdb : d < 2
        · have hq : decide ((2 : Int) ≤ (d : Int)) = false := decide_eq_false (by omega)
          have c2 := rmul_nat (M.val 2 (s.data.toList.take i)) 2 d (tAt 2 s.data.toList (i + 1)) (by unfold tAt; rw [hvs]) (tAt_size 2 _ i (by omega) HLl.out ha.out) (by omega) (by omega)
          rw [show tx ((M.val 2 (s.data.toList.take i) : Nat) : Int) = tAt 2 s.data.toList i from rfl] at c2
          generalize hT0 : tAt 2 s.data.toList i = T0 at *
          clear hsn hvs hts hdd ha hT0
          go_wp2_with fail
          refine c1.mono ?_
          rintro r w' ⟨rfl, rfl⟩
          go_wp2_with fail
          refine (c2 _).mono ?_
          rintro r w5 ⟨rfl, hb5⟩
          clear c1 c2
          go_wp2
          go_roundw
          case rel => exact ⟨i + 1, rfl, by go_num, by omega, by show _ = true; rw [HSN.out]; simpa using hdb, hbw.trans (hb5.mono hbw.size)⟩
          case measure => simp [intOf]; omega
        · have hq : decide ((2 : Int) ≤ (d : Int)) = true := decide_eq_true (by omega)
          generalize hT0 : tAt 2 s.data.toList i = T0 at *
          clear hsn hvs hts hdd ha hT0
          go_wp2_with fail
          refine c1.mono ?_
          rintro r w' ⟨rfl, rfl⟩
          go_wp2
          go_ret
          refine ⟨ret_str ?_, hbw⟩
          have h1 : M.allD 2 (s.data.toList.take (i + 1)) = false := by rw [HSN.out]; simpa using hdb
          rw [← HR.out, if_neg]
          rw [← List.take_append_drop (i + 1) s.data.toList, M.allD_append, h1]
          simp
      · obtain rfl : i = s.size := by omega
        have d5 : decide (s.size < s.size) = false := by simp
        have h1 := ha.out
        rw [take_all] at h1
        have hfin : tAt 2 s.data.toList s.size = R := by rw [← HR.out, if_pos h1]; unfold tAt; rw [take_all]
        rw [hfin]
        clear h1 hfin ha
        go_wp2
        go_ret
        exact ⟨rfl, hbw⟩
  · show Calls Tryz.prog 64 #[.string s, .int .i64 (8 : Int)] w _
    go_enter Tryz.func64, Tryz.ntmps64
    go_wp2
    go_loopw [5, 6] (fun dv v wr => ∃ i : Nat, dv = .string (tAt 8 s.data.toList i) ∧ v = .int .i64 i ∧ i ≤ s.size ∧ Hid (M.allD 8 (s.data.toList.take i) = true) ∧ Below w.heap.size w wr) (fun _ v _ => s.size - (intOf v).toNat)
    case atStart => exact ⟨0, congrArg _ tx0.symm, rfl, Nat.zero_le _, rfl, Below.refl _ _⟩
    case round =>
      obtain ⟨i, rfl, rfl, hi, ha, hbw⟩ := hrel
      by_cases hlt : i < s.size
      · have d5 : decide (i < s.size) = true := by simpa using hlt
        have c1 := value_any s[i] wr
        have hts := take_snoc s i hlt
        have hsn := M.allD_snoc 8 (s.data.toList.take i) s[i]
        rw [← hts, ha.out, Bool.true_and] at hsn
        have hvs := M.val_snoc 8 (s.data.toList.take i) s[i]
        rw [← hts] at hvs
        have hdle := M.dv_le s[i]
        obtain ⟨d, hdd⟩ : ∃ d, M.dv s[i] = d := ⟨_, rfl⟩
        rw [hdd] at c1 hsn hvs hdle
        have HSN := Lib.hid hsn
        by_cases hdb : d < 8
        · have hq : decide ((8 : Int) ≤ (d : Int)) = false := decide_eq_false (by omega)
          have c2 := rmul_nat (M.val 8 (s.data.toList.take i)) 8 d (tAt 8 s.data.toList (i + 1)) (by unfold tAt; rw [hvs]) (tAt_size 8 _ i (by omega) HLl.out ha.out) (by omega) (by omega)
          rw [show tx ((M.val 8 (s.data.toList.take i) : Nat) : Int) = tAt 8 s.data.toList i from rfl] at c2
          generalize hT0 : tAt 8 s.data.toList i = T0 at *
          clear hsn hvs hts hdd ha hT0
          go_wp2_with fail
          refine c1.mono ?_
          rintro r w' ⟨rfl, rfl⟩
          go_wp2_with fail
          refine (c2 _).mono ?_
          rintro r w5 ⟨rfl, hb5⟩
          clear c1 c2
          go_wp2
          go_roundw
          case rel => exact ⟨i + 1, rfl, by go_num, by omega, by show _ = true; rw [HSN.out]; simpa using hdb, hbw.trans (hb5.mono hbw.size)⟩
          case measure => simp [intOf]; omega
        · have hq : decide ((8 : Int) ≤ (d : Int)) = true := decide_eq_true (by omega)
          generalize hT0 : tAt 8 s.data.toList i = T0 at *
          clear hsn hvs hts hdd ha hT0
          go_wp2_with fail
          refine c1.mono ?_
          rintro r w' ⟨rfl, rfl⟩
          go_wp2
          go_ret
          refine ⟨ret_str ?_, hbw⟩
          have h1 : M.allD 8 (s.data.toList.take (i + 1)) = false := by rw [HSN.out]; simpa using hdb
          rw [← HR.out, if_neg]
          rw [← List.take_append_drop (i + 1) s.data.toList, M.allD_append, h1]
          simp
      · obtain rfl : i = s.size := by omega
        have d5 : decide (s.size < s.size) = false := by simp
        have h1 := ha.out
        rw [take_all] at h1
        have hfin : tAt 8 s.data.toList s.size = R := by rw [← HR.out, if_pos h1]; unfold tAt; rw [take_all]
        rw [hfin]
        clear h1 hfin ha
        go_wp2
        go_ret
        exact ⟨rfl, hbw⟩
  · show Calls Tryz.prog 64 #[.string s, .int .i64 (16 : Int)] w _
    go_enter Tryz.func64, Tryz.ntmps64
    go_wp2
    go_loopw [5, 6] (fun dv v wr => ∃ i : Nat, dv = .string (tAt 16 s.data.toList i) ∧ v = .int .i64 i ∧ i ≤ s.size ∧ Hid (M.allD 16 (s.data.toList.take i) = true) ∧ Below w.heap.size w wr) (fun _ v _ => s.size - (intOf v).toNat)
    case atStart => exact ⟨0, congrArg _ tx0.symm, rfl, Nat.zero_le _, rfl, Below.refl _ _⟩
    case round =>
      obtain ⟨i, rfl, rfl, hi, ha, hbw⟩ := hrel
      by_cases hlt : i < s.size
      · have d5 : decide (i < s.size) = true := by simpa using hlt
        have c1 := value_any s[i] wr
        have hts := take_snoc s i hlt
        have hsn := M.allD_snoc 16 (s.data.toList.take i) s[i]
        rw [← hts, ha.out, Bool.true_and] at hsn
        have hvs := M.val_snoc 16 (s.data.toList.take i) s[i]
        rw [← hts] at hvs
        have hdle := M.dv_le s[i]
        obtain ⟨d, hdd⟩ : ∃ d, M.dv s[i] = d := ⟨_, rfl⟩
        rw [hdd] at c1 hsn hvs hdle
        have HSN := Lib.hid hsn
        by_cases hdb : d < 16
        · have hq : decide ((16 : Int) ≤ (d : Int)) = false := decide_eq_false (by omega)
          have c2 := rmul_nat (M.val 16 (s.data.toList.take i)) 16 d (tAt 16 s.data.toList (i + 1)) (by unfold tAt; rw [hvs]) (tAt_size 16 _ i (by omega) HLl.out ha.out) (by omega) (by omega)
          rw [show tx ((M.val 16 (s.data.toList.take i) : Nat) : Int) = tAt 16 s.data.toList i from rfl] at c2
          generalize hT0 : tAt 16 s.data.toList i = T0 at *
          clear hsn hvs hts hdd ha hT0
          go_wp2_with fail
          refine c1.mono ?_
          rintro r w' ⟨rfl, rfl⟩
          go_wp2_with fail
          refine (c2 _).mono ?_
          rintro r w5 ⟨rfl, hb5⟩
          clear c1 c2
          go_wp2
          go_roundw
          case rel => exact ⟨i + 1, rfl, by go_num, by omega, by show _ = true; rw [HSN.out]; simpa using hdb, hbw.trans (hb5.mono hbw.size)⟩
          case measure => simp [intOf]; omega
        · have hq : decide ((16 : Int) ≤ (d : Int)) = true := decide_eq_true (by omega)
          generalize hT0 : tAt 16 s.data.toList i = T0 at *
          clear hsn hvs hts hdd ha hT0
          go_wp2_with fail
          refine c1.mono ?_
          rintro r w' ⟨rfl, rfl⟩
          go_wp2
          go_ret
          refine ⟨ret_str ?_, hbw⟩
          have h1 : M.allD 16 (s.data.toList.take (i + 1)) = false := by rw [HSN.out]; simpa using hdb
          rw [← HR.out, if_neg]
          rw [← List.take_append_drop (i + 1) s.data.toList, M.allD_append, h1]
          simp
      · obtain rfl : i = s.size := by omega
        have d5 : decide (s.size < s.size) = false := by simp
        have h1 := ha.out
        rw [take_all] at h1
        have hfin : tAt 16 s.data.toList s.size = R := by rw [← HR.out, if_pos h1]; unfold tAt; rw [take_all]
        rw [hfin]
        clear h1 hfin ha
        go_wp2
        go_ret
        exact ⟨rfl, hbw⟩
set_option maxRecDepth 100000 in
theorem rbase_other (s : ByteArray) (b : Int) (w : World) (hb : ¬ (b = 2 ∨ b = 8 ∨ b = 16)) :
    Calls Tryz.prog 64 #[.string s, .int .i64 b] w fun r w' => r = .returned (.string ⟨#[]⟩) ∧ w = w' := by
  have h1 : (b != 2) = true := by simp; omega
  have h2 : (b != 8) = true := by simp; omega
  have h3 : (b != 16) = true := by simp; omega
  clear hb
  go_enter Tryz.func64, Tryz.ntmps64
  go_wp2
  go_ret
  exact ⟨rfl, rfl⟩
set_option maxRecDepth 100000 in
theorem rbase_empty (b : Nat) (w : World) (hb : b = 2 ∨ b = 8 ∨ b = 16) :
    Calls Tryz.prog 64 #[.string ⟨#[]⟩, .int .i64 b] w fun r w' => r = .returned (.string ⟨#[]⟩) ∧ w = w' := by
  rcases hb with rfl | rfl | rfl
  all_goals
    go_enter Tryz.func64, Tryz.ntmps64
    go_wp2
    go_ret
    exact ⟨rfl, rfl⟩
/-- Both sides' Base answer the same. -/
theorem base_agree (s : ByteArray) (b : Int) (hs : s.size ≤ 100) : ∃ R : ByteArray, R.size ≤ 10000 ∧ (∀ w, Calls Tryz.prog 61 #[.string s, .int .i64 b] w fun e w' => e = .returned (.string R) ∧ Below w.heap.size w w') ∧ (∀ w, Calls Tryz.prog 64 #[.string s, .int .i64 b] w fun e w' => e = .returned (.string R) ∧ Below w.heap.size w w') := by
  by_cases hb : b = 2 ∨ b = 8 ∨ b = 16
  · obtain ⟨n, rfl⟩ : ∃ n : Nat, b = (n : Int) := ⟨b.toNat, by omega⟩
    have hn : n = 2 ∨ n = 8 ∨ n = 16 := by omega
    by_cases h0 : 0 < s.size
    · by_cases ha : M.allD n s.data.toList = true
      · have hok : M.okD n s.data.toList = true := (M.okD_iff _ _).2 ⟨List.length_pos_iff.1 (by rw [← sz_list]; exact h0), ha⟩
        refine ⟨tx (M.val n s.data.toList : Nat), ?_, fun w => base_yes s n w hn (by omega) hok, fun w => ?_⟩
        · have := tAt_size n s.data.toList s.size (by omega) (by rw [← sz_list]; exact hs) (by rw [take_all]; exact ha)
          unfold tAt at this
          rwa [take_all] at this
        · have := rbase_in s n w hn hs h0
          rwa [if_pos ha] at this
      · have hok : M.okD n s.data.toList = false := by
          unfold M.okD; rw [show M.allD n s.data.toList = false by simpa using ha, Bool.and_false]
        refine ⟨⟨#[]⟩, by decide, fun w => (base_no s n w hn (by omega) hok).mono (fun e w' h => ⟨h.1, h.2 ▸ Below.refl _ _⟩), fun w => ?_⟩
        have := rbase_in s n w hn hs h0
        rwa [if_neg ha] at this
    · have e : s = ⟨#[]⟩ := eq_bA (List.eq_nil_of_length_eq_zero (by rw [← sz_list]; omega))
      subst e
      exact ⟨⟨#[]⟩, by decide, fun w => (base_no ⟨#[]⟩ n w hn (by decide) (by unfold M.okD; rfl)).mono (fun e w' h => ⟨h.1, h.2 ▸ Below.refl _ _⟩), fun w => (rbase_empty n w hn).mono (fun e w' h => ⟨h.1, h.2 ▸ Below.refl _ _⟩)⟩
  · exact ⟨⟨#[]⟩, by decide, fun w => (base_other s b w hb).mono (fun e w' h => ⟨h.1, h.2 ▸ Below.refl _ _⟩), fun w => (rbase_other s b w hb).mono (fun e w' h => ⟨h.1, h.2 ▸ Below.refl _ _⟩)⟩
end Go.Proofs.YtipgipgehnhgkaaGreatDoor

namespace Go.Proofs.YtipgipgehnhgkaaGreatDoor
open Go.RowKit

set_option maxRecDepth 100000 in
set_option maxHeartbeats 1000000 in
theorem rcompare_any (a b : ByteArray) (w : World) (ha : a.size ≤ 1000000) (hb : b.size ≤ 1000000) :
    Calls Tryz.prog 162 #[.string a, .string b] w fun e w' => e = .returned (.int .i64 (M.cmpS a.data.toList b.data.toList)) ∧ w = w' := by
  have e1 := less_is a b
  have e2 := gtr_is a b
  obtain ⟨p, hp⟩ : ∃ p, Op.bytesLess a.toList b.toList = p := ⟨_, rfl⟩
  obtain ⟨q, hq⟩ : ∃ q, (a.toList == b.toList) = q := ⟨_, rfl⟩
  rw [hp] at e1
  rw [hp, hq] at e2
  unfold M.cmpS
  rw [← sz_list, ← sz_list]
  by_cases h1 : a.size < b.size
  · rw [if_pos h1]
    have d1 : decide (a.size < b.size) = true := decide_eq_true h1
    go_enter Tryz.func162, Tryz.ntmps162
    go_wp2
    go_ret
    exact ⟨rfl, rfl⟩
  · have d1 : decide (a.size < b.size) = false := decide_eq_false h1
    rw [if_neg h1]
    by_cases h2 : b.size < a.size
    · rw [if_pos h2]
      have d2 : decide (b.size < a.size) = true := decide_eq_true h2
      go_enter Tryz.func162, Tryz.ntmps162
      go_wp2
      go_ret
      exact ⟨rfl, rfl⟩
    · have d2 : decide (b.size < a.size) = false := decide_eq_false h2
      rw [if_neg h2]
      by_cases h3 : a.data.toList < b.data.toList
      · rw [if_pos h3]
        rw [decide_eq_true h3] at e1
        subst e1
        clear e2 h3 hq
        go_enter Tryz.func162, Tryz.ntmps162
        go_wp2
        go_ret
        exact ⟨rfl, rfl⟩
      · rw [if_neg h3]
        rw [decide_eq_false h3] at e1
        subst e1
        rw [Bool.false_or] at e2
        by_cases h4 : b.data.toList < a.data.toList
        · rw [if_pos h4]
          rw [decide_eq_true h4] at e2
          have e3 : q = false := by simpa using e2
          subst e3
          clear e2 h3 h4
          go_enter Tryz.func162, Tryz.ntmps162
          go_wp2
          go_ret
          exact ⟨rfl, rfl⟩
        · rw [if_neg h4]
          rw [decide_eq_false h4] at e2
          have e3 : q = true := by simpa using e2
          subst e3
          clear e2 h3 h4
          go_enter Tryz.func162, Tryz.ntmps162
          go_wp2
          go_ret
          exact ⟨rfl, rfl⟩
end Go.Proofs.YtipgipgehnhgkaaGreatDoor

namespace Go.Proofs.YtipgipgehnhgkaaGreatDoor
open Go.RowKit

theorem less_step (r : List UInt8) (va vb b da db X b' : Nat) (hX : X < 10) (h : M.val 10 r + vb = va + b * 10 ^ r.length) (hx : X + b + db = da + 10 * b') :
    M.val 10 (dg1 X :: r) + (db * 10 ^ r.length + vb) = (da * 10 ^ r.length + va) + b' * 10 ^ (r.length + 1) := by
  rw [M.val_cons, dg1_dv, Nat.mod_eq_of_lt hX, Nat.pow_succ]
  generalize 10 ^ r.length = T at *
  have e : X * T + b * T + db * T = da * T + b' * (T * 10) := by
    rw [← Nat.add_mul, ← Nat.add_mul, hx, Nat.add_mul]
    congr 1
    rw [Nat.mul_comm 10 b', Nat.mul_assoc, Nat.mul_comm 10 T]
  omega
theorem drop_next (l : List UInt8) (M i : Nat) (hM : l.length = M) (h : ¬ i < M) : l.drop (M - (i + 1)) = l.drop (M - i) := by
  rw [show M - (i + 1) = 0 by omega, show M - i = 0 by omega]
theorem dg_len_mono {x y : Nat} (h : y ≤ x) : (M.dg y).length ≤ (M.dg x).length := by
  rcases Nat.lt_or_ge (M.dg x).length (M.dg y).length with k | k
  · have := M.dg_len_lt k; omega
  · exact k
theorem dg1_small {X : Nat} (h : X < 10) : ((dg1 X).toNat : Int) = 48 + (X : Int) := by
  unfold dg1; rw [Nat.mod_eq_of_lt h]; exact dig_u8 X h

set_option maxRecDepth 100000 in
set_option maxHeartbeats 2000000 in
theorem rless_any (x y : Nat) (w : World) (hxy : y ≤ x) (hlx : (M.dg x).length ≤ 10000) :
    Calls Tryz.prog 163 #[.string (bA (M.dg x)), .string (bA (M.dg y))] w fun e w' => e = .returned (.string (tx ((x - y : Nat) : Int))) ∧ Below w.heap.size w w' := by
  have hmono := dg_len_mono hxy
  have hDl : (bA (M.dg x)).data.toList = M.dg x := bA_toList _
  have hEl : (bA (M.dg y)).data.toList = M.dg y := bA_toList _
  have hDs : (bA (M.dg x)).size = (M.dg x).length := bA_size _
  have hEs : (bA (M.dg y)).size = (M.dg y).length := bA_size _
  have hpos := M.dg_len_pos x
  have hDa := M.dg_all x
  have hEa := M.dg_all y
  have hDv := M.dg_val x
  have hEv := M.dg_val y
  rw [← hDl] at hDa hDv
  rw [← hEl] at hEa hEv
  obtain ⟨D, hD⟩ : ∃ D, bA (M.dg x) = D := ⟨_, rfl⟩
  obtain ⟨E, hE⟩ : ∃ E, bA (M.dg y) = E := ⟨_, rfl⟩
  rw [hD] at hDa hDv hDs ⊢
  rw [hE] at hEa hEv hEs ⊢
  rw [← hDs] at hmono hlx hpos
  rw [← hEs] at hmono
  clear hDl hEl hD hE hDs hEs
  have HDa := Lib.hid hDa
  have HEa := Lib.hid hEa
  have HDv := Lib.hid hDv
  have HEv := Lib.hid hEv
  clear hDa hEa hDv hEv
  obtain ⟨i0, hi, hz0, hz1, hz2⟩ := info_parts Tryz.info5
  go_enter Tryz.func163, Tryz.ntmps163
  go_wp2_with (first | (at_make; refine wpList_make_full w rfl (.tmp 10) (.tmp 10) 22 rfl w.heap.size 5 i0 (.int .u8 0) 1 Tryz.underlying22 hi hz0 hz1 .i64 .i64 _ _ D.size rfl rfl (by simp) (by simp) (by rw [hz2]; omega) (by unfold maxLen; omega) (Nat.le_refl _) ?_; intro w1 ho1 hg1; obtain ⟨hR1, hB1⟩ := made_mem w w1 _ ho1 hg1; have HR1 := Lib.hid hR1; clear ho1 hg1 hR1) | fail)
  go_loopw [6, 7] (fun bv iv wr => ∃ (b i j : Nat) (r : List UInt8), bv = .int .i64 b ∧ iv = .int .i64 i ∧ b ≤ 1 ∧ i + j = D.size ∧ Hid (r.length = i) ∧ Hid (M.allD 10 r = true) ∧ Hid (M.val 10 r + M.val 10 (E.data.toList.drop (E.size - i)) = M.val 10 (D.data.toList.drop j) + b * 10 ^ r.length) ∧ Hid (Row wr w.heap.size (List.replicate j 0 ++ r)) ∧ Below w.heap.size w wr) (fun _ iv _ => D.size - (intOf iv).toNat)
  case atStart => exact ⟨0, 0, D.size, [], rfl, rfl, by omega, by omega, rfl, rfl, by show _ = _; rw [List.drop_of_length_le (by rw [← sz_list]; omega), List.drop_of_length_le (by rw [← sz_list]; omega)]; simp [M.val], by show Row _ _ _; rw [List.append_nil]; exact HR1.out, hB1⟩
  case round =>
    obtain ⟨b, i, j, r, rfl, rfl, hb, hij, hrl, hra, hst, hrow, hbw⟩ := hrel
    by_cases hlt : i < D.size
    · have hltd : decide (i < D.size) = true := by simpa using hlt
      obtain ⟨j', rfl⟩ : ∃ j', j = j' + 1 := ⟨j - 1, by omega⟩
      have hjl : j' < D.size := by omega
      have eidx : (D.size : Int) - 1 - (i : Int) = (j' : Int) := by omega
      have hda : M.dv D[j'] < 10 := (M.allD_iff _ _).1 HDa.out _ (List.mem_of_getElem? (get_list D j' hjl))
      obtain ⟨a1, a2, a3⟩ := M.dv_lt10 hda
      have hvd := M.val_cons 10 D[j'] (D.data.toList.drop (j' + 1))
      rw [← drop_cons D j' hjl, List.length_drop, ← sz_list, show D.size - (j' + 1) = i by omega] at hvd
      obtain ⟨da, hdaa⟩ : ∃ da, M.dv D[j'] = da := ⟨_, rfl⟩
      rw [hdaa] at hda a3 hvd
      have eda : (D[j'].toNat : Int) - 48 = (da : Int) := by omega
      have hfr := hrow.out.frozen j'
      obtain ⟨cx, hcx⟩ : ∃ cx, wr.cell? ⟨w.heap.size, j', none⟩ = some (.int .u8 cx) := ⟨_, hrow.out.cell j' (by simp; omega)⟩
      have hset := fun X => hrow.out.set j' (dg1 X)
      simp only [set_rep] at hset
      have HSET := Lib.hid hset
      have hstp := fun (db X b' : Nat) (hX : X < 10) (hx : X + b + db = da + 10 * b') => less_step r _ _ b da db X b' hX hst.out hx
      rw [hrl.out] at hstp
      rw [← hvd] at hstp
      have HSTP := Lib.hid hstp
      clear hset hrow hst hstp hvd hdaa a3
      by_cases hiE : i < E.size
      · have hiEd : decide (i < E.size) = true := by simpa using hiE
        obtain ⟨n', hn'⟩ : ∃ n', E.size = i + 1 + n' := ⟨E.size - (i + 1), by omega⟩
        have hnl : n' < E.size := by omega
        have eidx2 : (E.size : Int) - 1 - (i : Int) = (n' : Int) := by omega
        have hdb : M.dv E[n'] < 10 := (M.allD_iff _ _).1 HEa.out _ (List.mem_of_getElem? (get_list E n' hnl))
        obtain ⟨b1, b2, b3⟩ := M.dv_lt10 hdb
        have hve := M.val_cons 10 E[n'] (E.data.toList.drop (n' + 1))
        rw [← drop_cons E n' hnl, List.length_drop, ← sz_list, show E.size - (n' + 1) = i by omega] at hve
        obtain ⟨db, hdbb⟩ : ∃ db, M.dv E[n'] = db := ⟨_, rfl⟩
        rw [hdbb] at hdb b3 hve
        have edb : (E[n'].toNat : Int) - 48 = (db : Int) := by omega
        have hs1 := HSTP.out db
        rw [show E.size - i = n' + 1 by omega] at hs1
        rw [← hve] at hs1
        have HS1 := Lib.hid hs1
        clear HSTP hs1 hve hdbb b3 hn'
        by_cases hneg : da < b + db
        · have hq : decide ((da : Int) - (b : Int) - (db : Int) < 0) = true := decide_eq_true (by omega)
          obtain ⟨X, hX⟩ : ∃ X, X + b + db = da + 10 * 1 := ⟨da + 10 - b - db, by omega⟩
          have hX10 : X < 10 := by omega
          have hXe : (da : Int) - (b : Int) - (db : Int) + 10 = (X : Int) := by omega
          have h1 := HSET.out X
          rw [dg1_small hX10] at h1
          have H1 := Lib.hid h1
          have H2 := Lib.hid (HS1.out X 1 hX10 hX)
          clear h1 hX HSET HS1
          go_wp2
          go_roundw
          case rel => exact ⟨1, i + 1, j', dg1 X :: r, rfl, by go_num, by omega, by omega, by show _ = _; rw [List.length_cons, hrl.out], allD_cons (dg1_dv X) (by omega) hra.out, by have h2 := H2.out; show _ = _; rw [show E.size - (i + 1) = n' by omega, List.length_cons, hrl.out]; exact h2, H1.out, hbw.setCell (Nat.le_refl _) _⟩
          case measure => simp [intOf]; omega
        · have hq : decide ((da : Int) - (b : Int) - (db : Int) < 0) = false := decide_eq_false (by omega)
          obtain ⟨X, hX⟩ : ∃ X, X + b + db = da + 10 * 0 := ⟨da - b - db, by omega⟩
          have hX10 : X < 10 := by omega
          have hXe : (da : Int) - (b : Int) - (db : Int) = (X : Int) := by omega
          have h1 := HSET.out X
          rw [dg1_small hX10] at h1
          have H1 := Lib.hid h1
          have H2 := Lib.hid (HS1.out X 0 hX10 hX)
          rw [hXe] at hq
          clear h1 hX HSET HS1
          go_wp2
          go_roundw
          case rel => exact ⟨0, i + 1, j', dg1 X :: r, rfl, by go_num, by omega, by omega, by show _ = _; rw [List.length_cons, hrl.out], allD_cons (dg1_dv X) (by omega) hra.out, by have h2 := H2.out; show _ = _; rw [show E.size - (i + 1) = n' by omega, List.length_cons, hrl.out]; exact h2, H1.out, hbw.setCell (Nat.le_refl _) _⟩
          case measure => simp [intOf]; omega
      · have hiEd : decide (i < E.size) = false := by simpa using hiE
        have hs1 := HSTP.out 0
        simp only [Nat.zero_mul, Nat.zero_add, Nat.add_zero] at hs1
        rw [← drop_next E.data.toList E.size i (sz_list E).symm hiE] at hs1
        have HS1 := Lib.hid hs1
        clear HSTP hs1
        by_cases hneg : da < b
        · have hq : decide ((da : Int) - (b : Int) < 0) = true := decide_eq_true (by omega)
          obtain ⟨X, hX⟩ : ∃ X, X + b = da + 10 * 1 := ⟨da + 10 - b, by omega⟩
          have hX10 : X < 10 := by omega
          have hXe : (da : Int) - (b : Int) + 10 = (X : Int) := by omega
          have h1 := HSET.out X
          rw [dg1_small hX10] at h1
          have H1 := Lib.hid h1
          have H2 := Lib.hid (HS1.out X 1 hX10 hX)
          clear h1 hX HSET HS1
          go_wp2
          go_roundw
          case rel => exact ⟨1, i + 1, j', dg1 X :: r, rfl, by go_num, by omega, by omega, by show _ = _; rw [List.length_cons, hrl.out], allD_cons (dg1_dv X) (by omega) hra.out, by have h2 := H2.out; show _ = _; rw [List.length_cons, hrl.out]; exact h2, H1.out, hbw.setCell (Nat.le_refl _) _⟩
          case measure => simp [intOf]; omega
        · have hq : decide ((da : Int) - (b : Int) < 0) = false := decide_eq_false (by omega)
          obtain ⟨X, hX⟩ : ∃ X, X + b = da + 10 * 0 := ⟨da - b, by omega⟩
          have hX10 : X < 10 := by omega
          have hXe : (da : Int) - (b : Int) = (X : Int) := by omega
          have h1 := HSET.out X
          rw [dg1_small hX10] at h1
          have H1 := Lib.hid h1
          have H2 := Lib.hid (HS1.out X 0 hX10 hX)
          rw [hXe] at hq
          clear h1 hX HSET HS1
          go_wp2
          go_roundw
          case rel => exact ⟨0, i + 1, j', dg1 X :: r, rfl, by go_num, by omega, by omega, by show _ = _; rw [List.length_cons, hrl.out], allD_cons (dg1_dv X) (by omega) hra.out, by have h2 := H2.out; show _ = _; rw [List.length_cons, hrl.out]; exact h2, H1.out, hbw.setCell (Nat.le_refl _) _⟩
          case measure => simp [intOf]; omega
    · obtain rfl : j = 0 := by omega
      obtain rfl : i = D.size := by omega
      have hltd : decide (D.size < D.size) = false := by simp
      have h1 := hst.out
      rw [List.drop_zero, HDv.out, show E.size - D.size = 0 by omega, List.drop_zero, HEv.out] at h1
      have h2 := M.val_lt 10 r hra.out
      have hb0 : b = 0 := by
        rcases Nat.eq_zero_or_pos b with hb0 | hb0
        · exact hb0
        · obtain rfl : b = 1 := by omega
          omega
      subst hb0
      have hv : M.val 10 r = x - y := by omega
      have hrow1 := hrow.out
      rw [List.replicate_zero, List.nil_append] at hrow1
      have hcv := hrow1.conv0 D.size
      rw [hrl.out] at hcv
      have c1 := fun W => rnorm_list false r W ((M.okD_iff _ _).2 ⟨List.length_pos_iff.1 (by rw [hrl.out]; exact hpos), hra.out⟩) (by rw [hrl.out]; omega)
      rw [hv, show M.sgn false (x - y) = ((x - y : Nat) : Int) from rfl] at c1
      generalize bA r = Rr at *
      clear h1 h2 hv hrow1 hrow hst
      go_wp2_with fail
      refine (c1 _).mono ?_
      rintro r w' ⟨rfl, rfl⟩
      go_wp2
      go_ret
      exact ⟨rfl, hbw⟩
end Go.Proofs.YtipgipgehnhgkaaGreatDoor

namespace Go.Proofs.YtipgipgehnhgkaaGreatDoor
open Go.RowKit

theorem tx_dg (n : Nat) : tx (n : Int) = bA (M.dg n) := by unfold tx; rw [M.txt_nat]
theorem rnorm_nat (neg : Bool) (v : Nat) (w : World) (h : (M.dg v).length ≤ 100000) :
    Calls Tryz.prog 66 #[.bool neg, .string (tx (v : Int))] w fun e w' => e = .returned (.string (tx (M.sgn neg v))) ∧ w = w' := by
  have := rnorm_list neg (M.dg v) w (M.dg_ok v) h
  rwa [M.dg_val, ← tx_dg] at this
theorem cut_tx (z : Int) (h : z < 0) : (tx z).extract 1 (tx z).size = bA (M.dg z.natAbs) := by
  apply eq_bA
  rw [Lib.extract_to_end, tx_list]
  unfold M.txt
  rw [if_pos h]
  rfl
theorem abs_tx (z : Int) (h : ¬ z < 0) : tx z = bA (M.dg z.natAbs) := by
  unfold tx M.txt
  rw [if_neg h, show z.toNat = z.natAbs by omega]
theorem head_tx (z : Int) (h0 : 0 < (tx z).size) (h : z < 0) : ((tx z)[0]'h0).toNat = 45 := head_is (tx z) h0 (by rw [tx_list, M.txt_isNeg]; exact decide_eq_true h)
theorem head_tx_not (z : Int) (h0 : 0 < (tx z).size) (h : ¬ z < 0) : ((((tx z)[0]'h0).toNat : Int) == 45) = false := head_not (tx z) h0 (by rw [tx_list, M.txt_isNeg]; exact decide_eq_false h)
theorem dg_len13 (n : Nat) (h : n ≤ 1099511627776) : (M.dg n).length ≤ 13 := M.dg_len_le n 13 (by omega) (by omega)
theorem dg_len_add (a p : Nat) (hp : p ≤ 1099511627776) : (M.dg (a * 1 + p)).length ≤ (M.dg a).length + 14 := by
  apply M.dg_len_le _ _ (by omega)
  have h1 := M.dg_lt a
  have h2 : 10 ^ ((M.dg a).length + 14) = 10 ^ (M.dg a).length * 10 ^ 14 := Nat.pow_add _ _ _
  rw [h2]
  have h3 : 10 ^ (M.dg a).length * 10 ^ 14 = 10 ^ (M.dg a).length * 1 + 10 ^ (M.dg a).length * (10 ^ 14 - 1) := by rw [← Nat.mul_add]
  have h4 : 1 * (10 ^ 14 - 1) ≤ 10 ^ (M.dg a).length * (10 ^ 14 - 1) := Nat.mul_le_mul_right _ (Nat.pow_pos (by omega))
  omega

set_option maxRecDepth 100000 in
set_option maxHeartbeats 1000000 in
theorem radd_nn (z : Int) (p : Nat) (w : World) (hz : z < 0) (hs : (tx z).size ≤ 6000) (hp : p ≤ 1099511627776) (hpp : 0 < p) :
    Calls Tryz.prog 119 #[.string (tx z), .int .i64 (-(p : Int))] w fun e w' => e = .returned (.string (tx (z - p))) ∧ Below w.heap.size w w' := by
  have c1 := rgood_any (tx z) w (by omega)
  rw [tx_good] at c1
  have hds := dg_tx_size z
  rw [bA_size] at hds
  have hp0 := tx_pos z
  have hh := head_tx z hp0 hz
  have hx := cut_tx z hz
  have hres : z - p = M.sgn true (z.natAbs * 1 + p) := by unfold M.sgn; simp; omega
  have c2 := rmul_nat z.natAbs 1 p _ rfl (by rw [tx_dg, bA_size]; omega) (by omega) hp
  have c3 := fun W => rnorm_nat true (z.natAbs * 1 + p) W (by have := dg_len_add z.natAbs p hp; omega)
  rw [tx_dg z.natAbs] at c2
  rw [← hres] at c3
  generalize tx (z - p) = R at *
  generalize tx ((z.natAbs * 1 + p : Nat) : Int) = V at *
  clear hres hds
  have hAs : (tx z).size ≤ 6000 := hs
  generalize bA (M.dg z.natAbs) = D at *
  generalize tx z = A at *
  clear hz
  have q1 : decide ((-(p : Int)) < (-1099511627776 : Int)) = false := decide_eq_false (by omega)
  have q2 : decide ((1099511627776 : Int) < (-(p : Int))) = false := decide_eq_false (by omega)
  have q3 : decide ((-(p : Int)) < (0 : Int)) = true := decide_eq_true (by omega)
  go_enter Tryz.func119, Tryz.ntmps119
  go_wp2_with fail
  refine c1.mono ?_
  rintro r w' ⟨rfl, rfl⟩
  go_wp2_with fail
  refine (c2 _).mono ?_
  rintro r w1 ⟨rfl, hb1⟩
  go_wp2_with fail
  refine (c3 _).mono ?_
  rintro r w' ⟨rfl, rfl⟩
  clear c1 c2 c3
  go_wp2
  go_ret
  exact ⟨rfl, hb1⟩

set_option maxRecDepth 100000 in
set_option maxHeartbeats 1000000 in
theorem radd_pp (z : Int) (p : Nat) (w : World) (hz : ¬ z < 0) (hs : (tx z).size ≤ 6000) (hp : p ≤ 1099511627776) :
    Calls Tryz.prog 119 #[.string (tx z), .int .i64 ((p : Int))] w fun e w' => e = .returned (.string (tx (z + p))) ∧ Below w.heap.size w w' := by
  have c1 := rgood_any (tx z) w (by omega)
  rw [tx_good] at c1
  have hds := dg_tx_size z
  rw [bA_size] at hds
  have hp0 := tx_pos z
  have hh := head_tx_not z hp0 hz
  have hx := abs_tx z hz
  have hres : z + p = M.sgn false (z.natAbs * 1 + p) := by unfold M.sgn; simp; omega
  have c2 := rmul_nat z.natAbs 1 p _ rfl (by rw [tx_dg, bA_size]; omega) (by omega) hp
  have c3 := fun W => rnorm_nat false (z.natAbs * 1 + p) W (by have := dg_len_add z.natAbs p hp; omega)
  rw [tx_dg z.natAbs] at c2
  rw [← hres] at c3
  generalize tx (z + p) = R at *
  generalize tx ((z.natAbs * 1 + p : Nat) : Int) = V at *
  clear hres hds
  rw [← hx] at *
  generalize tx z = A at *
  clear hz hx
  have q1 : decide (((p : Int)) < (-1099511627776 : Int)) = false := decide_eq_false (by omega)
  have q2 : decide ((1099511627776 : Int) < ((p : Int))) = false := decide_eq_false (by omega)
  have q3 : decide (((p : Int)) < (0 : Int)) = false := decide_eq_false (by omega)
  go_enter Tryz.func119, Tryz.ntmps119
  go_wp2_with fail
  refine c1.mono ?_
  rintro r w' ⟨rfl, rfl⟩
  go_wp2_with fail
  refine (c2 _).mono ?_
  rintro r w1 ⟨rfl, hb1⟩
  go_wp2_with fail
  refine (c3 _).mono ?_
  rintro r w' ⟨rfl, rfl⟩
  clear c1 c2 c3
  go_wp2
  go_ret
  exact ⟨rfl, hb1⟩

set_option maxRecDepth 100000 in
set_option maxHeartbeats 1000000 in
theorem radd_np_yes (z : Int) (p : Nat) (w : World) (hz : z < 0) (hs : (tx z).size ≤ 6000) (hp : p ≤ 1099511627776) (hlt : z.natAbs < p) :
    Calls Tryz.prog 119 #[.string (tx z), .int .i64 ((p : Int))] w fun e w' => e = .returned (.string (tx (z + p))) ∧ Below w.heap.size w w' := by
  have c1 := rgood_any (tx z) w (by omega)
  rw [tx_good] at c1
  have hds := dg_tx_size z
  rw [bA_size] at hds
  have hp0 := tx_pos z
  have hh := head_tx z hp0 hz
  have hx := cut_tx z hz
  have hres : z + p = M.sgn false (p - z.natAbs) := by unfold M.sgn; simp; omega
  have hlp := dg_len13 p hp
  have c2 := text_any p w hp
  have c3 := fun W => rcompare_any (bA (M.dg z.natAbs)) (bA (M.dg p)) W (by rw [bA_size]; omega) (by rw [bA_size]; omega)
  rw [bA_toList, bA_toList, M.cmpS_dg] at c3
  rw [show M.cmpZ (z.natAbs : Int) (p : Int) = -1 by unfold M.cmpZ; rw [if_pos (by omega)]] at c3
  have c4 := fun W => rless_any p z.natAbs W (by omega) (by omega)
  have c5 := fun W => rnorm_nat false (p - z.natAbs) W (by have := dg_len_mono (show p - z.natAbs ≤ p by omega); omega)
  rw [← hres] at c5
  generalize tx (z + p) = R at *
  generalize tx ((p - z.natAbs : Nat) : Int) = V at *
  generalize bA (M.dg p) = E at *
  clear hres hds hlp hlt
  have hAs : (tx z).size ≤ 6000 := hs
  generalize bA (M.dg z.natAbs) = D at *
  generalize tx z = A at *
  clear hz
  have q1 : decide (((p : Int)) < (-1099511627776 : Int)) = false := decide_eq_false (by omega)
  have q2 : decide ((1099511627776 : Int) < ((p : Int))) = false := decide_eq_false (by omega)
  have q3 : decide (((p : Int)) < (0 : Int)) = false := decide_eq_false (by omega)
  go_enter Tryz.func119, Tryz.ntmps119
  go_wp2_with fail
  refine c1.mono ?_
  rintro r w' ⟨rfl, rfl⟩
  go_wp2_with fail
  refine c2.mono ?_
  rintro r w1 ⟨rfl, hb1⟩
  go_wp2_with fail
  refine (c3 _).mono ?_
  rintro r w' ⟨rfl, rfl⟩
  go_wp2_with fail
  refine (c4 _).mono ?_
  rintro r w2 ⟨rfl, hb2⟩
  go_wp2_with fail
  refine (c5 _).mono ?_
  rintro r w' ⟨rfl, rfl⟩
  clear c1 c2 c3 c4 c5
  go_wp2
  go_ret
  exact ⟨rfl, hb1.trans (hb2.mono hb1.size)⟩

set_option maxRecDepth 100000 in
set_option maxHeartbeats 1000000 in
theorem radd_np_no (z : Int) (p : Nat) (w : World) (hz : z < 0) (hs : (tx z).size ≤ 6000) (hp : p ≤ 1099511627776) (hlt : p ≤ z.natAbs) :
    Calls Tryz.prog 119 #[.string (tx z), .int .i64 ((p : Int))] w fun e w' => e = .returned (.string (tx (z + p))) ∧ Below w.heap.size w w' := by
  have c1 := rgood_any (tx z) w (by omega)
  rw [tx_good] at c1
  have hds := dg_tx_size z
  rw [bA_size] at hds
  have hp0 := tx_pos z
  have hh := head_tx z hp0 hz
  have hx := cut_tx z hz
  have hres : z + p = M.sgn true (z.natAbs - p) := by unfold M.sgn; simp; omega
  have hlp := dg_len13 p hp
  have c2 := text_any p w hp
  have c3 := fun W => rcompare_any (bA (M.dg z.natAbs)) (bA (M.dg p)) W (by rw [bA_size]; omega) (by rw [bA_size]; omega)
  rw [bA_toList, bA_toList, M.cmpS_dg] at c3
  obtain ⟨u, hu, hu0⟩ : ∃ u, M.cmpZ (z.natAbs : Int) (p : Int) = u ∧ 0 ≤ u := ⟨_, rfl, by unfold M.cmpZ; rw [if_neg (by omega)]; split <;> omega⟩
  rw [hu] at c3
  have hud : decide (u < 0) = false := decide_eq_false (by omega)
  clear hu hu0
  have c4 := fun W => rless_any z.natAbs p W hlt (by omega)
  have c5 := fun W => rnorm_nat true (z.natAbs - p) W (by have := dg_len_mono (show z.natAbs - p ≤ z.natAbs by omega); omega)
  rw [← hres] at c5
  generalize tx (z + p) = R at *
  generalize tx ((z.natAbs - p : Nat) : Int) = V at *
  generalize bA (M.dg p) = E at *
  clear hres hds hlp hlt
  have hAs : (tx z).size ≤ 6000 := hs
  generalize bA (M.dg z.natAbs) = D at *
  generalize tx z = A at *
  clear hz
  have q1 : decide (((p : Int)) < (-1099511627776 : Int)) = false := decide_eq_false (by omega)
  have q2 : decide ((1099511627776 : Int) < ((p : Int))) = false := decide_eq_false (by omega)
  have q3 : decide (((p : Int)) < (0 : Int)) = false := decide_eq_false (by omega)
  go_enter Tryz.func119, Tryz.ntmps119
  go_wp2_with fail
  refine c1.mono ?_
  rintro r w' ⟨rfl, rfl⟩
  go_wp2_with fail
  refine c2.mono ?_
  rintro r w1 ⟨rfl, hb1⟩
  go_wp2_with fail
  refine (c3 _).mono ?_
  rintro r w' ⟨rfl, rfl⟩
  go_wp2_with fail
  refine (c4 _).mono ?_
  rintro r w2 ⟨rfl, hb2⟩
  go_wp2_with fail
  refine (c5 _).mono ?_
  rintro r w' ⟨rfl, rfl⟩
  clear c1 c2 c3 c4 c5
  go_wp2
  go_ret
  exact ⟨rfl, hb1.trans (hb2.mono hb1.size)⟩

set_option maxRecDepth 100000 in
set_option maxHeartbeats 1000000 in
theorem radd_pn_yes (z : Int) (p : Nat) (w : World) (hz : ¬ z < 0) (hs : (tx z).size ≤ 6000) (hp : p ≤ 1099511627776) (hpp : 0 < p) (hlt : z.natAbs < p) :
    Calls Tryz.prog 119 #[.string (tx z), .int .i64 (-(p : Int))] w fun e w' => e = .returned (.string (tx (z - p))) ∧ Below w.heap.size w w' := by
  have c1 := rgood_any (tx z) w (by omega)
  rw [tx_good] at c1
  have hds := dg_tx_size z
  rw [bA_size] at hds
  have hp0 := tx_pos z
  have hh := head_tx_not z hp0 hz
  have hx := abs_tx z hz
  have hres : z - p = M.sgn true (p - z.natAbs) := by unfold M.sgn; simp; omega
  have hlp := dg_len13 p hp
  have c2 := text_any p w hp
  have c3 := fun W => rcompare_any (bA (M.dg z.natAbs)) (bA (M.dg p)) W (by rw [bA_size]; omega) (by rw [bA_size]; omega)
  rw [bA_toList, bA_toList, M.cmpS_dg] at c3
  rw [show M.cmpZ (z.natAbs : Int) (p : Int) = -1 by unfold M.cmpZ; rw [if_pos (by omega)]] at c3
  have c4 := fun W => rless_any p z.natAbs W (by omega) (by omega)
  have c5 := fun W => rnorm_nat true (p - z.natAbs) W (by have := dg_len_mono (show p - z.natAbs ≤ p by omega); omega)
  rw [← hres] at c5
  generalize tx (z - p) = R at *
  generalize tx ((p - z.natAbs : Nat) : Int) = V at *
  generalize bA (M.dg p) = E at *
  clear hres hds hlp hlt
  rw [← hx] at *
  generalize tx z = A at *
  clear hz hx
  have q1 : decide ((-(p : Int)) < (-1099511627776 : Int)) = false := decide_eq_false (by omega)
  have q2 : decide ((1099511627776 : Int) < (-(p : Int))) = false := decide_eq_false (by omega)
  have q3 : decide ((-(p : Int)) < (0 : Int)) = true := decide_eq_true (by omega)
  go_enter Tryz.func119, Tryz.ntmps119
  go_wp2_with fail
  refine c1.mono ?_
  rintro r w' ⟨rfl, rfl⟩
  go_wp2_with fail
  refine c2.mono ?_
  rintro r w1 ⟨rfl, hb1⟩
  go_wp2_with fail
  refine (c3 _).mono ?_
  rintro r w' ⟨rfl, rfl⟩
  go_wp2_with fail
  refine (c4 _).mono ?_
  rintro r w2 ⟨rfl, hb2⟩
  go_wp2_with fail
  refine (c5 _).mono ?_
  rintro r w' ⟨rfl, rfl⟩
  clear c1 c2 c3 c4 c5
  go_wp2
  go_ret
  exact ⟨rfl, hb1.trans (hb2.mono hb1.size)⟩

set_option maxRecDepth 100000 in
set_option maxHeartbeats 1000000 in
theorem radd_pn_no (z : Int) (p : Nat) (w : World) (hz : ¬ z < 0) (hs : (tx z).size ≤ 6000) (hp : p ≤ 1099511627776) (hpp : 0 < p) (hlt : p ≤ z.natAbs) :
    Calls Tryz.prog 119 #[.string (tx z), .int .i64 (-(p : Int))] w fun e w' => e = .returned (.string (tx (z - p))) ∧ Below w.heap.size w w' := by
  have c1 := rgood_any (tx z) w (by omega)
  rw [tx_good] at c1
  have hds := dg_tx_size z
  rw [bA_size] at hds
  have hp0 := tx_pos z
  have hh := head_tx_not z hp0 hz
  have hx := abs_tx z hz
  have hres : z - p = M.sgn false (z.natAbs - p) := by unfold M.sgn; simp; omega
  have hlp := dg_len13 p hp
  have c2 := text_any p w hp
  have c3 := fun W => rcompare_any (bA (M.dg z.natAbs)) (bA (M.dg p)) W (by rw [bA_size]; omega) (by rw [bA_size]; omega)
  rw [bA_toList, bA_toList, M.cmpS_dg] at c3
  obtain ⟨u, hu, hu0⟩ : ∃ u, M.cmpZ (z.natAbs : Int) (p : Int) = u ∧ 0 ≤ u := ⟨_, rfl, by unfold M.cmpZ; rw [if_neg (by omega)]; split <;> omega⟩
  rw [hu] at c3
  have hud : decide (u < 0) = false := decide_eq_false (by omega)
  clear hu hu0
  have c4 := fun W => rless_any z.natAbs p W hlt (by omega)
  have c5 := fun W => rnorm_nat false (z.natAbs - p) W (by have := dg_len_mono (show z.natAbs - p ≤ z.natAbs by omega); omega)
  rw [← hres] at c5
  generalize tx (z - p) = R at *
  generalize tx ((z.natAbs - p : Nat) : Int) = V at *
  generalize bA (M.dg p) = E at *
  clear hres hds hlp hlt
  rw [← hx] at *
  generalize tx z = A at *
  clear hz hx
  have q1 : decide ((-(p : Int)) < (-1099511627776 : Int)) = false := decide_eq_false (by omega)
  have q2 : decide ((1099511627776 : Int) < (-(p : Int))) = false := decide_eq_false (by omega)
  have q3 : decide ((-(p : Int)) < (0 : Int)) = true := decide_eq_true (by omega)
  go_enter Tryz.func119, Tryz.ntmps119
  go_wp2_with fail
  refine c1.mono ?_
  rintro r w' ⟨rfl, rfl⟩
  go_wp2_with fail
  refine c2.mono ?_
  rintro r w1 ⟨rfl, hb1⟩
  go_wp2_with fail
  refine (c3 _).mono ?_
  rintro r w' ⟨rfl, rfl⟩
  go_wp2_with fail
  refine (c4 _).mono ?_
  rintro r w2 ⟨rfl, hb2⟩
  go_wp2_with fail
  refine (c5 _).mono ?_
  rintro r w' ⟨rfl, rfl⟩
  clear c1 c2 c3 c4 c5
  go_wp2
  go_ret
  exact ⟨rfl, hb1.trans (hb2.mono hb1.size)⟩

theorem radd_yes (z n : Int) (w : World) (hs : (tx z).size ≤ 6000) (h1 : -1099511627776 ≤ n) (h2 : n ≤ 1099511627776) :
    Calls Tryz.prog 119 #[.string (tx z), .int .i64 n] w fun e w' => e = .returned (.string (tx (z + n))) ∧ Below w.heap.size w w' := by
  by_cases hz : z < 0
  · by_cases hn : n < 0
    · obtain ⟨p, rfl⟩ : ∃ p : Nat, n = -(p : Int) := ⟨n.natAbs, by omega⟩
      have := radd_nn z p w hz hs (by omega) (by omega)
      rwa [show z - (p : Int) = z + -(p : Int) by omega] at this
    · obtain ⟨p, rfl⟩ : ∃ p : Nat, n = (p : Int) := ⟨n.natAbs, by omega⟩
      by_cases hlt : z.natAbs < p
      · exact radd_np_yes z p w hz hs (by omega) hlt
      · exact radd_np_no z p w hz hs (by omega) (by omega)
  · by_cases hn : 0 ≤ n
    · obtain ⟨p, rfl⟩ : ∃ p : Nat, n = (p : Int) := ⟨n.natAbs, by omega⟩
      exact radd_pp z p w hz hs (by omega)
    · obtain ⟨p, rfl⟩ : ∃ p : Nat, n = -(p : Int) := ⟨n.natAbs, by omega⟩
      rw [show z + -(p : Int) = z - (p : Int) by omega]
      by_cases hlt : z.natAbs < p
      · exact radd_pn_yes z p w hz hs (by omega) (by omega) hlt
      · exact radd_pn_no z p w hz hs (by omega) (by omega) (by omega)
set_option maxRecDepth 100000 in
theorem radd_no (A : ByteArray) (n : Int) (w : World) (hA : A.size ≤ 6000) (h : M.goodB A.data.toList = false ∨ n < -1099511627776 ∨ 1099511627776 < n) :
    Calls Tryz.prog 119 #[.string A, .int .i64 n] w fun e w' => e = .returned (.string ⟨#[]⟩) ∧ w = w' := by
  have c1 := rgood_any A w (by omega)
  by_cases hg : M.goodB A.data.toList = true
  · rw [hg] at c1
    by_cases h1 : n < -1099511627776
    · have q1 : decide (n < (-1099511627776 : Int)) = true := decide_eq_true h1
      clear h h1 hg
      go_enter Tryz.func119, Tryz.ntmps119
      go_wp2_with fail
      refine c1.mono ?_
      rintro r w' ⟨rfl, rfl⟩
      go_wp2
      go_ret
      exact ⟨rfl, rfl⟩
    · have h2 : 1099511627776 < n := by
        rcases h with h | h | h
        · rw [hg] at h; cases h
        · exact absurd h h1
        · exact h
      have q1 : decide (n < (-1099511627776 : Int)) = false := decide_eq_false h1
      have q2 : decide ((1099511627776 : Int) < n) = true := decide_eq_true h2
      clear h h1 hg h2
      go_enter Tryz.func119, Tryz.ntmps119
      go_wp2_with fail
      refine c1.mono ?_
      rintro r w' ⟨rfl, rfl⟩
      go_wp2
      go_ret
      exact ⟨rfl, rfl⟩
  · rw [show M.goodB A.data.toList = false by simpa using hg] at c1
    clear hg h
    go_enter Tryz.func119, Tryz.ntmps119
    go_wp2_with fail
    refine c1.mono ?_
    rintro r w' ⟨rfl, rfl⟩
    go_wp2
    go_ret
    exact ⟨rfl, rfl⟩
/-- Both sides' Add answer the same. -/
theorem add_agree (A : ByteArray) (n : Int) (hA : A.size ≤ 100) : ∃ R : ByteArray, (∀ w, Tab w → Calls Tryz.prog 99 #[.string A, .int .i64 n] w fun e w' => e = .returned (.string R) ∧ Below w.heap.size w w') ∧ (∀ w, Calls Tryz.prog 119 #[.string A, .int .i64 n] w fun e w' => e = .returned (.string R) ∧ Below w.heap.size w w') := by
  by_cases h : M.goodB A.data.toList = false ∨ n < -1099511627776 ∨ 1099511627776 < n
  · exact ⟨⟨#[]⟩, fun w _ => (add_no A n w (by omega) h).mono (fun e w' h => ⟨h.1, h.2 ▸ Below.refl _ _⟩), fun w => (radd_no A n w (by omega) h).mono (fun e w' h => ⟨h.1, h.2 ▸ Below.refl _ _⟩)⟩
  · have h1 : M.goodB A.data.toList = true := by
      cases hh : M.goodB A.data.toList
      · exact absurd (Or.inl hh) h
      · rfl
    obtain ⟨z, rfl⟩ := good_tx h1
    exact ⟨_, fun w ht => add_yes z n w ht (by omega) (by omega) (by omega), fun w => radd_yes z n w (by omega) (by omega) (by omega)⟩

end Go.Proofs.YtipgipgehnhgkaaGreatDoor

namespace Go.Proofs.YtipgipgehnhgkaaGreatDoor
open Go.RowKit

set_option maxRecDepth 100000 in
set_option maxHeartbeats 1000000 in
theorem rmake_no (neg : Bool) (A F X : ByteArray) (w : World) (hA : A.size ≤ 1000) (hF : F.size ≤ 1000) (hX : X.size ≤ 1000)
    (h : M.okD 10 (A.data.toList ++ F.data.toList) = false ∨ M.goodB X.data.toList = false) :
    Calls Tryz.prog 72 #[.bool neg, .string A, .string F, .string X] w fun e w' => e = .returned (.tuple #[dZ, .bool false]) ∧ Below w.heap.size w w' := by
  have hsz : (A ++ F).size ≤ 2000 := by rw [append_sz]; omega
  have c1 := fun W => rdigits_any (A ++ F) W (by omega)
  rw [both_list] at c1
  have c2 := fun W => rgood_any X W (by omega)
  by_cases h1 : M.okD 10 (A.data.toList ++ F.data.toList) = true
  · have h2 : M.goodB X.data.toList = false := by
      rcases h with h | h
      · rw [h1] at h; cases h
      · exact h
    rw [h1] at c1
    rw [h2] at c2
    clear h h1 h2 hsz
    go_enter Tryz.func72, Tryz.ntmps72
    go_wp2_with fail
    refine (c1 _).mono ?_
    rintro r w' ⟨rfl, rfl⟩
    go_wp2_with fail
    refine (c2 _).mono ?_
    rintro r w' ⟨rfl, rfl⟩
    go_wp2
    exact bodyPost_ret (ret_dec Tryz.results72 _ rfl rfl (Blk.made w 0 false ⟨#[]⟩ ⟨#[]⟩)) rfl ⟨rfl, (Below.refl _ _).alloc (Nat.le_refl _) _⟩
  · rw [show M.okD 10 (A.data.toList ++ F.data.toList) = false by simpa using h1] at c1
    clear h h1 hsz
    go_enter Tryz.func72, Tryz.ntmps72
    go_wp2_with fail
    refine (c1 _).mono ?_
    rintro r w' ⟨rfl, rfl⟩
    go_wp2
    exact bodyPost_ret (ret_dec Tryz.results72 _ rfl rfl (Blk.made w 0 false ⟨#[]⟩ ⟨#[]⟩)) rfl ⟨rfl, (Below.refl _ _).alloc (Nat.le_refl _) _⟩
/-- What the document's Make answers, of digits that are noughts, then l, then so many noughts. -/
def RPost (neg : Bool) (F : ByteArray) (z : Int) (r : List UInt8) (T : Nat) : Value :=
  if r = [] then .tuple #[dV 0 neg ⟨#[48]⟩ ⟨#[48]⟩, .bool true] else .tuple #[dV 0 neg (bA r) (tx (z + ((T : Int) - F.size))), .bool true]
set_option maxRecDepth 100000 in
set_option maxHeartbeats 2000000 in
theorem rmake_core (neg : Bool) (A F : ByteArray) (z : Int) (m T : Nat) (r : List UInt8) (w : World) (hA : A.size ≤ 1000) (hF : F.size ≤ 1000) (hX : (tx z).size ≤ 1000)
    (ho : M.okD 10 (A.data.toList ++ F.data.toList) = true) (hl : A.data.toList ++ F.data.toList = M.zs m ++ r ++ M.zs T) (he : EndsWell (M.zs m ++ r)) (hh : r.head? ≠ some 48) :
    Calls Tryz.prog 72 #[.bool neg, .string A, .string F, .string (tx z)] w fun e w' => e = .returned (RPost neg F z r T) ∧ Below w.heap.size w w' := by
  have hsz : (A ++ F).size ≤ 2000 := by rw [append_sz]; omega
  have c1 := fun W => rdigits_any (A ++ F) W (by omega)
  rw [both_list, ho] at c1
  have c2 := fun W => rgood_any (tx z) W (by omega)
  rw [tx_good] at c2
  have hTl : T ≤ 2000 := by
    have := congrArg List.length hl
    rw [← both_list, ← sz_list] at this
    simp only [List.length_append, List.length_replicate] at this
    omega
  have c3 := fun W => radd_yes z ((T : Int) - F.size) W (by omega) (by omega) (by omega)
  have HL := Lib.hid (show (A ++ F).data.toList = M.zs m ++ r ++ M.zs T by rw [both_list]; exact hl)
  have HE := Lib.hid he
  have HH := Lib.hid hh
  clear hl he hh ho
  obtain ⟨V, hV⟩ : ∃ V, RPost neg F z r T = V := ⟨_, rfl⟩
  rw [hV]
  have HV := Lib.hid hV
  clear hV
  obtain ⟨R, hR⟩ : ∃ R, tx (z + ((T : Int) - F.size)) = R := ⟨_, rfl⟩
  rw [hR] at c3
  have HRX := Lib.hid hR
  clear hR
  generalize tx z = X at *
  go_enter Tryz.func72, Tryz.ntmps72
  go_wp2_with fail
  refine (c1 _).mono ?_
  rintro r w' ⟨rfl, rfl⟩
  go_wp2_with fail
  refine (c2 _).mono ?_
  rintro r w' ⟨rfl, rfl⟩
  go_wp2_with fail
  go_loop [10, 11] (fun dv nv => ∃ (t : ByteArray) (k j : Nat), dv = .string t ∧ nv = .int .i64 j ∧ j + k = T ∧ t.size ≤ 2000 ∧ Hid (t.data.toList = M.zs m ++ r ++ M.zs k)) (fun dv _ => match dv with | .string t => t.size | _ => 0)
  case atStart => exact ⟨_, T, 0, rfl, rfl, by omega, hsz, HL.out⟩
  case round =>
    obtain ⟨t, k, j, rfl, rfl, hjk, hts, HS⟩ := hrel
    by_cases h0 : 0 < t.size
    · have hlast := last_list t h0
      match k, hjk, HS with
      | 0, hjk, HS =>
        have e1 : t.data.toList = M.zs m ++ r := by rw [HS.out]; simp
        have h1 : ¬ (t[t.size - 1]'(by omega)).toNat = 48 := by
          intro e
          apply HE.out
          rw [← e1, hlast, UInt8.toNat_inj.1 (show (t[t.size - 1]'(by omega)).toNat = (48 : UInt8).toNat from e)]; simp
        have hb : (((t[t.size - 1]'(by omega)).toNat : Int) == 48) = false := by simp; omega
        obtain rfl : j = T := by omega
        have HT := Lib.hid e1
        clear hlast e1 h1 HS
        go_wp2_with fail
        go_loop [10] (fun dv => ∃ (u : ByteArray) (i : Nat), dv = .string u ∧ u.size ≤ 2000 ∧ Hid (u.data.toList = M.zs i ++ r)) (fun dv => match dv with | .string t => t.size | _ => 0)
        case atStart => exact ⟨_, m, rfl, hts, HT.out⟩
        case round =>
          obtain ⟨u, i, rfl, hus, HU⟩ := hrel
          by_cases h0 : 0 < u.size
          · have hl := drop_cons u 0 h0
            rw [List.drop_zero] at hl
            match i, HU with
            | 0, HU =>
              have e1 : u.data.toList = r := by rw [HU.out]; simp
              have h1 : ¬ u[0].toNat = 48 := by
                intro e
                apply HH.out
                rw [← e1, hl, UInt8.toNat_inj.1 (show u[0].toNat = (48 : UInt8).toNat from e)]; rfl
              have hb : ((u[0].toNat : Int) == 48) = false := by simp; omega
              have hne : r ≠ [] := by rw [← e1, hl]; simp
              have hue : (u.toList == []) = false := by rw [ByteArray.toList_eq, hl]; rfl
              have hue2 : u.toList.isEmpty = false := by rw [ByteArray.toList_eq, hl]; rfl
              have HR : Hid (.tuple #[dV 0 neg u R, .bool true] = V) := Lib.hid (by
                rw [← HV.out]; unfold RPost; rw [if_neg hne, ← HRX.out, ← eq_bA e1])
              clear hl e1 h1 hne HU
              go_wp2_with fail
              refine (c3 _).mono ?_
              rintro r w1 ⟨rfl, hb1⟩
              have K1 := (Blk.made w 0 false ⟨#[]⟩ ⟨#[]⟩).next hb1
              have B1 : Below w.heap.size w w1 := below_new hb1
              clear hb1 c3
              obtain ⟨g, hg⟩ : ∃ g, w.heap.size = g := ⟨_, rfl⟩
              rw [hg] at K1 B1 ⊢
              obtain ⟨k0, k1, k2, k3⟩ := K1.cells
              obtain ⟨f0, f1, f2, f3⟩ := K1.fro
              go_wp2
              exact bodyPost_ret (ret_dec Tryz.results72 _ rfl rfl (K1.set 0 neg _ _)) rfl ⟨by rw [HR.out], below_set4 (hg ▸ B1) (by omega) _ _ _ _⟩
            | i + 1, HU =>
              have e1 := HU.out
              rw [hl] at e1
              have e2 : u[0] = 48 := List.head_eq_of_cons_eq e1
              have e3 : u.data.toList.drop 1 = M.zs i ++ r := List.tail_eq_of_cons_eq e1
              have h1 : u[0].toNat = 48 := by rw [e2]; rfl
              have E3 := Lib.hid e3
              clear hl e1 e2 e3 HU
              go_wp2
              go_round
              case rel => exact ⟨_, i, rfl, by simp; omega, by show _ = _; rw [Lib.extract_to_end]; exact E3.out⟩
              case measure => simp; omega
          · have hz : u.data.toList = [] := List.eq_nil_of_length_eq_zero (by rw [← sz_list]; omega)
            have hr : r = [] := by
              have := HU.out
              rw [hz] at this
              exact (List.append_eq_nil_iff.1 this.symm).2
            obtain rfl : u = ⟨#[]⟩ := eq_bA hz
            have HR : Hid (.tuple #[dV 0 neg ⟨#[48]⟩ ⟨#[48]⟩, .bool true] = V) := Lib.hid (by
              rw [← HV.out]; unfold RPost; rw [if_pos hr])
            clear hz hr HU
            go_wp2
            exact bodyPost_ret (ret_dec Tryz.results72 _ rfl rfl (Blk.made w 0 neg ⟨#[48]⟩ ⟨#[48]⟩)) rfl ⟨by rw [HR.out], (Below.refl _ _).alloc (Nat.le_refl _) _⟩
      | k + 1, hjk, HS =>
        have e0 := HS.out
        rw [← M.zs_snoc, ← List.append_assoc] at e0
        have e1 := hlast.symm.trans e0
        obtain ⟨e2, e3⟩ := List.append_inj' e1 rfl
        have h1 : (t[t.size - 1]'(by omega)).toNat = 48 := by
          have := List.head_eq_of_cons_eq e3
          rw [this]; rfl
        have E2 := Lib.hid e2
        clear hlast e0 e1 e2 e3 HS
        go_wp2
        go_round
        case rel => exact ⟨_, k, j + 1, rfl, by go_num, by omega, by simp; omega, by show _ = _; rw [extract_take]; exact E2.out⟩
        case measure => simp; omega
    · have hz : t.data.toList = [] := List.eq_nil_of_length_eq_zero (by rw [← sz_list]; omega)
      have hm := HS.out
      rw [hz] at hm
      have hm2 := List.append_eq_nil_iff.1 hm.symm
      have hk0 : k = 0 := by have := congrArg List.length hm2.2; simpa using this
      subst hk0
      obtain rfl : j = T := by omega
      have HT := Lib.hid (show t.data.toList = M.zs m ++ r by rw [hz, hm2.1])
      clear hz hm hm2 HS
      go_wp2_with fail
      go_loop [10] (fun dv => ∃ (u : ByteArray) (i : Nat), dv = .string u ∧ u.size ≤ 2000 ∧ Hid (u.data.toList = M.zs i ++ r)) (fun dv => match dv with | .string t => t.size | _ => 0)
      case atStart => exact ⟨_, m, rfl, hts, HT.out⟩
      case round =>
        obtain ⟨u, i, rfl, hus, HU⟩ := hrel
        by_cases h0 : 0 < u.size
        · have hl := drop_cons u 0 h0
          rw [List.drop_zero] at hl
          match i, HU with
          | 0, HU =>
            have e1 : u.data.toList = r := by rw [HU.out]; simp
            have h1 : ¬ u[0].toNat = 48 := by
              intro e
              apply HH.out
              rw [← e1, hl, UInt8.toNat_inj.1 (show u[0].toNat = (48 : UInt8).toNat from e)]; rfl
            have hb : ((u[0].toNat : Int) == 48) = false := by simp; omega
            have hne : r ≠ [] := by rw [← e1, hl]; simp
            have hue : (u.toList == []) = false := by rw [ByteArray.toList_eq, hl]; rfl
            have hue2 : u.toList.isEmpty = false := by rw [ByteArray.toList_eq, hl]; rfl
            have HR : Hid (.tuple #[dV 0 neg u R, .bool true] = V) := Lib.hid (by
              rw [← HV.out]; unfold RPost; rw [if_neg hne, ← HRX.out, ← eq_bA e1])
            clear hl e1 h1 hne HU
            go_wp2_with fail
            refine (c3 _).mono ?_
            rintro r w1 ⟨rfl, hb1⟩
            have K1 := (Blk.made w 0 false ⟨#[]⟩ ⟨#[]⟩).next hb1
            have B1 : Below w.heap.size w w1 := below_new hb1
            clear hb1 c3
            obtain ⟨g, hg⟩ : ∃ g, w.heap.size = g := ⟨_, rfl⟩
            rw [hg] at K1 B1 ⊢
            obtain ⟨k0, k1, k2, k3⟩ := K1.cells
            obtain ⟨f0, f1, f2, f3⟩ := K1.fro
            go_wp2
            exact bodyPost_ret (ret_dec Tryz.results72 _ rfl rfl (K1.set 0 neg _ _)) rfl ⟨by rw [HR.out], below_set4 (hg ▸ B1) (by omega) _ _ _ _⟩
          | i + 1, HU =>
            have e1 := HU.out
            rw [hl] at e1
            have e2 : u[0] = 48 := List.head_eq_of_cons_eq e1
            have e3 : u.data.toList.drop 1 = M.zs i ++ r := List.tail_eq_of_cons_eq e1
            have h1 : u[0].toNat = 48 := by rw [e2]; rfl
            have E3 := Lib.hid e3
            clear hl e1 e2 e3 HU
            go_wp2
            go_round
            case rel => exact ⟨_, i, rfl, by simp; omega, by show _ = _; rw [Lib.extract_to_end]; exact E3.out⟩
            case measure => simp; omega
        · have hz : u.data.toList = [] := List.eq_nil_of_length_eq_zero (by rw [← sz_list]; omega)
          have hr : r = [] := by
            have := HU.out
            rw [hz] at this
            exact (List.append_eq_nil_iff.1 this.symm).2
          obtain rfl : u = ⟨#[]⟩ := eq_bA hz
          have HR : Hid (.tuple #[dV 0 neg ⟨#[48]⟩ ⟨#[48]⟩, .bool true] = V) := Lib.hid (by
            rw [← HV.out]; unfold RPost; rw [if_pos hr])
          clear hz hr HU
          go_wp2
          exact bodyPost_ret (ret_dec Tryz.results72 _ rfl rfl (Blk.made w 0 neg ⟨#[48]⟩ ⟨#[48]⟩)) rfl ⟨by rw [HR.out], (Below.refl _ _).alloc (Nat.le_refl _) _⟩
end Go.Proofs.YtipgipgehnhgkaaGreatDoor

namespace Go.Proofs.YtipgipgehnhgkaaGreatDoor
open Go.RowKit

theorem rmake_zero (neg : Bool) (A F : ByteArray) (z : Int) (w : World) (hA : A.size ≤ 1000) (hF : F.size ≤ 1000) (hX : (tx z).size ≤ 1000)
    (h : M.okD 10 (A.data.toList ++ F.data.toList) = true) (hv : M.val 10 (A.data.toList ++ F.data.toList) = 0) :
    Calls Tryz.prog 72 #[.bool neg, .string A, .string F, .string (tx z)] w fun e w' => e = .returned (.tuple #[dV 0 neg ⟨#[48]⟩ ⟨#[48]⟩, .bool true]) ∧ Below w.heap.size w w' := by
  have hz := M.zs_of_val ((M.okD_iff _ _).1 h).2 hv
  exact rmake_core neg A F z 0 (A.data.toList ++ F.data.toList).length [] w hA hF hX h (by rw [List.append_nil]; exact hz) (by unfold EndsWell; simp) (by simp)
theorem rmake_yes (neg : Bool) (A F : ByteArray) (z : Int) (c t : Nat) (w : World) (hA : A.size ≤ 1000) (hF : F.size ≤ 1000) (hX : (tx z).size ≤ 1000)
    (h : M.okD 10 (A.data.toList ++ F.data.toList) = true) (hc : c % 10 ≠ 0) (hv : M.val 10 (A.data.toList ++ F.data.toList) = c * 10 ^ t) :
    Calls Tryz.prog 72 #[.bool neg, .string A, .string F, .string (tx z)] w fun e w' => e = .returned (.tuple #[dV 0 neg (bA (M.dg c)) (tx (z + ((t : Int) - F.size))), .bool true]) ∧ Below w.heap.size w w' := by
  obtain ⟨m, hm⟩ := M.ct_of_val ((M.okD_iff _ _).1 h).2 hc hv
  have := rmake_core neg A F z m t (M.dg c) w hA hF hX h (by rw [hm, List.append_assoc]) (by
    unfold EndsWell
    obtain ⟨r, e⟩ := M.dg_last c
    rw [e, ← List.append_assoc, List.getLast?_append]
    intro k
    exact M.last_ne c hc (Option.some.inj k)) (M.dg_core_head c hc)
  unfold RPost at this
  rwa [if_neg (M.dg_ne c)] at this
/-- Both sides' Make answer the same. -/
theorem make_agree (neg : Bool) (A F X : ByteArray) (hA : A.size ≤ 100) (hF : F.size ≤ 100) (hX : X.size ≤ 100) :
    ∃ (k : Int) (n : Bool) (D E : ByteArray) (ok : Bool), D.size ≤ 1000 ∧ E.size ≤ 1000 ∧ (∀ W, Tab W → Calls Tryz.prog 52 #[.bool neg, .string A, .string F, .string X] W fun e w' => e = .returned (.tuple #[dV k n D E, .bool ok]) ∧ Below W.heap.size W w') ∧ (∀ W, Calls Tryz.prog 72 #[.bool neg, .string A, .string F, .string X] W fun e w' => e = .returned (.tuple #[dV k n D E, .bool ok]) ∧ Below W.heap.size W w') := by
  by_cases h : M.okD 10 (A.data.toList ++ F.data.toList) = false ∨ M.goodB X.data.toList = false
  · exact ⟨_, _, _, _, _, (by decide), (by decide), fun W _ => make_no neg A F X W (by omega) (by omega) (by omega) h, fun W => rmake_no neg A F X W (by omega) (by omega) (by omega) h⟩
  · have h1 : M.okD 10 (A.data.toList ++ F.data.toList) = true := by
      cases hh : M.okD 10 (A.data.toList ++ F.data.toList)
      · exact absurd (Or.inl hh) h
      · rfl
    have h2 : M.goodB X.data.toList = true := by
      cases hh : M.goodB X.data.toList
      · exact absurd (Or.inr hh) h
      · rfl
    obtain ⟨z, hz⟩ := M.txt_of_good h2
    obtain rfl : X = tx z := eq_bA hz
    by_cases hv : M.val 10 (A.data.toList ++ F.data.toList) = 0
    · exact ⟨_, _, _, _, _, (by decide), (by decide), fun W _ => make_zero neg A F z W (by omega) (by omega) (by omega) h1 hv, fun W => rmake_zero neg A F z W (by omega) (by omega) (by omega) h1 hv⟩
    · obtain ⟨c, t, hc, hct⟩ := M.exists_ct _ (Nat.pos_of_ne_zero hv)
      obtain ⟨m, hm⟩ := M.ct_of_val ((M.okD_iff _ _).1 h1).2 hc hct
      have h3 := congrArg List.length hm
      simp only [List.length_append, List.length_replicate, ← sz_list] at h3
      have h4 := M.txt_abs z
      rw [← tx_size] at h4
      have h5 : 10 ^ (tx z).size ≤ 10 ^ 100 := Nat.pow_le_pow_right (by omega) hX
      have h6 : (10 : Nat) ^ 101 = 10 ^ 100 * 10 := Nat.pow_succ ..
      have h7 : 1000 ≤ 10 ^ 100 := Nat.le_trans (show 1000 ≤ 10 ^ 3 by decide) (Nat.pow_le_pow_right (by omega) (by omega))
      have h8 := tx_len (z + ((t : Int) - F.size)) 101 (by omega) (by generalize (10 : Nat) ^ 101 = P at *; generalize (10 : Nat) ^ 100 = Q at *; omega)
      exact ⟨_, _, _, _, _, by rw [bA_size]; omega, by omega, fun W hW => make_yes neg A F z c t W hW (by omega) (by omega) (by omega) h1 hc hct, fun W => rmake_yes neg A F z c t W (by omega) (by omega) (by omega) h1 hc hct⟩

end Go.Proofs.YtipgipgehnhgkaaGreatDoor
