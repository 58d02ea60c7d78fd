/- Walk of targumref4's Norm. -/
import Derived.Test.YthgkmcidlcdjlaaDoorRa
import Derived.Test.YthgkmcidlcdjlaaDoorLa
set_option linter.unusedVariables false
namespace Go.Proofs.YthgkmcidlcdjlaaDoor
open Go.RowKit

/-- Digits without noughts ahead, but a last one. -/
theorem lean_dg (l : List UInt8) (ha : M.allD 10 l = true) (h0 : 0 < l.length) (h : l.length = 1 ∨ l.head? ≠ some 48) : l = M.dg (M.val 10 l) := by
  have hne : l ≠ [] := List.length_pos_iff.1 h0
  by_cases hh : l.head? = some 48
  · have h1 : l.length = 1 := by rcases h with h | h; exact h; exact absurd hh h
    match l, h1, hh with
    | [c], _, hh =>
      have : c = 48 := by simpa using hh
      subst this
      rw [M.val_one, show M.dv 48 = 0 by decide, M.dg_zero]
  · exact (M.dg_of l ((M.okD_iff _ _).2 ⟨hne, ha⟩) ⟨hne, hh⟩).2
theorem val_drop_nought (l : List UInt8) (i : Nat) (hi : i < l.length) (h : l[i] = 48) : M.val 10 (l.drop i) = M.val 10 (l.drop (i + 1)) := by
  rw [List.drop_eq_getElem_cons hi, M.val_cons, h, show M.dv 48 = 0 by decide, Nat.zero_mul, Nat.zero_add]

set_option maxRecDepth 100000 in
set_option maxHeartbeats 1000000 in
theorem rnorm_yes (neg : Bool) (s : ByteArray) (w : World) (hs : s.size ≤ 100000) (hd : M.okD 10 s.data.toList = true) :
    Calls Tryd.prog 13 #[.bool neg, .string s] w fun e w' => e = .returned (.string (tx (M.sgn neg (M.val 10 s.data.toList)))) ∧ w = w' := by
  have c1 := rdigits_any s w (by omega)
  rw [hd] at c1
  obtain ⟨hne, hall⟩ := (M.okD_iff _ _).1 hd
  have h0 : 0 < s.size := by rw [sz_list]; exact List.length_pos_iff.2 hne
  obtain ⟨R, hR⟩ : ∃ R, tx (M.sgn neg (M.val 10 s.data.toList)) = R := ⟨_, rfl⟩
  rw [hR]
  have HR := Lib.hid hR
  have HALL := Lib.hid hall
  clear hd hne hall hR
  go_enter Tryd.func13, Tryd.ntmps13
  go_wp2_with fail
  refine c1.mono ?_
  rintro r w' ⟨rfl, rfl⟩
  clear c1
  go_wp2
  go_loop [5] (fun v => ∃ i : Nat, v = .int .i64 i ∧ i < s.size ∧ Hid (M.val 10 (s.data.toList.drop i) = M.val 10 s.data.toList)) (fun v => s.size - (intOf v).toNat)
  case atStart => exact ⟨0, rfl, h0, rfl⟩
  case round =>
    obtain ⟨i, rfl, hi, hst⟩ := hrel
    by_cases hgo : i + 1 < s.size ∧ s[i].toNat = 48
    · obtain ⟨hg1, hg2⟩ := hgo
      have d1 : decide ((i : Int) < (s.size : Int) - 1) = true := decide_eq_true (by omega)
      have hv := val_drop_nought s.data.toList i (by rw [← sz_list]; exact hi) (UInt8.toNat_inj.1 hg2)
      rw [hst.out] at hv
      have HV := Lib.hid hv.symm
      clear hv hst
      go_wp2
      go_round
      case rel => exact ⟨i + 1, by go_num, by omega, HV.out⟩
      case measure => simp [intOf]; omega
    · have hle : s.data.toList.drop i = M.dg (M.val 10 s.data.toList) := by
        rw [← hst.out]
        apply lean_dg
        · have := HALL.out
          rw [← List.take_append_drop i s.data.toList, M.allD_append, Bool.and_eq_true] at this
          exact this.2
        · rw [List.length_drop, ← sz_list]; omega
        · by_cases hg1 : i + 1 < s.size
          · right
            rw [drop_cons s i hi]
            have : ¬ s[i].toNat = 48 := fun e => hgo ⟨hg1, e⟩
            simp [← UInt8.toNat_inj]
            exact this
          · left; rw [List.length_drop, ← sz_list]; omega
      obtain ⟨n, hn⟩ : ∃ n, M.val 10 s.data.toList = n := ⟨_, rfl⟩
      rw [hn] at hle
      have hRn : R = tx (M.sgn neg n) := by rw [← HR.out, hn]
      have hx : s.extract i s.size = bA (M.dg n) := by apply eq_bA; rw [Lib.extract_to_end]; exact hle
      have hz : ((bA (M.dg n)).toList == [48]) = decide (n = 0) := by
        have := tx_beq (n : Int) 0
        rw [show (tx 0).toList = [48] by rw [tx0, ByteArray.toList_eq], show tx (n : Int) = bA (M.dg n) by unfold tx; rw [M.txt_nat]] at this
        rw [this, decide_eq_decide]; omega
      have hzs : (bA (M.dg n)).size ≤ 100000 := by rw [← hx]; simp; omega
      have hmin : ⟨#[45]⟩ ++ bA (M.dg n) = bA (45 :: M.dg n) := bA_append [45] (M.dg n)
      have hR0 : n = 0 → R = bA (M.dg n) := by intro h; rw [hRn, h, M.sgn_zero]; unfold tx; rw [M.txt_zero, M.dg_zero]
      have hR1 : n ≠ 0 → neg = true → R = bA (45 :: M.dg n) := by intro h h2; rw [hRn, h2]; unfold tx; rw [M.txt_sgn _ _ (by omega)]; rfl
      have hR2 : neg = false → R = bA (M.dg n) := by intro h2; rw [hRn, h2]; unfold tx; exact congrArg bA (M.txt_nat n)
      have HR0 := Lib.hid hR0
      have HR1 := Lib.hid hR1
      have HR2 := Lib.hid hR2
      clear hle hn hRn hR0 hR1 hR2 HALL HR hst
      generalize bA (M.dg n) = D at *
      generalize bA (45 :: M.dg n) = E at *
      by_cases hg1 : i + 1 < s.size
      · have d1 : decide ((i : Int) < (s.size : Int) - 1) = true := decide_eq_true (by omega)
        have hnz : ¬ s[i].toNat = 48 := fun e => hgo ⟨hg1, e⟩
        have d2 : ((s[i].toNat : Int) == 48) = false := by simp; omega
        clear hnz hgo
        cases neg
        · go_wp2
          go_ret
          exact ⟨ret_str (HR2.out (by trivial)).symm, rfl⟩
        · by_cases hn0 : n = 0
          · rw [decide_eq_true hn0] at hz
            have HN := Lib.hid hn0
            clear hn0
            go_wp2
            go_ret
            exact ⟨ret_str (HR0.out HN.out).symm, rfl⟩
          · rw [decide_eq_false hn0] at hz
            have HN := Lib.hid hn0
            clear hn0
            go_wp2
            go_ret
            exact ⟨ret_str (HR1.out HN.out (by trivial)).symm, rfl⟩
      · have d1 : decide ((i : Int) < (s.size : Int) - 1) = false := decide_eq_false (by omega)
        clear hgo
        cases neg
        · go_wp2
          go_ret
          exact ⟨ret_str (HR2.out (by trivial)).symm, rfl⟩
        · by_cases hn0 : n = 0
          · rw [decide_eq_true hn0] at hz
            have HN := Lib.hid hn0
            clear hn0
            go_wp2
            go_ret
            exact ⟨ret_str (HR0.out HN.out).symm, rfl⟩
          · rw [decide_eq_false hn0] at hz
            have HN := Lib.hid hn0
            clear hn0
            go_wp2
            go_ret
            exact ⟨ret_str (HR1.out HN.out (by trivial)).symm, rfl⟩
theorem rnorm_no (neg : Bool) (s : ByteArray) (w : World) (hs : s.size ≤ 100000) (hd : M.okD 10 s.data.toList = false) :
    Calls Tryd.prog 13 #[.bool neg, .string s] w fun e w' => e = .returned (.string ⟨#[]⟩) ∧ w = w' := by
  have c1 := rdigits_any s w (by omega)
  rw [hd] at c1
  clear hd
  go_enter Tryd.func13, Tryd.ntmps13
  go_wp2_with (go_at_call 28; refine c1.mono ?_; rintro r w' ⟨rfl, rfl⟩)
  go_ret
  exact ⟨rfl, rfl⟩
theorem rnorm_list (neg : Bool) (l : List UInt8) (w : World) (h : M.okD 10 l = true) (hl : l.length ≤ 100000) :
    Calls Tryd.prog 13 #[.bool neg, .string (bA l)] w fun e w' => e = .returned (.string (tx (M.sgn neg (M.val 10 l)))) ∧ w = w' := by
  have := rnorm_yes neg (bA l) w (by rw [bA_size]; omega) (by rw [bA_toList]; exact h)
  rwa [bA_toList] at this
end Go.Proofs.YthgkmcidlcdjlaaDoor
