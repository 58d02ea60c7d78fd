/- Walks of targumref4's Base and MulAdd; that both sides answer the same. -/
import Derived.Test.YtocegiffbgnogaaDoorRd
import Derived.Test.YtocegiffbgnogaaDoorWh
set_option linter.unusedVariables false
namespace Go.Proofs.YtocegiffbgnogaaDoor
open Go.RowKit

set_option maxRecDepth 100000 in
set_option maxHeartbeats 1000000 in
theorem rbase_in (s : ByteArray) (b : Nat) (w : World) (hb : b = 2 ∨ b = 8 ∨ b = 16) (hs : s.size ≤ 100) (h0 : 0 < s.size) :
    Calls Tryd.prog 22 #[.string s, .int .i64 b] w fun e w' => e = .returned (.string (if M.allD b s.data.toList = true then tx (M.val b s.data.toList : Nat) else ⟨#[]⟩)) ∧ Below w.heap.size w w' := by
  obtain ⟨R, hR⟩ : ∃ R, (if M.allD b s.data.toList = true then tx (M.val b s.data.toList : Nat) else ⟨#[]⟩) = R := ⟨_, rfl⟩
  rw [hR]
  have HR := Lib.hid hR
  clear hR
  have hne : (s.toList == []) = false := by
    rw [ByteArray.toList_eq]
    have : s.data.toList ≠ [] := List.length_pos_iff.1 (by rw [← sz_list]; exact h0)
    simpa using this
  have hne2 : s.toList.isEmpty = false := by
    rw [ByteArray.toList_eq]
    have : s.data.toList ≠ [] := List.length_pos_iff.1 (by rw [← sz_list]; exact h0)
    simpa using this
  have hb16 : b ≤ 16 ∧ 2 ≤ b := by omega
  have hl : s.data.toList.length ≤ 100 := by rw [← sz_list]; exact hs
  have HLl := Lib.hid hl
  clear hl
  rcases hb with rfl | rfl | rfl
  · show Calls Tryd.prog 22 #[.string s, .int .i64 (2 : Int)] w _
    go_enter Tryd.func22, Tryd.ntmps22
    go_wp2
    go_loopw [5, 6] (fun dv v wr => ∃ i : Nat, dv = .string (tAt 2 s.data.toList i) ∧ v = .int .i64 i ∧ i ≤ s.size ∧ Hid (M.allD 2 (s.data.toList.take i) = true) ∧ Below w.heap.size w wr) (fun _ v _ => s.size - (intOf v).toNat)
    case atStart => exact ⟨0, congrArg _ tx0.symm, rfl, Nat.zero_le _, rfl, Below.refl _ _⟩
    case round =>
      obtain ⟨i, rfl, rfl, hi, ha, hbw⟩ := hrel
      by_cases hlt : i < s.size
      · have d5 : decide (i < s.size) = true := by simpa using hlt
        have c1 := value_any s[i] wr
        have hts := take_snoc s i hlt
        have hsn := M.allD_snoc 2 (s.data.toList.take i) s[i]
        rw [← hts, ha.out, Bool.true_and] at hsn
        have hvs := M.val_snoc 2 (s.data.toList.take i) s[i]
        rw [← hts] at hvs
        have hdle := M.dv_le s[i]
        obtain ⟨d, hdd⟩ : ∃ d, M.dv s[i] = d := ⟨_, rfl⟩
        rw [hdd] at c1 hsn hvs hdle
        have HSN := Lib.hid hsn
        by_cases hdb : d < 2
        · have hq : decide ((2 : Int) ≤ (d : Int)) = false := decide_eq_false (by omega)
          have c2 := rmul_nat (M.val 2 (s.data.toList.take i)) 2 d (tAt 2 s.data.toList (i + 1)) (by unfold tAt; rw [hvs]) (tAt_size 2 _ i (by omega) HLl.out ha.out) (by omega) (by omega)
          rw [show tx ((M.val 2 (s.data.toList.take i) : Nat) : Int) = tAt 2 s.data.toList i from rfl] at c2
          generalize hT0 : tAt 2 s.data.toList i = T0 at *
          clear hsn hvs hts hdd ha hT0
          go_wp2_with fail
          refine c1.mono ?_
          rintro r w' ⟨rfl, rfl⟩
          go_wp2_with fail
          refine (c2 _).mono ?_
          rintro r w5 ⟨rfl, hb5⟩
          clear c1 c2
          go_wp2
          go_roundw
          case rel => exact ⟨i + 1, rfl, by go_num, by omega, by show _ = true; rw [HSN.out]; simpa using hdb, hbw.trans (hb5.mono hbw.size)⟩
          case measure => simp [intOf]; omega
        · have hq : decide ((2 : Int) ≤ (d : Int)) = true := decide_eq_true (by omega)
          generalize hT0 : tAt 2 s.data.toList i = T0 at *
          clear hsn hvs hts hdd ha hT0
          go_wp2_with fail
          refine c1.mono ?_
          rintro r w' ⟨rfl, rfl⟩
          go_wp2
          go_ret
          refine ⟨ret_str ?_, hbw⟩
          have h1 : M.allD 2 (s.data.toList.take (i + 1)) = false := by rw [HSN.out]; simpa using hdb
          rw [← HR.out, if_neg]
          rw [← List.take_append_drop (i + 1) s.data.toList, M.allD_append, h1]
          simp
      · obtain rfl : i = s.size := by omega
        have d5 : decide (s.size < s.size) = false := by simp
        have h1 := ha.out
        rw [take_all] at h1
        have hfin : tAt 2 s.data.toList s.size = R := by rw [← HR.out, if_pos h1]; unfold tAt; rw [take_all]
        rw [hfin]
        clear h1 hfin ha
        go_wp2
        go_ret
        exact ⟨rfl, hbw⟩
  · show Calls Tryd.prog 22 #[.string s, .int .i64 (8 : Int)] w _
    go_enter Tryd.func22, Tryd.ntmps22
    go_wp2
    go_loopw [5, 6] (fun dv v wr => ∃ i : Nat, dv = .string (tAt 8 s.data.toList i) ∧ v = .int .i64 i ∧ i ≤ s.size ∧ Hid (M.allD 8 (s.data.toList.take i) = true) ∧ Below w.heap.size w wr) (fun _ v _ => s.size - (intOf v).toNat)
    case atStart => exact ⟨0, congrArg _ tx0.symm, rfl, Nat.zero_le _, rfl, Below.refl _ _⟩
    case round =>
      obtain ⟨i, rfl, rfl, hi, ha, hbw⟩ := hrel
      by_cases hlt : i < s.size
      · have d5 : decide (i < s.size) = true := by simpa using hlt
        have c1 := value_any s[i] wr
        have hts := take_snoc s i hlt
        have hsn := M.allD_snoc 8 (s.data.toList.take i) s[i]
        rw [← hts, ha.out, Bool.true_and] at hsn
        have hvs := M.val_snoc 8 (s.data.toList.take i) s[i]
        rw [← hts] at hvs
        have hdle := M.dv_le s[i]
        obtain ⟨d, hdd⟩ : ∃ d, M.dv s[i] = d := ⟨_, rfl⟩
        rw [hdd] at c1 hsn hvs hdle
        have HSN := Lib.hid hsn
        by_cases hdb : d < 8
        · have hq : decide ((8 : Int) ≤ (d : Int)) = false := decide_eq_false (by omega)
          have c2 := rmul_nat (M.val 8 (s.data.toList.take i)) 8 d (tAt 8 s.data.toList (i + 1)) (by unfold tAt; rw [hvs]) (tAt_size 8 _ i (by omega) HLl.out ha.out) (by omega) (by omega)
          rw [show tx ((M.val 8 (s.data.toList.take i) : Nat) : Int) = tAt 8 s.data.toList i from rfl] at c2
          generalize hT0 : tAt 8 s.data.toList i = T0 at *
          clear hsn hvs hts hdd ha hT0
          go_wp2_with fail
          refine c1.mono ?_
          rintro r w' ⟨rfl, rfl⟩
          go_wp2_with fail
          refine (c2 _).mono ?_
          rintro r w5 ⟨rfl, hb5⟩
          clear c1 c2
          go_wp2
          go_roundw
          case rel => exact ⟨i + 1, rfl, by go_num, by omega, by show _ = true; rw [HSN.out]; simpa using hdb, hbw.trans (hb5.mono hbw.size)⟩
          case measure => simp [intOf]; omega
        · have hq : decide ((8 : Int) ≤ (d : Int)) = true := decide_eq_true (by omega)
          generalize hT0 : tAt 8 s.data.toList i = T0 at *
          clear hsn hvs hts hdd ha hT0
          go_wp2_with fail
          refine c1.mono ?_
          rintro r w' ⟨rfl, rfl⟩
          go_wp2
          go_ret
          refine ⟨ret_str ?_, hbw⟩
          have h1 : M.allD 8 (s.data.toList.take (i + 1)) = false := by rw [HSN.out]; simpa using hdb
          rw [← HR.out, if_neg]
          rw [← List.take_append_drop (i + 1) s.data.toList, M.allD_append, h1]
          simp
      · obtain rfl : i = s.size := by omega
        have d5 : decide (s.size < s.size) = false := by simp
        have h1 := ha.out
        rw [take_all] at h1
        have hfin : tAt 8 s.data.toList s.size = R := by rw [← HR.out, if_pos h1]; unfold tAt; rw [take_all]
        rw [hfin]
        clear h1 hfin ha
        go_wp2
        go_ret
        exact ⟨rfl, hbw⟩
  · show Calls Tryd.prog 22 #[.string s, .int .i64 (16 : Int)] w _
    go_enter Tryd.func22, Tryd.ntmps22
    go_wp2
    go_loopw [5, 6] (fun dv v wr => ∃ i : Nat, dv = .string (tAt 16 s.data.toList i) ∧ v = .int .i64 i ∧ i ≤ s.size ∧ Hid (M.allD 16 (s.data.toList.take i) = true) ∧ Below w.heap.size w wr) (fun _ v _ => s.size - (intOf v).toNat)
    case atStart => exact ⟨0, congrArg _ tx0.symm, rfl, Nat.zero_le _, rfl, Below.refl _ _⟩
    case round =>
      obtain ⟨i, rfl, rfl, hi, ha, hbw⟩ := hrel
      by_cases hlt : i < s.size
      · have d5 : decide (i < s.size) = true := by simpa using hlt
        have c1 := value_any s[i] wr
        have hts := take_snoc s i hlt
        have hsn := M.allD_snoc 16 (s.data.toList.take i) s[i]
        rw [← hts, ha.out, Bool.true_and] at hsn
        have hvs := M.val_snoc 16 (s.data.toList.take i) s[i]
        rw [← hts] at hvs
        have hdle := M.dv_le s[i]
        obtain ⟨d, hdd⟩ : ∃ d, M.dv s[i] = d := ⟨_, rfl⟩
        rw [hdd] at c1 hsn hvs hdle
        have HSN := Lib.hid hsn
        by_cases hdb : d < 16
        · have hq : decide ((16 : Int) ≤ (d : Int)) = false := decide_eq_false (by omega)
          have c2 := rmul_nat (M.val 16 (s.data.toList.take i)) 16 d (tAt 16 s.data.toList (i + 1)) (by unfold tAt; rw [hvs]) (tAt_size 16 _ i (by omega) HLl.out ha.out) (by omega) (by omega)
          rw [show tx ((M.val 16 (s.data.toList.take i) : Nat) : Int) = tAt 16 s.data.toList i from rfl] at c2
          generalize hT0 : tAt 16 s.data.toList i = T0 at *
          clear hsn hvs hts hdd ha hT0
          go_wp2_with fail
          refine c1.mono ?_
          rintro r w' ⟨rfl, rfl⟩
          go_wp2_with fail
          refine (c2 _).mono ?_
          rintro r w5 ⟨rfl, hb5⟩
          clear c1 c2
          go_wp2
          go_roundw
          case rel => exact ⟨i + 1, rfl, by go_num, by omega, by show _ = true; rw [HSN.out]; simpa using hdb, hbw.trans (hb5.mono hbw.size)⟩
          case measure => simp [intOf]; omega
        · have hq : decide ((16 : Int) ≤ (d : Int)) = true := decide_eq_true (by omega)
          generalize hT0 : tAt 16 s.data.toList i = T0 at *
          clear hsn hvs hts hdd ha hT0
          go_wp2_with fail
          refine c1.mono ?_
          rintro r w' ⟨rfl, rfl⟩
          go_wp2
          go_ret
          refine ⟨ret_str ?_, hbw⟩
          have h1 : M.allD 16 (s.data.toList.take (i + 1)) = false := by rw [HSN.out]; simpa using hdb
          rw [← HR.out, if_neg]
          rw [← List.take_append_drop (i + 1) s.data.toList, M.allD_append, h1]
          simp
      · obtain rfl : i = s.size := by omega
        have d5 : decide (s.size < s.size) = false := by simp
        have h1 := ha.out
        rw [take_all] at h1
        have hfin : tAt 16 s.data.toList s.size = R := by rw [← HR.out, if_pos h1]; unfold tAt; rw [take_all]
        rw [hfin]
        clear h1 hfin ha
        go_wp2
        go_ret
        exact ⟨rfl, hbw⟩
set_option maxRecDepth 100000 in
theorem rbase_other (s : ByteArray) (b : Int) (w : World) (hb : ¬ (b = 2 ∨ b = 8 ∨ b = 16)) :
    Calls Tryd.prog 22 #[.string s, .int .i64 b] w fun r w' => r = .returned (.string ⟨#[]⟩) ∧ w = w' := by
  have h1 : (b != 2) = true := by simp; omega
  have h2 : (b != 8) = true := by simp; omega
  have h3 : (b != 16) = true := by simp; omega
  clear hb
  go_enter Tryd.func22, Tryd.ntmps22
  go_wp2
  go_ret
  exact ⟨rfl, rfl⟩
set_option maxRecDepth 100000 in
theorem rbase_empty (b : Nat) (w : World) (hb : b = 2 ∨ b = 8 ∨ b = 16) :
    Calls Tryd.prog 22 #[.string ⟨#[]⟩, .int .i64 b] w fun r w' => r = .returned (.string ⟨#[]⟩) ∧ w = w' := by
  rcases hb with rfl | rfl | rfl
  all_goals
    go_enter Tryd.func22, Tryd.ntmps22
    go_wp2
    go_ret
    exact ⟨rfl, rfl⟩
/-- Both sides' Base answer the same. -/
theorem base_agree (s : ByteArray) (b : Int) (hs : s.size ≤ 100) : ∃ R : ByteArray, R.size ≤ 10000 ∧ (∀ w, Calls Tryd.prog 19 #[.string s, .int .i64 b] w fun e w' => e = .returned (.string R) ∧ Below w.heap.size w w') ∧ (∀ w, Calls Tryd.prog 22 #[.string s, .int .i64 b] w fun e w' => e = .returned (.string R) ∧ Below w.heap.size w w') := by
  by_cases hb : b = 2 ∨ b = 8 ∨ b = 16
  · obtain ⟨n, rfl⟩ : ∃ n : Nat, b = (n : Int) := ⟨b.toNat, by omega⟩
    have hn : n = 2 ∨ n = 8 ∨ n = 16 := by omega
    by_cases h0 : 0 < s.size
    · by_cases ha : M.allD n s.data.toList = true
      · have hok : M.okD n s.data.toList = true := (M.okD_iff _ _).2 ⟨List.length_pos_iff.1 (by rw [← sz_list]; exact h0), ha⟩
        refine ⟨tx (M.val n s.data.toList : Nat), ?_, fun w => base_yes s n w hn (by omega) hok, fun w => ?_⟩
        · have := tAt_size n s.data.toList s.size (by omega) (by rw [← sz_list]; exact hs) (by rw [take_all]; exact ha)
          unfold tAt at this
          rwa [take_all] at this
        · have := rbase_in s n w hn hs h0
          rwa [if_pos ha] at this
      · have hok : M.okD n s.data.toList = false := by
          unfold M.okD; rw [show M.allD n s.data.toList = false by simpa using ha, Bool.and_false]
        refine ⟨⟨#[]⟩, by decide, fun w => (base_no s n w hn (by omega) hok).mono (fun e w' h => ⟨h.1, h.2 ▸ Below.refl _ _⟩), fun w => ?_⟩
        have := rbase_in s n w hn hs h0
        rwa [if_neg ha] at this
    · have e : s = ⟨#[]⟩ := eq_bA (List.eq_nil_of_length_eq_zero (by rw [← sz_list]; omega))
      subst e
      exact ⟨⟨#[]⟩, by decide, fun w => (base_no ⟨#[]⟩ n w hn (by decide) (by unfold M.okD; rfl)).mono (fun e w' h => ⟨h.1, h.2 ▸ Below.refl _ _⟩), fun w => (rbase_empty n w hn).mono (fun e w' h => ⟨h.1, h.2 ▸ Below.refl _ _⟩)⟩
  · exact ⟨⟨#[]⟩, by decide, fun w => (base_other s b w hb).mono (fun e w' h => ⟨h.1, h.2 ▸ Below.refl _ _⟩), fun w => (rbase_other s b w hb).mono (fun e w' h => ⟨h.1, h.2 ▸ Below.refl _ _⟩)⟩
end Go.Proofs.YtocegiffbgnogaaDoor
