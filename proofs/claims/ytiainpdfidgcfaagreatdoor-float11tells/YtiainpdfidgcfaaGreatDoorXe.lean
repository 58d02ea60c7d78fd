/- Walks: TrimPrefix, split, Form, Is. -/
import Derived.Test.YtiainpdfidgcfaaGreatDoorXd
set_option linter.unusedVariables false
namespace Go.Proofs.YtiainpdfidgcfaaGreatDoor
open Go.RowKit

set_option maxRecDepth 100000 in
theorem plus_any (s : ByteArray) (w : World) (hs : s.size ≤ 1000000) :
    Calls Tryz.prog 85 #[.string s, .string ⟨#[43]⟩] w fun e w' => e = .returned (.bool (decide (s.data.toList.head? = some 43))) ∧ w = w' := by
  by_cases h0 : 1 ≤ s.size
  · have hd : decide (1 ≤ s.size) = true := by simpa using h0
    have hl := drop_cons s 0 (by omega)
    rw [List.drop_zero] at hl
    have e1 : (s.extract 0 1).toList = [s[0]] := by
      rw [ByteArray.toList_eq]; simp only [ByteArray.data_extract, Array.toList_extract, List.extract_eq_take_drop, List.drop_zero]; rw [hl]; rfl
    have e2 : decide (s.data.toList.head? = some 43) = decide (s[0] = 43) := by rw [hl]; simp
    rw [e2]
    clear e2 hl
    by_cases h1 : s[0] = 43
    · rw [decide_eq_true h1]
      have e3 : ((s.extract 0 1).toList == [43]) = true := by rw [e1, h1]; rfl
      clear e1 h1
      go_enter Tryz.func85, Tryz.ntmps85
      go_wp2
      go_ret
      exact ⟨rfl, rfl⟩
    · rw [decide_eq_false h1]
      have e3 : ((s.extract 0 1).toList == [43]) = false := by rw [e1]; simpa using h1
      clear e1 h1
      go_enter Tryz.func85, Tryz.ntmps85
      go_wp2
      go_ret
      exact ⟨rfl, rfl⟩
  · have hd : decide (1 ≤ s.size) = false := by simpa using h0
    have e : decide (s.data.toList.head? = some 43) = false := by
      have : s.data.toList = [] := List.eq_nil_of_length_eq_zero (by rw [← sz_list]; omega)
      rw [this]; rfl
    rw [e]
    clear e
    go_enter Tryz.func85, Tryz.ntmps85
    go_wp2
    go_ret
    exact ⟨rfl, rfl⟩
set_option maxRecDepth 100000 in
theorem trimP_in (s : ByteArray) (w : World) (hs : s.size ≤ 1000000) :
    Calls Tryz.prog 62 #[.string s, .string ⟨#[43]⟩] w fun e w' => e = .returned (.string (bA (M.unplus s.data.toList))) ∧ w = w' := by
  have c1 := plus_any s w hs
  by_cases h : s.data.toList.head? = some 43
  · have hu : bA (M.unplus s.data.toList) = s.extract 1 s.size := by
      symm; apply eq_bA; rw [Lib.extract_to_end]; unfold M.unplus; rw [if_pos h]; simp
    have h1 : 1 ≤ s.size := by
      rw [sz_list]
      match hh : s.data.toList, h with
      | c :: r, _ => simp
    rw [decide_eq_true h] at c1
    rw [hu]
    clear hu h
    go_enter Tryz.func62, Tryz.ntmps62
    go_wp2_with (go_at_call 85; refine c1.mono ?_; rintro r w' ⟨rfl, rfl⟩)
    go_ret
    exact ⟨rfl, rfl⟩
  · have hu : bA (M.unplus s.data.toList) = s := by
      symm; apply eq_bA; unfold M.unplus; rw [if_neg h]
    rw [decide_eq_false h] at c1
    rw [hu]
    clear hu h
    go_enter Tryz.func62, Tryz.ntmps62
    go_wp2_with (go_at_call 85; refine c1.mono ?_; rintro r w' ⟨rfl, rfl⟩)
    go_ret
    exact ⟨rfl, rfl⟩
set_option maxRecDepth 100000 in
theorem trimP_any (s : ByteArray) (w : World) (hs : s.size ≤ 1000000) :
    Calls Tryz.prog 37 #[.string s, .string ⟨#[43]⟩] w fun e w' => e = .returned (.string (bA (M.unplus s.data.toList))) ∧ w = w' := by
  have c1 := trimP_in s w hs
  generalize bA (M.unplus s.data.toList) = U at *
  go_enter Tryz.func37, Tryz.ntmps37
  go_wp2_with (go_at_call 62; refine c1.mono ?_; rintro r w' ⟨rfl, rfl⟩)
  go_ret
  exact ⟨rfl, rfl⟩


set_option maxRecDepth 100000 in
theorem isplit_any (s : ByteArray) (w : World) (hs : s.size ≤ 1000000) :
    Calls Tryz.prog 56 #[.string s] w fun e w' => e = .returned (.tuple #[.bool (M.isNeg s.data.toList), .string (bA (M.body s.data.toList))]) ∧ w = w' := by
  have c1 := fun W => cut_any s W hs
  have c2 := fun W => trimP_any s W hs
  by_cases h : M.isNeg s.data.toList = true
  · have hb : M.body s.data.toList = M.unsign s.data.toList := by unfold M.body; rw [if_pos h]
    rw [hb]
    rw [h] at c1 ⊢
    clear h hb
    generalize bA (M.unsign s.data.toList) = U at *
    go_enter Tryz.func56, Tryz.ntmps56
    go_wp2_with fail
    refine (c1 _).mono ?_
    rintro r w' ⟨rfl, rfl⟩
    go_wp2
    go_ret2
    exact ⟨rfl, rfl⟩
  · have hb : M.body s.data.toList = M.unplus s.data.toList := by unfold M.body; rw [if_neg h]
    rw [hb]
    rw [show M.isNeg s.data.toList = false by simpa using h] at c1 ⊢
    clear h hb
    generalize bA (M.unsign s.data.toList) = U at *
    generalize bA (M.unplus s.data.toList) = V at *
    go_enter Tryz.func56, Tryz.ntmps56
    go_wp2_with fail
    refine (c1 _).mono ?_
    rintro r w' ⟨rfl, rfl⟩
    go_wp2_with fail
    refine (c2 _).mono ?_
    rintro r w' ⟨rfl, rfl⟩
    go_wp2
    go_ret2
    exact ⟨rfl, rfl⟩
set_option maxRecDepth 100000 in
set_option maxHeartbeats 1000000 in
theorem form_any (s : ByteArray) (w : World) (hs : s.size ≤ 1000) :
    Calls Tryz.prog 35 #[.string s] w fun e w' => e = .returned (.int .i64 (M.form s.data.toList : Nat)) ∧ w = w' := by
  have c1 := fun W => isplit_any s W (by omega)
  have hU : (bA (M.body s.data.toList)).size ≤ 1000 := by
    rw [bA_size]; have := M.body_len s.data.toList; rw [← sz_list] at this; omega
  obtain ⟨U, hUe⟩ : ∃ U, bA (M.body s.data.toList) = U := ⟨_, rfl⟩
  have hf : M.form s.data.toList = M.fB U.data.toList := by unfold M.form; rw [← hUe, bA_toList]
  rw [hf]
  rw [hUe] at c1 hU
  generalize M.isNeg s.data.toList = V at *
  clear hf hUe
  by_cases h0 : 0 < U.size
  · have hl := drop_cons U 0 h0
    rw [List.drop_zero] at hl
    have c2 := fun W => at_in U 0 W h0 (by omega)
    have hc := U[0].toNat_lt
    by_cases h48 : U[0] = 48
    · have c3 := fun W => nought_any U W (by omega) h0
      rw [show M.fB U.data.toList = M.fN (U.data.toList.drop 1) by rw [hl, M.fB, if_pos h48]; rfl]
      rw [h48] at c2
      clear h48 hc hl
      generalize M.fN (U.data.toList.drop 1) = F at *
      go_enter Tryz.func35, Tryz.ntmps35
      go_wp2_with fail
      refine (c1 _).mono ?_
      rintro r w' ⟨rfl, rfl⟩
      go_wp2_with fail
      refine (c2 _).mono ?_
      rintro r w' ⟨rfl, rfl⟩
      go_wp2_with fail
      refine (c3 _).mono ?_
      rintro r w' ⟨rfl, rfl⟩
      go_wp2
      go_ret
      exact ⟨rfl, rfl⟩
    · have hx : ((U[0].toNat : Int) == 48) = false := neC (k := 48) (by omega) h48
      have c4 := fun W => isDig_any U[0] 10 W (by omega)
      by_cases hd : M.dv U[0] < 10
      · have c3 := fun W => digit_any U W (by omega) h0
        rw [show M.fB U.data.toList = M.fA (U.data.toList.drop 1) by rw [hl, M.fB, if_neg h48, if_pos hd]; rfl]
        rw [decide_eq_true hd] at c4
        generalize U[0].toNat = n at *
        clear h48 hl hd
        generalize M.fA (U.data.toList.drop 1) = F at *
        go_enter Tryz.func35, Tryz.ntmps35
        go_wp2_with fail
        refine (c1 _).mono ?_
        rintro r w' ⟨rfl, rfl⟩
        go_wp2_with fail
        refine (c2 _).mono ?_
        rintro r w' ⟨rfl, rfl⟩
        go_wp2_with fail
        refine (c4 _).mono ?_
        rintro r w' ⟨rfl, rfl⟩
        go_wp2_with fail
        refine (c3 _).mono ?_
        rintro r w' ⟨rfl, rfl⟩
        go_wp2
        go_ret
        exact ⟨rfl, rfl⟩
      · rw [show M.fB U.data.toList = 0 by rw [hl, M.fB, if_neg h48, if_neg hd]]
        rw [decide_eq_false hd] at c4
        generalize U[0].toNat = n at *
        clear h48 hl hd
        go_enter Tryz.func35, Tryz.ntmps35
        go_wp2_with fail
        refine (c1 _).mono ?_
        rintro r w' ⟨rfl, rfl⟩
        go_wp2_with fail
        refine (c2 _).mono ?_
        rintro r w' ⟨rfl, rfl⟩
        go_wp2_with fail
        refine (c4 _).mono ?_
        rintro r w' ⟨rfl, rfl⟩
        go_wp2
        go_ret
        exact ⟨rfl, rfl⟩
  · have c2 := fun W => at_out U 0 W h0 (by omega)
    have c4 := fun W => isDig_end 10 W
    have hz : U.data.toList = [] := List.eq_nil_of_length_eq_zero (by rw [← sz_list]; omega)
    rw [hz]
    clear hz
    go_enter Tryz.func35, Tryz.ntmps35
    go_wp2_with fail
    refine (c1 _).mono ?_
    rintro r w' ⟨rfl, rfl⟩
    go_wp2_with fail
    refine (c2 _).mono ?_
    rintro r w' ⟨rfl, rfl⟩
    go_wp2_with fail
    refine (c4 _).mono ?_
    rintro r w' ⟨rfl, rfl⟩
    go_wp2
    go_ret
    exact ⟨rfl, rfl⟩
theorem is_any (s : ByteArray) (w : World) (hs : s.size ≤ 1000) :
    Calls Tryz.prog 17 #[.string s] w fun e w' => e = .returned (.bool (decide (M.form s.data.toList ≠ 0))) ∧ w = w' := by
  have c1 := fun W => form_any s W hs
  generalize M.form s.data.toList = F at *
  go_enter Tryz.func17, Tryz.ntmps17
  go_wp2_with fail
  refine (c1 _).mono ?_
  rintro r w' ⟨rfl, rfl⟩
  go_wp2
  go_ret
  refine ⟨ret_bool ?_, rfl⟩
  rw [Bool.eq_iff_iff]
  simp
end Go.Proofs.YtiainpdfidgcfaaGreatDoor
