/- Walks: TrimLeft, CutPrefix, split, whole, Norm. -/
import Derived.Test.YthgkmcidlcdjlaaDoorWa
import Derived.Test.YthgkmcidlcdjlaaDoorKb
set_option linter.unusedVariables false
namespace Go.Proofs.YthgkmcidlcdjlaaDoor
open Go.RowKit

set_option maxRecDepth 100000 in
theorem trimLeft_any (s : ByteArray) (w : World) (hs : s.size ≤ 1000000) :
    Calls Tryd.prog 43 #[.string s, .string ⟨#[48]⟩] w fun e w' => e = .returned (.string (bA (M.strip s.data.toList))) ∧ w = w' := by
  have c1 := trimByte_any s
  by_cases h : s.data.toList = []
  · have e : s = ⟨#[]⟩ := eq_bA h
    subst e
    clear h c1
    go_enter Tryd.func43, Tryd.ntmps43
    go_wp2
    go_ret
    exact ⟨rfl, rfl⟩
  · have h1 : (s.toList == []) = false := by rw [ByteArray.toList_eq]; simpa using h
    have h2 : s.toList.isEmpty = false := by rw [ByteArray.toList_eq]; simpa using h
    generalize bA (M.strip s.data.toList) = R at *
    clear h
    go_enter Tryd.func43, Tryd.ntmps43
    go_wp2_with fail
    refine (c1 _ hs).mono ?_
    rintro r w' ⟨rfl, rfl⟩
    go_wp2
    go_ret
    exact ⟨rfl, rfl⟩

set_option maxRecDepth 100000 in
theorem minus_any (s : ByteArray) (w : World) (hs : s.size ≤ 1000000) :
    Calls Tryd.prog 56 #[.string s, .string ⟨#[45]⟩] w fun e w' => e = .returned (.bool (M.isNeg s.data.toList)) ∧ w = w' := by
  by_cases h0 : 1 ≤ s.size
  · have hd : decide (1 ≤ s.size) = true := by simpa using h0
    have hl := drop_cons s 0 (by omega)
    rw [List.drop_zero] at hl
    have e1 : (s.extract 0 1).toList = [s[0]] := by
      rw [ByteArray.toList_eq]; simp only [ByteArray.data_extract, Array.toList_extract, List.extract_eq_take_drop, List.drop_zero]; rw [hl]; rfl
    have e2 : M.isNeg s.data.toList = decide (s[0] = 45) := by rw [hl]; simp [M.isNeg]
    rw [e2]
    clear e2 hl
    by_cases h1 : s[0] = 45
    · rw [decide_eq_true h1]
      have e3 : ((s.extract 0 1).toList == [45]) = true := by rw [e1, h1]; rfl
      clear e1 h1
      go_enter Tryd.func56, Tryd.ntmps56
      go_wp2
      go_ret
      exact ⟨rfl, rfl⟩
    · rw [decide_eq_false h1]
      have e3 : ((s.extract 0 1).toList == [45]) = false := by rw [e1]; simpa using h1
      clear e1 h1
      go_enter Tryd.func56, Tryd.ntmps56
      go_wp2
      go_ret
      exact ⟨rfl, rfl⟩
  · have hd : decide (1 ≤ s.size) = false := by simpa using h0
    have e : M.isNeg s.data.toList = false := by
      have : s.data.toList = [] := List.eq_nil_of_length_eq_zero (by rw [← sz_list]; omega)
      rw [this]; rfl
    rw [e]
    clear e
    go_enter Tryd.func56, Tryd.ntmps56
    go_wp2
    go_ret
    exact ⟨rfl, rfl⟩

set_option maxRecDepth 100000 in
theorem cut_in (s : ByteArray) (w : World) (hs : s.size ≤ 1000000) :
    Calls Tryd.prog 40 #[.string s, .string ⟨#[45]⟩] w fun e w' => e = .returned (.tuple #[.string (bA (M.unsign s.data.toList)), .bool (M.isNeg s.data.toList)]) ∧ w = w' := by
  have c1 := minus_any s w hs
  by_cases h : M.isNeg s.data.toList = true
  · have hu : bA (M.unsign s.data.toList) = s.extract 1 s.size := by
      symm; apply eq_bA; rw [Lib.extract_to_end]; unfold M.unsign; rw [if_pos h]; simp
    have h1 : 1 ≤ s.size := by
      rw [sz_list]
      match hh : s.data.toList, h with
      | c :: r, _ => simp
    rw [h] at c1 ⊢
    rw [hu]
    clear hu h
    go_enter Tryd.func40, Tryd.ntmps40
    go_wp2_with (go_at_call 56; refine c1.mono ?_; rintro r w' ⟨rfl, rfl⟩)
    go_ret2
    exact ⟨rfl, rfl⟩
  · have h' : M.isNeg s.data.toList = false := by simpa using h
    have hu : bA (M.unsign s.data.toList) = s := by
      symm; apply eq_bA; unfold M.unsign; rw [if_neg h]
    rw [h'] at c1 ⊢
    rw [hu]
    clear hu h h'
    go_enter Tryd.func40, Tryd.ntmps40
    go_wp2_with (go_at_call 56; refine c1.mono ?_; rintro r w' ⟨rfl, rfl⟩)
    go_ret2
    exact ⟨rfl, rfl⟩

set_option maxRecDepth 100000 in
theorem cut_any (s : ByteArray) (w : World) (hs : s.size ≤ 1000000) :
    Calls Tryd.prog 29 #[.string s, .string ⟨#[45]⟩] w fun e w' => e = .returned (.tuple #[.string (bA (M.unsign s.data.toList)), .bool (M.isNeg s.data.toList)]) ∧ w = w' := by
  have c1 := cut_in s w hs
  generalize bA (M.unsign s.data.toList) = U at *
  generalize M.isNeg s.data.toList = V at *
  go_enter Tryd.func29, Tryd.ntmps29
  go_wp2_with (go_at_call 40; refine c1.mono ?_; rintro r w' ⟨rfl, rfl⟩)
  go_ret2
  exact ⟨rfl, rfl⟩
set_option maxRecDepth 100000 in
theorem split_any (s : ByteArray) (w : World) (hs : s.size ≤ 1000000) :
    Calls Tryd.prog 75 #[.string s] w fun e w' => e = .returned (.tuple #[.bool (M.isNeg s.data.toList), .string (bA (M.unsign s.data.toList))]) ∧ w = w' := by
  have c1 := cut_any s w hs
  generalize bA (M.unsign s.data.toList) = U at *
  generalize M.isNeg s.data.toList = V at *
  go_enter Tryd.func75, Tryd.ntmps75
  go_wp2_with (go_at_call 29; refine c1.mono ?_; rintro r w' ⟨rfl, rfl⟩)
  go_ret2
  exact ⟨rfl, rfl⟩

theorem unsign_len (l : List UInt8) : (M.unsign l).length ≤ l.length := by unfold M.unsign; split <;> simp

set_option maxRecDepth 100000 in
set_option maxHeartbeats 1000000 in
theorem good_any (s : ByteArray) (w : World) (hs : s.size ≤ 1000000) :
    Calls Tryd.prog 64 #[.string s] w fun e w' => e = .returned (.bool (M.goodB s.data.toList)) ∧ w = w' := by
  have c1 := split_any s w hs
  have hU : (bA (M.unsign s.data.toList)).size ≤ 1000000 := by
    rw [bA_size]; have := unsign_len s.data.toList; rw [← sz_list] at this; omega
  have c2 := decimal_any (bA (M.unsign s.data.toList)) w hU
  rw [bA_toList] at c2
  by_cases h : M.okD 10 (M.unsign s.data.toList) = true
  · have hne := ((M.okD_iff _ _).1 h).1
    obtain ⟨U, hUe⟩ : ∃ U, bA (M.unsign s.data.toList) = U := ⟨_, rfl⟩
    have hUl : U.data.toList = M.unsign s.data.toList := by rw [← hUe, bA_toList]
    have h1 : 0 < U.size := by rw [sz_list, hUl]; exact List.length_pos_iff.2 hne
    have hl := drop_cons U 0 h1
    rw [List.drop_zero, hUl] at hl
    have hg : M.goodB s.data.toList = (!decide (U[0].toNat = 48) || decide (s.data.toList = [48])) := by
      unfold M.goodB
      rw [h, hl, Bool.true_and, Bool.or_comm]
      congr 1
      rw [← decide_not, decide_eq_decide]
      simp [← UInt8.toNat_inj]
    rw [hg]
    rw [h] at c2
    rw [hUe] at c1 c2
    clear hg hl hUl hUe hne h hU
    by_cases hz : U[0].toNat = 48
    · rw [decide_eq_true hz]
      have e1 : (s.toList == [48]) = decide (s.data.toList = [48]) := by rw [ByteArray.toList_eq]; rw [Bool.eq_iff_iff]; simp
      generalize M.isNeg s.data.toList = V at *
      generalize decide (s.data.toList = [48]) = q at *
      go_enter Tryd.func64, Tryd.ntmps64
      go_wp2_with (first | (go_at_call 75; refine c1.mono ?_; rintro r w' ⟨rfl, rfl⟩) | (go_at_call 31; refine c2.mono ?_; rintro r w' ⟨rfl, rfl⟩))
      go_ret
      exact ⟨ret_bool (by simp), rfl⟩
    · rw [decide_eq_false hz]
      have hb : ((U[0].toNat : Int) != 48) = true := by simp; omega
      generalize M.isNeg s.data.toList = V at *
      go_enter Tryd.func64, Tryd.ntmps64
      go_wp2_with (first | (go_at_call 75; refine c1.mono ?_; rintro r w' ⟨rfl, rfl⟩) | (go_at_call 31; refine c2.mono ?_; rintro r w' ⟨rfl, rfl⟩))
      go_ret
      exact ⟨rfl, rfl⟩
  · have h' : M.okD 10 (M.unsign s.data.toList) = false := by simpa using h
    have hg : M.goodB s.data.toList = false := by
      unfold M.goodB
      rw [h', Bool.false_and, Bool.or_false]
      apply decide_eq_false
      intro e; rw [e] at h'; exact absurd h' (by decide)
    rw [hg]
    rw [h'] at c2
    clear hg h h'
    generalize bA (M.unsign s.data.toList) = U at *
    generalize M.isNeg s.data.toList = V at *
    go_enter Tryd.func64, Tryd.ntmps64
    go_wp2_with (first | (go_at_call 75; refine c1.mono ?_; rintro r w' ⟨rfl, rfl⟩) | (go_at_call 31; refine c2.mono ?_; rintro r w' ⟨rfl, rfl⟩))
    go_ret
    exact ⟨rfl, rfl⟩
end Go.Proofs.YthgkmcidlcdjlaaDoor
