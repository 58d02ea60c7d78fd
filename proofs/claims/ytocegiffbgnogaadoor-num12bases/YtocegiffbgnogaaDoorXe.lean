/- Walks: TrimPrefix, split, Form, Is. -/
import Derived.Test.YtocegiffbgnogaaDoorXd
set_option linter.unusedVariables false
namespace Go.Proofs.YtocegiffbgnogaaDoor
open Go.RowKit

set_option maxRecDepth 100000 in
theorem plus_any (s : ByteArray) (w : World) (hs : s.size ≤ 1000000) :
    Calls Tryd.prog 52 #[.string s, .string ⟨#[43]⟩] w fun e w' => e = .returned (.bool (decide (s.data.toList.head? = some 43))) ∧ w = w' := by
  by_cases h0 : 1 ≤ s.size
  · have hd : decide (1 ≤ s.size) = true := by simpa using h0
    have hl := drop_cons s 0 (by omega)
    rw [List.drop_zero] at hl
    have e1 : (s.extract 0 1).toList = [s[0]] := by
      rw [ByteArray.toList_eq]; simp only [ByteArray.data_extract, Array.toList_extract, List.extract_eq_take_drop, List.drop_zero]; rw [hl]; rfl
    have e2 : decide (s.data.toList.head? = some 43) = decide (s[0] = 43) := by rw [hl]; simp
    rw [e2]
    clear e2 hl
    by_cases h1 : s[0] = 43
    · rw [decide_eq_true h1]
      have e3 : ((s.extract 0 1).toList == [43]) = true := by rw [e1, h1]; rfl
      clear e1 h1
      go_enter Tryd.func52, Tryd.ntmps52
      go_wp2
      go_ret
      exact ⟨rfl, rfl⟩
    · rw [decide_eq_false h1]
      have e3 : ((s.extract 0 1).toList == [43]) = false := by rw [e1]; simpa using h1
      clear e1 h1
      go_enter Tryd.func52, Tryd.ntmps52
      go_wp2
      go_ret
      exact ⟨rfl, rfl⟩
  · have hd : decide (1 ≤ s.size) = false := by simpa using h0
    have e : decide (s.data.toList.head? = some 43) = false := by
      have : s.data.toList = [] := List.eq_nil_of_length_eq_zero (by rw [← sz_list]; omega)
      rw [this]; rfl
    rw [e]
    clear e
    go_enter Tryd.func52, Tryd.ntmps52
    go_wp2
    go_ret
    exact ⟨rfl, rfl⟩
set_option maxRecDepth 100000 in
theorem trimP_in (s : ByteArray) (w : World) (hs : s.size ≤ 1000000) :
    Calls Tryd.prog 60 #[.string s, .string ⟨#[43]⟩] w fun e w' => e = .returned (.string (bA (M.unplus s.data.toList))) ∧ w = w' := by
  have c1 := plus_any s w hs
  by_cases h : s.data.toList.head? = some 43
  · have hu : bA (M.unplus s.data.toList) = s.extract 1 s.size := by
      symm; apply eq_bA; rw [Lib.extract_to_end]; unfold M.unplus; rw [if_pos h]; simp
    have h1 : 1 ≤ s.size := by
      rw [sz_list]
      match hh : s.data.toList, h with
      | c :: r, _ => simp
    rw [decide_eq_true h] at c1
    rw [hu]
    clear hu h
    go_enter Tryd.func60, Tryd.ntmps60
    go_wp2_with (go_at_call 52; refine c1.mono ?_; rintro r w' ⟨rfl, rfl⟩)
    go_ret
    exact ⟨rfl, rfl⟩
  · have hu : bA (M.unplus s.data.toList) = s := by
      symm; apply eq_bA; unfold M.unplus; rw [if_neg h]
    rw [decide_eq_false h] at c1
    rw [hu]
    clear hu h
    go_enter Tryd.func60, Tryd.ntmps60
    go_wp2_with (go_at_call 52; refine c1.mono ?_; rintro r w' ⟨rfl, rfl⟩)
    go_ret
    exact ⟨rfl, rfl⟩
set_option maxRecDepth 100000 in
theorem trimP_any (s : ByteArray) (w : World) (hs : s.size ≤ 1000000) :
    Calls Tryd.prog 44 #[.string s, .string ⟨#[43]⟩] w fun e w' => e = .returned (.string (bA (M.unplus s.data.toList))) ∧ w = w' := by
  have c1 := trimP_in s w hs
  generalize bA (M.unplus s.data.toList) = U at *
  go_enter Tryd.func44, Tryd.ntmps44
  go_wp2_with (go_at_call 60; refine c1.mono ?_; rintro r w' ⟨rfl, rfl⟩)
  go_ret
  exact ⟨rfl, rfl⟩


end Go.Proofs.YtocegiffbgnogaaDoor
