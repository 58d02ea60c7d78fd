/- Walks: float11's split, Form, Is. -/
import Derived.Test.YtiainpdfidgcfaaDoorFe
import Derived.Test.YtiainpdfidgcfaaDoorXe
set_option linter.unusedVariables false
namespace Go.Proofs.YtiainpdfidgcfaaDoor
open Go.RowKit

set_option maxRecDepth 100000 in
theorem fsplit_any (s : ByteArray) (w : World) (hs : s.size ≤ 1000000) :
    Calls Tryd.prog 8 #[.string s] w fun e w' => e = .returned (.tuple #[.bool (M.isNeg s.data.toList), .string (bA (M.body s.data.toList))]) ∧ w = w' := by
  have c1 := fun W => cut_any s W hs
  have c2 := fun W => trimP_any s W hs
  by_cases h : M.isNeg s.data.toList = true
  · have hb : M.body s.data.toList = M.unsign s.data.toList := by unfold M.body; rw [if_pos h]
    rw [hb]
    rw [h] at c1 ⊢
    clear h hb
    generalize bA (M.unsign s.data.toList) = U at *
    go_enter Tryd.func8, Tryd.ntmps8
    go_wp2_with fail
    refine (c1 _).mono ?_
    rintro r w' ⟨rfl, rfl⟩
    go_wp2
    go_ret2
    exact ⟨rfl, rfl⟩
  · have hb : M.body s.data.toList = M.unplus s.data.toList := by unfold M.body; rw [if_neg h]
    rw [hb]
    rw [show M.isNeg s.data.toList = false by simpa using h] at c1 ⊢
    clear h hb
    generalize bA (M.unsign s.data.toList) = U at *
    generalize bA (M.unplus s.data.toList) = V at *
    go_enter Tryd.func8, Tryd.ntmps8
    go_wp2_with fail
    refine (c1 _).mono ?_
    rintro r w' ⟨rfl, rfl⟩
    go_wp2_with fail
    refine (c2 _).mono ?_
    rintro r w' ⟨rfl, rfl⟩
    go_wp2
    go_ret2
    exact ⟨rfl, rfl⟩
theorem beq_list {s : ByteArray} {l : List UInt8} (h : s.data.toList ≠ l) : (s.toList == l) = false := by
  rw [ByteArray.toList_eq]; exact beq_eq_false_iff_ne.2 h
theorem ba_of {s : ByteArray} {l : List UInt8} (h : s.data.toList = l) : s = ⟨l.toArray⟩ := eq_bA h
set_option maxRecDepth 100000 in
theorem form_nan0 (w : World) : Calls Tryd.prog 6 #[.string ⟨#[46, 110, 97, 110]⟩] w fun e w' => e = .returned (.int .i64 5) ∧ w = w' := by
  go_enter Tryd.func6, Tryd.ntmps6
  go_wp2
  go_ret
  exact ⟨rfl, rfl⟩
set_option maxRecDepth 100000 in
theorem form_nan1 (w : World) : Calls Tryd.prog 6 #[.string ⟨#[46, 78, 97, 78]⟩] w fun e w' => e = .returned (.int .i64 5) ∧ w = w' := by
  go_enter Tryd.func6, Tryd.ntmps6
  go_wp2
  go_ret
  exact ⟨rfl, rfl⟩
set_option maxRecDepth 100000 in
theorem form_nan2 (w : World) : Calls Tryd.prog 6 #[.string ⟨#[46, 78, 65, 78]⟩] w fun e w' => e = .returned (.int .i64 5) ∧ w = w' := by
  go_enter Tryd.func6, Tryd.ntmps6
  go_wp2
  go_ret
  exact ⟨rfl, rfl⟩
set_option maxRecDepth 100000 in
set_option maxHeartbeats 1000000 in
theorem form_inf (s : ByteArray) (U : ByteArray) (w : World) (n : Bool) (hs : s.size ≤ 1000) (h : s.data.toList ∉ M.nans) (hb : bA (M.body s.data.toList) = U) (hU : U = ⟨#[46, 105, 110, 102]⟩ ∨ U = ⟨#[46, 73, 110, 102]⟩ ∨ U = ⟨#[46, 73, 78, 70]⟩) : Calls Tryd.prog 6 #[.string s] w fun e w' => e = .returned (.int .i64 4) ∧ w = w' := by
  have c1 := fsplit_any s w (by omega)
  rw [hb] at c1
  generalize M.isNeg s.data.toList = N at *
  simp only [M.nans, List.mem_cons, List.not_mem_nil, or_false, not_or] at h
  have e1 := beq_list h.1
  have e2 := beq_list h.2.1
  have e3 := beq_list h.2.2
  clear h hb
  rcases hU with rfl | rfl | rfl
  all_goals
    go_enter Tryd.func6, Tryd.ntmps6
    go_wp2_with fail
    refine c1.mono ?_
    rintro r w' ⟨rfl, rfl⟩
    go_wp2
    go_ret
    exact ⟨rfl, rfl⟩
set_option maxRecDepth 100000 in
set_option maxHeartbeats 1000000 in
theorem form_dig (s : ByteArray) (U : ByteArray) (w : World) (hs : s.size ≤ 1000) (h : s.data.toList ∉ M.nans) (hb : bA (M.body s.data.toList) = U) (hU : U.data.toList ∉ M.infs) : Calls Tryd.prog 6 #[.string s] w fun e w' => e = .returned (.int .i64 (M.fl U.data.toList : Nat)) ∧ w = w' := by
  have c1 := fsplit_any s w (by omega)
  have hUs : U.size ≤ 1000 := by
    rw [← hb, bA_size]; have := M.body_len s.data.toList; rw [← sz_list] at this; omega
  have c2 := fun W => ofD_any U W hUs
  rw [hb] at c1
  generalize M.isNeg s.data.toList = N at *
  generalize M.fl U.data.toList = F at *
  simp only [M.nans, List.mem_cons, List.not_mem_nil, or_false, not_or] at h
  simp only [M.infs, List.mem_cons, List.not_mem_nil, or_false, not_or] at hU
  have e1 := beq_list h.1
  have e2 := beq_list h.2.1
  have e3 := beq_list h.2.2
  have g1 := beq_list hU.1
  have g2 := beq_list hU.2.1
  have g3 := beq_list hU.2.2
  clear h hb hU
  go_enter Tryd.func6, Tryd.ntmps6
  go_wp2_with fail
  refine c1.mono ?_
  rintro r w' ⟨rfl, rfl⟩
  go_wp2_with fail
  refine (c2 _).mono ?_
  rintro r w' ⟨rfl, rfl⟩
  go_wp2
  go_ret
  exact ⟨rfl, rfl⟩
theorem flo_any (s : ByteArray) (w : World) (hs : s.size ≤ 1000) : Calls Tryd.prog 6 #[.string s] w fun e w' => e = .returned (.int .i64 (M.flo s.data.toList : Nat)) ∧ w = w' := by
  unfold M.flo
  by_cases h : s.data.toList ∈ M.nans
  · rw [if_pos h]
    simp only [M.nans, List.mem_cons, List.not_mem_nil, or_false] at h
    rcases h with h | h | h
    · rw [ba_of h]; exact form_nan0 w
    · rw [ba_of h]; exact form_nan1 w
    · rw [ba_of h]; exact form_nan2 w
  · rw [if_neg h]
    by_cases hi : M.body s.data.toList ∈ M.infs
    · rw [if_pos hi]
      refine form_inf s _ w (M.isNeg s.data.toList) hs h rfl ?_
      simp only [M.infs, List.mem_cons, List.not_mem_nil, or_false] at hi
      rcases hi with hi | hi | hi
      · exact Or.inl (congrArg bA hi)
      · exact Or.inr (Or.inl (congrArg bA hi))
      · exact Or.inr (Or.inr (congrArg bA hi))
    · rw [if_neg hi]
      have := form_dig s _ w hs h rfl (by rw [bA_toList]; exact hi)
      rwa [bA_toList] at this
theorem fis_any (s : ByteArray) (w : World) (hs : s.size ≤ 1000) :
    Calls Tryd.prog 7 #[.string s] w fun e w' => e = .returned (.bool (decide (M.flo s.data.toList ≠ 0))) ∧ w = w' := by
  have c1 := fun W => flo_any s W hs
  generalize M.flo s.data.toList = F at *
  go_enter Tryd.func7, Tryd.ntmps7
  go_wp2_with fail
  refine (c1 _).mono ?_
  rintro r w' ⟨rfl, rfl⟩
  go_wp2
  go_ret
  refine ⟨ret_bool ?_, rfl⟩
  rw [Bool.eq_iff_iff]
  simp
end Go.Proofs.YtiainpdfidgcfaaDoor
