/- Walks: the code's four lists of words, Null, Merge; letters and signs. -/
import Derived.Test.YtlkbgnlmmlchfaaK
set_option linter.unusedVariables false
namespace Go.Proofs.Ytlkbgnlmmlchfaa
open Go.RowKit

set_option maxRecDepth 100000 in
theorem nT_any (s : ByteArray) (w : World) : Calls Try.prog 17 #[.string s] w fun e w' => e = .returned (.bool (decide (s.data.toList ∈ M.wT))) ∧ w = w' := by
  by_cases h : s.data.toList ∈ M.wT
  · rw [decide_eq_true h]
    simp only [M.wT, List.mem_cons, List.not_mem_nil, or_false] at h
    rcases h with h | h | h
    all_goals
      rw [ba_of h]
      clear h
      go_enter Try.func17, Try.ntmps17
      go_wp2
      go_ret
      exact ⟨rfl, rfl⟩
  · rw [decide_eq_false h]
    simp only [M.wT, List.mem_cons, List.not_mem_nil, or_false, not_or] at h
    have e0 := beq_list h.1
    have e1 := beq_list h.2.1
    have e2 := beq_list h.2.2
    clear h
    go_enter Try.func17, Try.ntmps17
    go_wp2
    go_ret
    exact ⟨rfl, rfl⟩

set_option maxRecDepth 100000 in
theorem nF_any (s : ByteArray) (w : World) : Calls Try.prog 19 #[.string s] w fun e w' => e = .returned (.bool (decide (s.data.toList ∈ M.wF))) ∧ w = w' := by
  by_cases h : s.data.toList ∈ M.wF
  · rw [decide_eq_true h]
    simp only [M.wF, List.mem_cons, List.not_mem_nil, or_false] at h
    rcases h with h | h | h
    all_goals
      rw [ba_of h]
      clear h
      go_enter Try.func19, Try.ntmps19
      go_wp2
      go_ret
      exact ⟨rfl, rfl⟩
  · rw [decide_eq_false h]
    simp only [M.wF, List.mem_cons, List.not_mem_nil, or_false, not_or] at h
    have e0 := beq_list h.1
    have e1 := beq_list h.2.1
    have e2 := beq_list h.2.2
    clear h
    go_enter Try.func19, Try.ntmps19
    go_wp2
    go_ret
    exact ⟨rfl, rfl⟩

set_option maxRecDepth 100000 in
theorem oT_any (s : ByteArray) (w : World) : Calls Try.prog 18 #[.string s] w fun e w' => e = .returned (.bool (decide (s.data.toList ∈ M.oT))) ∧ w = w' := by
  by_cases h : s.data.toList ∈ M.oT
  · rw [decide_eq_true h]
    simp only [M.oT, List.mem_cons, List.not_mem_nil, or_false] at h
    rcases h with h | h | h | h | h | h | h | h
    all_goals
      rw [ba_of h]
      clear h
      go_enter Try.func18, Try.ntmps18
      go_wp2
      go_ret
      exact ⟨rfl, rfl⟩
  · rw [decide_eq_false h]
    simp only [M.oT, List.mem_cons, List.not_mem_nil, or_false, not_or] at h
    have e0 := beq_list h.1
    have e1 := beq_list h.2.1
    have e2 := beq_list h.2.2.1
    have e3 := beq_list h.2.2.2.1
    have e4 := beq_list h.2.2.2.2.1
    have e5 := beq_list h.2.2.2.2.2.1
    have e6 := beq_list h.2.2.2.2.2.2.1
    have e7 := beq_list h.2.2.2.2.2.2.2
    clear h
    go_enter Try.func18, Try.ntmps18
    go_wp2
    go_ret
    exact ⟨rfl, rfl⟩

set_option maxRecDepth 100000 in
theorem oF_any (s : ByteArray) (w : World) : Calls Try.prog 20 #[.string s] w fun e w' => e = .returned (.bool (decide (s.data.toList ∈ M.oF))) ∧ w = w' := by
  by_cases h : s.data.toList ∈ M.oF
  · rw [decide_eq_true h]
    simp only [M.oF, List.mem_cons, List.not_mem_nil, or_false] at h
    rcases h with h | h | h | h | h | h | h | h
    all_goals
      rw [ba_of h]
      clear h
      go_enter Try.func20, Try.ntmps20
      go_wp2
      go_ret
      exact ⟨rfl, rfl⟩
  · rw [decide_eq_false h]
    simp only [M.oF, List.mem_cons, List.not_mem_nil, or_false, not_or] at h
    have e0 := beq_list h.1
    have e1 := beq_list h.2.1
    have e2 := beq_list h.2.2.1
    have e3 := beq_list h.2.2.2.1
    have e4 := beq_list h.2.2.2.2.1
    have e5 := beq_list h.2.2.2.2.2.1
    have e6 := beq_list h.2.2.2.2.2.2.1
    have e7 := beq_list h.2.2.2.2.2.2.2
    clear h
    go_enter Try.func20, Try.ntmps20
    go_wp2
    go_ret
    exact ⟨rfl, rfl⟩

set_option maxRecDepth 100000 in
theorem null_any (s : ByteArray) (w : World) : Calls Try.prog 10 #[.string s] w fun e w' => e = .returned (.bool (decide (s.data.toList ∈ M.wN))) ∧ w = w' := by
  by_cases h : s.data.toList ∈ M.wN
  · rw [decide_eq_true h]
    simp only [M.wN, List.mem_cons, List.not_mem_nil, or_false] at h
    rcases h with h | h | h | h | h
    all_goals
      rw [ba_of h]
      clear h
      go_enter Try.func10, Try.ntmps10
      go_wp2
      go_ret
      exact ⟨rfl, rfl⟩
  · rw [decide_eq_false h]
    simp only [M.wN, List.mem_cons, List.not_mem_nil, or_false, not_or] at h
    have e0 := beq_list h.1
    have e1 := beq_list h.2.1
    have e2 := beq_list h.2.2.1
    have e3 := beq_list h.2.2.2.1
    have e4 := beq_list h.2.2.2.2
    clear h
    go_enter Try.func10, Try.ntmps10
    go_wp2
    go_ret
    exact ⟨rfl, rfl⟩

set_option maxRecDepth 100000 in
theorem rnull_any (s : ByteArray) (w : World) : Calls Try.prog 11 #[.string s] w fun e w' => e = .returned (.bool (decide (s.data.toList ∈ M.wN))) ∧ w = w' := by
  by_cases h : s.data.toList ∈ M.wN
  · rw [decide_eq_true h]
    simp only [M.wN, List.mem_cons, List.not_mem_nil, or_false] at h
    rcases h with h | h | h | h | h
    all_goals
      rw [ba_of h]
      clear h
      go_enter Try.func11, Try.ntmps11
      go_wp2
      go_ret
      exact ⟨rfl, rfl⟩
  · rw [decide_eq_false h]
    simp only [M.wN, List.mem_cons, List.not_mem_nil, or_false, not_or] at h
    have e0 := beq_list h.1
    have e1 := beq_list h.2.1
    have e2 := beq_list h.2.2.1
    have e3 := beq_list h.2.2.2.1
    have e4 := beq_list h.2.2.2.2
    clear h
    go_enter Try.func11, Try.ntmps11
    go_wp2
    go_ret
    exact ⟨rfl, rfl⟩

set_option maxRecDepth 100000 in
theorem merge_any (s : ByteArray) (w : World) : Calls Try.prog 12 #[.string s] w fun e w' => e = .returned (.bool (s.toList == [60, 60])) ∧ w = w' := by
  go_enter Try.func12, Try.ntmps12
  go_wp2
  all_goals (go_ret; first | exact ⟨rfl, rfl⟩ | (refine ⟨ret_bool ?_, rfl⟩; simp_all))
set_option maxRecDepth 100000 in
theorem isL_any (c : UInt8) (w : World) : Calls Try.prog 23 #[.int .u8 (c.toNat : Nat)] w fun e w' => e = .returned (.bool (M.isL c)) ∧ w = w' := by
  have hc : c.toNat < 256 := c.toNat_lt
  unfold M.isL
  generalize c.toNat = n at *
  go_enter Try.func23, Try.ntmps23
  go_wp2
  all_goals (go_ret; refine ⟨ret_bool ?_, rfl⟩; rw [Bool.eq_iff_iff]; simp; try omega)
set_option maxRecDepth 100000 in
theorem risL_any (c : UInt8) (w : World) : Calls Try.prog 16 #[.int .u8 (c.toNat : Nat)] w fun e w' => e = .returned (.bool (M.isL c)) ∧ w = w' := by
  have hc : c.toNat < 256 := c.toNat_lt
  unfold M.isL
  generalize c.toNat = n at *
  go_enter Try.func16, Try.ntmps16
  go_wp2
  all_goals (go_ret; refine ⟨ret_bool ?_, rfl⟩; rw [Bool.eq_iff_iff]; simp; try omega)
set_option maxRecDepth 100000 in
theorem risG_any (c : UInt8) (w : World) : Calls Try.prog 22 #[.int .u8 (c.toNat : Nat)] w fun e w' => e = .returned (.bool (M.isG c)) ∧ w = w' := by
  have hc : c.toNat < 256 := c.toNat_lt
  unfold M.isG
  generalize c.toNat = n at *
  go_enter Try.func22, Try.ntmps22
  go_wp2
  all_goals (go_ret; refine ⟨ret_bool ?_, rfl⟩; rw [Bool.eq_iff_iff]; simp; try omega)
set_option maxRecDepth 100000 in
theorem mf_any (c : UInt8) (w : World) : Calls Try.prog 24 #[.int .u8 (c.toNat : Nat)] w fun e w' => e = .returned (.bool (M.mf c)) ∧ w = w' := by
  have hc : c.toNat < 256 := c.toNat_lt
  have c1 := isL_any c w
  unfold M.mf M.isG
  generalize M.isL c = a at *
  generalize c.toNat = n at *
  have e95 : ((n : Int) == 95) = decide (n = 95) := by rw [Bool.eq_iff_iff]; simp; omega
  have e45 : ((n : Int) == 45) = decide (n = 45) := by rw [Bool.eq_iff_iff]; simp; omega
  cases a
  · rw [Bool.false_or]
    go_enter Try.func24, Try.ntmps24
    go_wp2_with (go_at_call 23; refine c1.mono ?_; rintro r w' ⟨rfl, rfl⟩)
    all_goals (go_ret; refine ⟨ret_bool ?_, rfl⟩; first | rfl | (simp; done) | (rw [Bool.eq_iff_iff]; simp; omega))
  · go_enter Try.func24, Try.ntmps24
    go_wp2_with (go_at_call 23; refine c1.mono ?_; rintro r w' ⟨rfl, rfl⟩)
    go_ret
    exact ⟨rfl, rfl⟩

end Go.Proofs.Ytlkbgnlmmlchfaa
