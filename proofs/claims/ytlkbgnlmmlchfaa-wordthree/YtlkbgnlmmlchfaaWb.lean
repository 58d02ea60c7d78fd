/- Walks: the code's Bool, the document's Bool. -/
import Derived.Test.YtlkbgnlmmlchfaaWa
set_option linter.unusedVariables false
namespace Go.Proofs.Ytlkbgnlmmlchfaa
open Go.RowKit

set_option maxRecDepth 100000 in
set_option maxHeartbeats 1000000 in
theorem bool_any (v : Int) (s : ByteArray) (w : World) : Calls Try.prog 8 #[.int .i64 v, .string s] w fun e w' => e = .returned (bV (M.bo (decide (v = 11)) s.data.toList)) ∧ w = w' := by
  have c1 := fun W => nT_any s W
  have c2 := fun W => oT_any s W
  have c3 := fun W => nF_any s W
  have c4 := fun W => oF_any s W
  unfold M.bo
  have hv : (v == 11) = decide (v = 11) := by rw [Bool.eq_iff_iff]; simp
  generalize decide (s.data.toList ∈ M.wT) = t at *
  generalize decide (s.data.toList ∈ M.oT) = ot at *
  generalize decide (s.data.toList ∈ M.wF) = f at *
  generalize decide (s.data.toList ∈ M.oF) = f2 at *
  have hv2 : decide (v = 11) = true → v = 11 := fun h => of_decide_eq_true h
  generalize decide (v = 11) = old at *
  cases t
  · cases old
    · cases f
      · go_enter Try.func8, Try.ntmps8
        go_wp2_with fail
        refine (c1 _).mono ?_
        rintro r w' ⟨rfl, rfl⟩
        go_wp2_with fail
        refine (c3 _).mono ?_
        rintro r w' ⟨rfl, rfl⟩
        go_wp2
        go_ret2
        exact ⟨rfl, rfl⟩
      · go_enter Try.func8, Try.ntmps8
        go_wp2_with fail
        refine (c1 _).mono ?_
        rintro r w' ⟨rfl, rfl⟩
        go_wp2_with fail
        refine (c3 _).mono ?_
        rintro r w' ⟨rfl, rfl⟩
        go_wp2
        go_ret2
        exact ⟨rfl, rfl⟩
    · obtain rfl := hv2 rfl
      clear hv hv2
      cases ot
      · cases f
        · cases f2
          all_goals
            go_enter Try.func8, Try.ntmps8
            go_wp2_with fail
            refine (c1 _).mono ?_
            rintro r w' ⟨rfl, rfl⟩
            go_wp2_with fail
            refine (c2 _).mono ?_
            rintro r w' ⟨rfl, rfl⟩
            go_wp2_with fail
            refine (c3 _).mono ?_
            rintro r w' ⟨rfl, rfl⟩
            go_wp2_with fail
            refine (c4 _).mono ?_
            rintro r w' ⟨rfl, rfl⟩
            go_wp2
            go_ret2
            exact ⟨rfl, rfl⟩
        · go_enter Try.func8, Try.ntmps8
          go_wp2_with fail
          refine (c1 _).mono ?_
          rintro r w' ⟨rfl, rfl⟩
          go_wp2_with fail
          refine (c2 _).mono ?_
          rintro r w' ⟨rfl, rfl⟩
          go_wp2_with fail
          refine (c3 _).mono ?_
          rintro r w' ⟨rfl, rfl⟩
          go_wp2
          go_ret2
          exact ⟨rfl, rfl⟩
      · go_enter Try.func8, Try.ntmps8
        go_wp2_with fail
        refine (c1 _).mono ?_
        rintro r w' ⟨rfl, rfl⟩
        go_wp2_with fail
        refine (c2 _).mono ?_
        rintro r w' ⟨rfl, rfl⟩
        go_wp2
        go_ret2
        exact ⟨rfl, rfl⟩
  · go_enter Try.func8, Try.ntmps8
    go_wp2_with fail
    refine (c1 _).mono ?_
    rintro r w' ⟨rfl, rfl⟩
    go_wp2
    go_ret2
    exact ⟨rfl, rfl⟩

set_option maxRecDepth 100000 in
set_option maxHeartbeats 1000000 in
theorem rbool_new (v : Int) (s : ByteArray) (w : World) (h : s.data.toList ∈ M.wT ∨ s.data.toList ∈ M.wF) : Calls Try.prog 9 #[.int .i64 v, .string s] w fun e w' => e = .returned (bV (M.bo (decide (v = 11)) s.data.toList)) ∧ w = w' := by
  generalize decide (v = 11) = old
  rcases h with h | h
  · simp only [M.wT, List.mem_cons, List.not_mem_nil, or_false] at h
    rcases h with h | h | h
    all_goals
      rw [ba_of h]
      clear h
      cases old
      all_goals
        go_enter Try.func9, Try.ntmps9
        go_wp2
        go_ret2
        exact ⟨rfl, rfl⟩
  · simp only [M.wF, List.mem_cons, List.not_mem_nil, or_false] at h
    rcases h with h | h | h
    all_goals
      rw [ba_of h]
      clear h
      cases old
      all_goals
        go_enter Try.func9, Try.ntmps9
        go_wp2
        go_ret2
        exact ⟨rfl, rfl⟩

set_option maxRecDepth 100000 in
set_option maxHeartbeats 1000000 in
theorem rbool_old (s : ByteArray) (w : World) (h : s.data.toList ∈ M.oT ∨ s.data.toList ∈ M.oF) : Calls Try.prog 9 #[.int .i64 11, .string s] w fun e w' => e = .returned (bV (M.bo true s.data.toList)) ∧ w = w' := by
  rcases h with h | h
  · simp only [M.oT, List.mem_cons, List.not_mem_nil, or_false] at h
    rcases h with h | h | h | h | h | h | h | h
    all_goals
      rw [ba_of h]
      clear h
      go_enter Try.func9, Try.ntmps9
      go_wp2
      go_ret2
      exact ⟨rfl, rfl⟩
  · simp only [M.oF, List.mem_cons, List.not_mem_nil, or_false] at h
    rcases h with h | h | h | h | h | h | h | h
    all_goals
      rw [ba_of h]
      clear h
      go_enter Try.func9, Try.ntmps9
      go_wp2
      go_ret2
      exact ⟨rfl, rfl⟩

set_option maxRecDepth 100000 in
set_option maxHeartbeats 1000000 in
theorem rbool_young (v : Int) (s : ByteArray) (w : World) (hv : v ≠ 11) (h1 : s.data.toList ∉ M.wT) (h2 : s.data.toList ∉ M.wF) : Calls Try.prog 9 #[.int .i64 v, .string s] w fun e w' => e = .returned (bV (M.bo (decide (v = 11)) s.data.toList)) ∧ w = w' := by
  have e : M.bo (decide (v = 11)) s.data.toList = (false, false) := by
    unfold M.bo
    rw [decide_eq_false hv, decide_eq_false h1, decide_eq_false h2]
    rfl
  rw [e]
  have q : (v == 11) = false := beq_eq_false_iff_ne.2 hv
  simp only [M.wT, List.mem_cons, List.not_mem_nil, or_false, not_or] at h1
  have a0 := beq_list h1.1
  have a1 := beq_list h1.2.1
  have a2 := beq_list h1.2.2
  simp only [M.wF, List.mem_cons, List.not_mem_nil, or_false, not_or] at h2
  have b0 := beq_list h2.1
  have b1 := beq_list h2.2.1
  have b2 := beq_list h2.2.2
  clear h1 h2 e hv
  go_enter Try.func9, Try.ntmps9
  go_wp2
  go_ret2
  exact ⟨rfl, rfl⟩

set_option maxRecDepth 100000 in
set_option maxHeartbeats 1000000 in
theorem rbool_none (s : ByteArray) (w : World) (h1 : s.data.toList ∉ M.wT) (h2 : s.data.toList ∉ M.wF) (h3 : s.data.toList ∉ M.oT) (h4 : s.data.toList ∉ M.oF) : Calls Try.prog 9 #[.int .i64 11, .string s] w fun e w' => e = .returned (bV (M.bo true s.data.toList)) ∧ w = w' := by
  have e : M.bo true s.data.toList = (false, false) := by
    unfold M.bo
    rw [decide_eq_false h1, decide_eq_false h2, decide_eq_false h3, decide_eq_false h4]
    rfl
  rw [e]
  simp only [M.wT, List.mem_cons, List.not_mem_nil, or_false, not_or] at h1
  have a0 := beq_list h1.1
  have a1 := beq_list h1.2.1
  have a2 := beq_list h1.2.2
  simp only [M.wF, List.mem_cons, List.not_mem_nil, or_false, not_or] at h2
  have b0 := beq_list h2.1
  have b1 := beq_list h2.2.1
  have b2 := beq_list h2.2.2
  simp only [M.oT, List.mem_cons, List.not_mem_nil, or_false, not_or] at h3
  have c0 := beq_list h3.1
  have c1 := beq_list h3.2.1
  have c2 := beq_list h3.2.2.1
  have c3 := beq_list h3.2.2.2.1
  have c4 := beq_list h3.2.2.2.2.1
  have c5 := beq_list h3.2.2.2.2.2.1
  have c6 := beq_list h3.2.2.2.2.2.2.1
  have c7 := beq_list h3.2.2.2.2.2.2.2
  simp only [M.oF, List.mem_cons, List.not_mem_nil, or_false, not_or] at h4
  have d0 := beq_list h4.1
  have d1 := beq_list h4.2.1
  have d2 := beq_list h4.2.2.1
  have d3 := beq_list h4.2.2.2.1
  have d4 := beq_list h4.2.2.2.2.1
  have d5 := beq_list h4.2.2.2.2.2.1
  have d6 := beq_list h4.2.2.2.2.2.2.1
  have d7 := beq_list h4.2.2.2.2.2.2.2
  clear h1 h2 h3 h4 e
  go_enter Try.func9, Try.ntmps9
  go_wp2
  go_ret2
  exact ⟨rfl, rfl⟩
theorem rbool_any (v : Int) (s : ByteArray) (w : World) : Calls Try.prog 9 #[.int .i64 v, .string s] w fun e w' => e = .returned (bV (M.bo (decide (v = 11)) s.data.toList)) ∧ w = w' := by
  by_cases h1 : s.data.toList ∈ M.wT
  · exact rbool_new v s w (Or.inl h1)
  by_cases h2 : s.data.toList ∈ M.wF
  · exact rbool_new v s w (Or.inr h2)
  by_cases hv : v = 11
  · subst hv
    rw [decide_eq_true rfl]
    by_cases h3 : s.data.toList ∈ M.oT
    · exact rbool_old s w (Or.inl h3)
    by_cases h4 : s.data.toList ∈ M.oF
    · exact rbool_old s w (Or.inr h4)
    exact rbool_none s w h1 h2 h3 h4
  · exact rbool_young v s w hv h1 h2

end Go.Proofs.Ytlkbgnlmmlchfaa
