/- Walks: known; the law WordMore. -/
import Derived.Test.YtlkbgnlmmlchfaaWd
set_option linter.unusedVariables false
namespace Go.Proofs.Ytlkbgnlmmlchfaa
open Go.RowKit

theorem kb1 (w : World) : Calls Try.prog 8 #[.int .i64 11, .string ⟨#[79, 102, 102]⟩] w fun e w' => e = .returned (.tuple #[.bool false, .bool true]) ∧ w = w' := by
  have h := bool_any 11 ⟨#[79, 102, 102]⟩ w
  rw [show M.bo (decide ((11 : Int) = 11)) (⟨#[79, 102, 102]⟩ : ByteArray).data.toList = (false, true) by decide] at h
  exact h
theorem kb2 (w : World) : Calls Try.prog 8 #[.int .i64 12, .string ⟨#[121, 101, 115]⟩] w fun e w' => e = .returned (.tuple #[.bool false, .bool false]) ∧ w = w' := by
  have h := bool_any 12 ⟨#[121, 101, 115]⟩ w
  rw [show M.bo (decide ((12 : Int) = 11)) (⟨#[121, 101, 115]⟩ : ByteArray).data.toList = (false, false) by decide] at h
  exact h
theorem kb3 (w : World) : Calls Try.prog 10 #[.string ⟨#[126]⟩] w fun e w' => e = .returned (.bool true) ∧ w = w' := by
  have h := null_any ⟨#[126]⟩ w
  rw [show decide ((⟨#[126]⟩ : ByteArray).data.toList ∈ M.wN) = true by decide] at h
  exact h
theorem kb4 (w : World) : Calls Try.prog 12 #[.string ⟨#[60, 60]⟩] w fun e w' => e = .returned (.bool true) ∧ w = w' := by
  have h := merge_any ⟨#[60, 60]⟩ w
  rw [show ((⟨#[60, 60]⟩ : ByteArray).toList == [60, 60]) = true by rw [ByteArray.toList_eq]; decide] at h
  exact h
theorem kb5 (w : World) : Calls Try.prog 12 #[.string ⟨#[60]⟩] w fun e w' => e = .returned (.bool false) ∧ w = w' := by
  have h := merge_any ⟨#[60]⟩ w
  rw [show ((⟨#[60]⟩ : ByteArray).toList == [60, 60]) = false by rw [ByteArray.toList_eq]; decide] at h
  exact h
theorem kb6 (w : World) : Calls Try.prog 13 #[.string ⟨#[97, 45, 49]⟩] w fun e w' => e = .returned (.bool true) ∧ w = w' := by
  have h := plain_any ⟨#[97, 45, 49]⟩ w (by decide)
  rw [show M.pl (⟨#[97, 45, 49]⟩ : ByteArray).data.toList = true by decide] at h
  exact h
theorem kb7 (w : World) : Calls Try.prog 13 #[.string ⟨#[121, 101, 115]⟩] w fun e w' => e = .returned (.bool false) ∧ w = w' := by
  have h := plain_any ⟨#[121, 101, 115]⟩ w (by decide)
  rw [show M.pl (⟨#[121, 101, 115]⟩ : ByteArray).data.toList = false by decide] at h
  exact h
theorem kb8 (w : World) : Calls Try.prog 13 #[.string ⟨#[49, 97]⟩] w fun e w' => e = .returned (.bool false) ∧ w = w' := by
  have h := plain_any ⟨#[49, 97]⟩ w (by decide)
  rw [show M.pl (⟨#[49, 97]⟩ : ByteArray).data.toList = false by decide] at h
  exact h
set_option maxRecDepth 100000 in
set_option maxHeartbeats 1000000 in
theorem known_any (w : World) : Calls Try.prog 7 #[] w fun e w' => e = .returned (.bool true) ∧ w = w' := by
  go_enter Try.func7, Try.ntmps7
  go_wp2_with fail
  refine (kb1 _).mono ?_
  rintro r w' ⟨rfl, rfl⟩
  go_wp2_with fail
  refine (kb2 _).mono ?_
  rintro r w' ⟨rfl, rfl⟩
  go_wp2_with fail
  refine (kb3 _).mono ?_
  rintro r w' ⟨rfl, rfl⟩
  go_wp2_with fail
  refine (kb4 _).mono ?_
  rintro r w' ⟨rfl, rfl⟩
  go_wp2_with fail
  refine (kb5 _).mono ?_
  rintro r w' ⟨rfl, rfl⟩
  go_wp2_with fail
  refine (kb6 _).mono ?_
  rintro r w' ⟨rfl, rfl⟩
  go_wp2_with fail
  refine (kb7 _).mono ?_
  rintro r w' ⟨rfl, rfl⟩
  go_wp2_with fail
  refine (kb8 _).mono ?_
  rintro r w' ⟨rfl, rfl⟩
  go_wp2
  go_ret
  exact ⟨rfl, rfl⟩

set_option maxRecDepth 100000 in
theorem more_long (s : ByteArray) (w : World) (hs : s.size ≤ maxLen) (h : 100 < s.size) : Calls Try.prog 4 #[.string s] w fun e w' => e = .returned (.bool true) ∧ w = w' := by
  unfold maxLen at hs
  have hd : decide (100 < s.size) = true := decide_eq_true h
  have hd2 : decide ((100 : Int) < (s.size : Int)) = true := decide_eq_true (by omega)
  go_enter Try.func4, Try.ntmps4
  go_wp2_with fail
  refine (known_any _).mono ?_
  rintro r w' ⟨rfl, rfl⟩
  go_wp2
  go_ret
  exact ⟨rfl, rfl⟩
set_option maxRecDepth 100000 in
set_option maxHeartbeats 2000000 in
theorem more_core (s : ByteArray) (w : World) (h : s.size ≤ 100) : Calls Try.prog 4 #[.string s] w fun e w' => e = .returned (.bool true) ∧ w = w' := by
  have hd : decide (100 < s.size) = false := decide_eq_false (by omega)
  have hd2 : decide ((100 : Int) < (s.size : Int)) = false := decide_eq_false (by omega)
  have c1 := fun W => bool_any 12 s W
  have c2 := fun W => bool_any 11 s W
  rw [decide_eq_false (show ¬ (12 : Int) = 11 by decide)] at c1
  rw [decide_eq_true rfl] at c2
  have c3 := fun W => null_any s W
  have c4 := fun W => plain_any s W (by omega)
  have c5 := fun W => merge_any s W
  have f1 := M.bo_mono (l := s.data.toList)
  have f2 := M.bo_nu (l := s.data.toList)
  have f3 := M.pl_no (l := s.data.toList)
  have f4 : s.data.toList ≠ [60, 60] → (s.toList == [60, 60]) = false := beq_list
  unfold M.nu at f2 f3
  generalize decide (s.data.toList ∈ M.wN) = n at *
  generalize M.pl s.data.toList = g at *
  generalize M.bo true s.data.toList = p at *
  generalize M.bo false s.data.toList = p2 at *
  obtain ⟨b, is⟩ := p
  obtain ⟨a, ok⟩ := p2
  dsimp only [bV] at c1 c2 f1 f2 f3
  cases is
  · obtain rfl : ok = false := by
      cases ok
      · rfl
      · exact absurd (f1 rfl).1 (by decide)
    cases g
    · clear f1 f2 f3 f4
      go_enter Try.func4, Try.ntmps4
      go_wp2_with fail
      refine (known_any _).mono ?_
      rintro r w' ⟨rfl, rfl⟩
      go_wp2_with fail
      refine (c1 _).mono ?_
      rintro r w' ⟨rfl, rfl⟩
      go_wp2_with fail
      refine (c2 _).mono ?_
      rintro r w' ⟨rfl, rfl⟩
      go_wp2_with fail
      refine (c4 _).mono ?_
      rintro r w' ⟨rfl, rfl⟩
      go_wp2
      go_ret
      exact ⟨rfl, rfl⟩
    · obtain ⟨_, _, rfl, hne⟩ := f3 rfl
      have hm := f4 hne
      rw [hm] at c5
      clear f1 f2 f3 f4 hm hne
      go_enter Try.func4, Try.ntmps4
      go_wp2_with fail
      refine (known_any _).mono ?_
      rintro r w' ⟨rfl, rfl⟩
      go_wp2_with fail
      refine (c1 _).mono ?_
      rintro r w' ⟨rfl, rfl⟩
      go_wp2_with fail
      refine (c2 _).mono ?_
      rintro r w' ⟨rfl, rfl⟩
      go_wp2_with fail
      refine (c4 _).mono ?_
      rintro r w' ⟨rfl, rfl⟩
      go_wp2_with fail
      refine (c3 _).mono ?_
      rintro r w' ⟨rfl, rfl⟩
      go_wp2_with fail
      refine (c5 _).mono ?_
      rintro r w' ⟨rfl, rfl⟩
      go_wp2
      go_ret
      exact ⟨rfl, rfl⟩
  · obtain rfl := f2 rfl
    obtain rfl : g = false := by
      cases g
      · rfl
      · exact absurd (f3 rfl).1 (by decide)
    have f5 : ok = true → b = a := fun h => (f1 h).2
    clear f1 f2 f3 f4
    cases ok
    · clear f5
      go_enter Try.func4, Try.ntmps4
      go_wp2_with fail
      refine (known_any _).mono ?_
      rintro r w' ⟨rfl, rfl⟩
      go_wp2_with fail
      refine (c1 _).mono ?_
      rintro r w' ⟨rfl, rfl⟩
      go_wp2_with fail
      refine (c2 _).mono ?_
      rintro r w' ⟨rfl, rfl⟩
      go_wp2_with fail
      refine (c3 _).mono ?_
      rintro r w' ⟨rfl, rfl⟩
      go_wp2_with fail
      refine (c4 _).mono ?_
      rintro r w' ⟨rfl, rfl⟩
      go_wp2
      go_ret
      exact ⟨rfl, rfl⟩
    · obtain rfl := f5 rfl
      clear f5
      cases b
      all_goals
        go_enter Try.func4, Try.ntmps4
        go_wp2_with fail
        refine (known_any _).mono ?_
        rintro r w' ⟨rfl, rfl⟩
        go_wp2_with fail
        refine (c1 _).mono ?_
        rintro r w' ⟨rfl, rfl⟩
        go_wp2_with fail
        refine (c2 _).mono ?_
        rintro r w' ⟨rfl, rfl⟩
        go_wp2_with fail
        refine (c3 _).mono ?_
        rintro r w' ⟨rfl, rfl⟩
        go_wp2_with fail
        refine (c4 _).mono ?_
        rintro r w' ⟨rfl, rfl⟩
        go_wp2
        go_ret
        exact ⟨rfl, rfl⟩
theorem more_any (s : ByteArray) (w : World) (hs : s.size ≤ maxLen) : Calls Try.prog 4 #[.string s] w fun e w' => e = .returned (.bool true) ∧ w = w' := by
  by_cases h : s.size ≤ 100
  · exact more_core s w h
  · exact more_long s w hs (by omega)
end Go.Proofs.Ytlkbgnlmmlchfaa
