/- Walk of the laws' own 'known'. -/
import Derived.Test.YtnmfiadljhbmiaaDoorWg
import Derived.Test.YtnmfiadljhbmiaaDoorWf
import Derived.Test.YtnmfiadljhbmiaaDoorWc
set_option linter.unusedVariables false
namespace Go.Proofs.YtnmfiadljhbmiaaDoor
open Go.RowKit

theorem kn1 (w : World) : Calls Tryd.prog 22 #[.int .i64 12, .string ⟨#[97, 10, 98]⟩] w fun r w' => (∃ v, r = .returned v ∧ SL w' v [(0, 1, 2), (2, 3, 3)]) ∧ Below w.heap.size w w' := by
  have c := lines_any 12 ⟨#[97, 10, 98]⟩ w (by decide)
  refine c.mono ?_
  rintro r w' ⟨⟨v, rfl, h⟩, hb⟩
  rw [show M.lines (isOld 12) (ByteArray.mk #[97, 10, 98]).data.toList = [(0, 1, 2), (2, 3, 3)] by decide] at h
  exact ⟨⟨v, rfl, h.sl⟩, hb⟩
theorem kn2 (w : World) : Calls Tryd.prog 22 #[.int .i64 11, .string ⟨#[45, 45, 45, 32, 97, 13, 10, 226, 128, 168]⟩] w fun r w' => (∃ v, r = .returned v ∧ SL w' v [(0, 5, 7), (7, 7, 10)]) ∧ Below w.heap.size w w' := by
  have c := lines_any 11 ⟨#[45, 45, 45, 32, 97, 13, 10, 226, 128, 168]⟩ w (by decide)
  refine c.mono ?_
  rintro r w' ⟨⟨v, rfl, h⟩, hb⟩
  rw [show M.lines (isOld 11) (ByteArray.mk #[45, 45, 45, 32, 97, 13, 10, 226, 128, 168]).data.toList = [(0, 5, 7), (7, 7, 10)] by decide] at h
  exact ⟨⟨v, rfl, h.sl⟩, hb⟩
theorem kn3 (w : World) : Calls Tryd.prog 10 #[.int .i64 11, .string ⟨#[97, 194, 133]⟩, .int .i64 1] w fun r w' => r = .returned (.int .i64 2) ∧ w = w' := by
  have c := break_any 11 ⟨#[97, 194, 133]⟩ 1 w (by decide)
  rw [show brkZ (isOld 11) (ByteArray.mk #[97, 194, 133]).data.toList 1 = 2 by decide] at c
  exact c
theorem kn4 (w : World) : Calls Tryd.prog 10 #[.int .i64 12, .string ⟨#[97, 194, 133]⟩, .int .i64 1] w fun r w' => r = .returned (.int .i64 0) ∧ w = w' := by
  have c := break_any 12 ⟨#[97, 194, 133]⟩ 1 w (by decide)
  rw [show brkZ (isOld 12) (ByteArray.mk #[97, 194, 133]).data.toList 1 = 0 by decide] at c
  exact c
theorem kn5 (w : World) : Calls Tryd.prog 20 #[.string ⟨#[45, 45, 45, 32, 97, 13, 10, 226, 128, 168]⟩, .agg #[.int .i64 0, .int .i64 5, .int .i64 7]] w fun r w' => r = .returned (.int .i64 1) ∧ Below w.heap.size w w' := by
  have c := marker_any ⟨#[45, 45, 45, 32, 97, 13, 10, 226, 128, 168]⟩ 0 5 7 w (by decide)
  rw [show mkZ (ByteArray.mk #[45, 45, 45, 32, 97, 13, 10, 226, 128, 168]).data.toList 0 5 7 = 1 by decide] at c
  exact c
theorem kn6 (w : World) (hT : Tabs w) : Calls Tryd.prog 14 #[.string ⟨#[97, 0]⟩] w fun r w' => r = .returned (.int .i64 1) ∧ Below w.heap.size w w' := by
  have c := check_any ⟨#[97, 0]⟩ w hT (by decide)
  rw [show M.optZ (M.chk (ByteArray.mk #[97, 0]).data.toList) = 1 by decide] at c
  exact c
theorem kn7 (w : World) (hT : Tabs w) : Calls Tryd.prog 12 #[.string ⟨#[239, 187, 191]⟩, .int .i64 0] w fun r w' => r = .returned (.int .i64 0) ∧ Below w.heap.size w w' := by
  have c := may_in ⟨#[239, 187, 191]⟩ 0 w hT (by decide)
  rw [show M.mayN ((ByteArray.mk #[239, 187, 191]).data.toList.drop 0) = 0 by decide] at c
  exact c

set_option maxRecDepth 100000 in
set_option maxHeartbeats 600000 in
theorem known_any (w : World) (hT : Tabs w) :
    Calls Tryd.prog 9 #[] w fun r w' => r = .returned (.bool true) ∧ Below w.heap.size w w' := by
  go_enter Tryd.func9, Tryd.ntmps9
  go_wp2_with fail
  refine (kn1 _).mono ?_
  rintro r w1 ⟨⟨v1, rfl, s1⟩, b1⟩
  go_wp2_with fail
  refine (kn2 _).mono ?_
  rintro r w2 ⟨⟨v2, rfl, s2⟩, b2⟩
  have s1' := s1.below b2
  have T2 : Tabs w2 := (hT.below b1).below b2
  have B2 : Below w.heap.size w w2 := b1.trans (b2.mono b1.size)
  clear s1 b1 b2
  obtain ⟨a1, p1, hv1, k1⟩ := s1'
  obtain ⟨a2, p2, hv2, k2⟩ := s2
  obtain ⟨g1, rfl, q1, _⟩ := k1 (by simp)
  obtain ⟨g2, rfl, q2, _⟩ := k2 (by simp)
  rw [hv1, hv2]
  obtain ⟨x0, x1, x2⟩ := q1 0 (by decide)
  obtain ⟨x3, x4, x5⟩ := q1 1 (by decide)
  obtain ⟨y0, y1, y2⟩ := q2 0 (by decide)
  obtain ⟨y3, y4, y5⟩ := q2 1 (by decide)
  simp only [Nat.zero_mul, Nat.zero_add, Nat.one_mul, Nat.reduceAdd, List.getElem_cons_zero, List.getElem_cons_succ] at x0 x1 x2 x3 x4 x5 y0 y1 y2 y3 y4 y5
  have e1 := eqG
  have e2 := eql3
  clear q1 q2 k1 k2 hv1 hv2
  go_wp2_with fail
  refine (kn3 _).mono ?_
  rintro r w' ⟨rfl, rfl⟩
  go_wp2_with fail
  refine (kn4 _).mono ?_
  rintro r w' ⟨rfl, rfl⟩
  go_wp2_with fail
  refine (kn5 _).mono ?_
  rintro r w3 ⟨rfl, hb3⟩
  clear x0 x1 x2 x3 x4 x5 y0 y1 y2 y3 y4 y5 e1 e2
  go_wp2_with fail
  refine (kn6 _ (T2.below hb3)).mono ?_
  rintro r w4 ⟨rfl, hb4⟩
  go_wp2_with fail
  refine (kn7 _ ((T2.below hb3).below hb4)).mono ?_
  rintro r w5 ⟨rfl, hb5⟩
  go_wp2
  go_ret
  exact ⟨rfl, B2.trans ((hb3.trans ((hb4.trans (hb5.mono hb4.size)).mono hb3.size)).mono B2.size)⟩

end Go.Proofs.YtnmfiadljhbmiaaDoor
