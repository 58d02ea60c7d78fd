/- Walks of the document's answers (targumref1), on: scalar. -/
import Derived.Test.YthlbeoakaebcpaaDoorTb
namespace Go.Proofs.YthlbeoakaebcpaaDoor
open Go.RowKit

def sc16 (C D : Nat) (b1 b2 : Bool) : Nat × Nat :=
  if b1 = false then (0, 0) else if C < 55296 ∨ 57344 ≤ C then (C, 2) else if 56320 ≤ C then (0, 0) else if b2 = false then (0, 0) else if D < 56320 then (0, 0) else if 57344 ≤ D then (0, 0)
  else (65536 + (C - 55296) * 1024 + (D - 56320), 4)

set_option maxRecDepth 100000 in
set_option maxHeartbeats 4000000 in
theorem rscalar16_core (e : Nat) (he : e = 2 ∨ e = 3) (a : Option Addr) (n cap i : Nat) (C D : Nat) (b1 b2 : Bool) (w : World) (hC : C < 65536) (hD : D < 65536) (hib : i ≤ 100000)
    (u1 : ∀ lt, lt = (e == 3) → Calls Tryd.prog 40 #[.slice a n cap, .int .i64 i, .int .i64 2, .bool lt] w fun r w' => r = .returned (.tuple #[.int .i64 C, .bool b1]) ∧ w = w')
    (u2 : ∀ lt, lt = (e == 3) → Calls Tryd.prog 40 #[.slice a n cap, .int .i64 (i + 2), .int .i64 2, .bool lt] w fun r w' => r = .returned (.tuple #[.int .i64 D, .bool b2]) ∧ w = w') :
    Calls Tryd.prog 28 #[.int .i64 e, .slice a n cap, .int .i64 i] w fun r w' => r = .returned (.tuple #[.int .i64 ((sc16 C D b1 b2).1 : Nat), .int .i64 ((sc16 C D b1 b2).2 : Nat)]) ∧ w = w' := by
  have v1 := u1 _ rfl
  have v2 := u2 _ rfl
  clear u1 u2
  have s1 := isScalar_any (C : Int) w
  cases b1 with
  | false =>
    have h : sc16 C D false b2 = (0, 0) := rfl
    rw [h]
    clear h s1 v2
    rcases he with rfl | rfl
    all_goals
      go_enter Tryd.func28, Tryd.ntmps28
      go_wp2_with (go_at_call 40; refine v1.mono ?_; rintro r w' ⟨rfl, rfl⟩)
      go_ret2
      exact ⟨rfl, rfl⟩
  | true =>
    by_cases h1 : C < 55296 ∨ 57344 ≤ C
    · have h : sc16 C D true b2 = (C, 2) := by unfold sc16; rw [if_neg (by simp), if_pos h1]
      rw [h]
      rw [show scB (C : Int) = true by unfold scB; simp; omega] at s1
      clear h h1 v2
      rcases he with rfl | rfl
      all_goals
        go_enter Tryd.func28, Tryd.ntmps28
        go_wp2_with (first | (go_at_call 40; refine v1.mono ?_; rintro r w' ⟨rfl, rfl⟩) | (go_at_call 41; refine s1.mono ?_; rintro r w' ⟨rfl, rfl⟩))
        go_ret2
        exact ⟨rfl, rfl⟩
    · rw [show scB (C : Int) = false by unfold scB; simp; omega] at s1
      by_cases h2 : 56320 ≤ C
      · have h : sc16 C D true b2 = (0, 0) := by unfold sc16; rw [if_neg (by simp), if_neg h1, if_pos h2]
        rw [h]
        have d2 : decide ((56320 : Int) ≤ (C : Int)) = true := by simp; omega
        clear h h1 h2
        rcases he with rfl | rfl
        all_goals
          go_enter Tryd.func28, Tryd.ntmps28
          go_wp2_with fail
          refine v1.mono ?_
          rintro r w' ⟨rfl, rfl⟩
          go_wp2_with fail
          refine s1.mono ?_
          rintro r w' ⟨rfl, rfl⟩
          go_wp2_with fail
          refine v2.mono ?_
          rintro r w' ⟨rfl, rfl⟩
          go_wp2
          go_ret2
          exact ⟨rfl, rfl⟩
      · have d2 : decide ((56320 : Int) ≤ (C : Int)) = false := by simp; omega
        cases b2 with
        | false =>
          have h : sc16 C D true false = (0, 0) := by unfold sc16; rw [if_neg (by simp), if_neg h1, if_neg h2, if_pos rfl]
          rw [h]
          clear h h1 h2
          rcases he with rfl | rfl
          all_goals
            go_enter Tryd.func28, Tryd.ntmps28
            go_wp2_with fail
            refine v1.mono ?_
            rintro r w' ⟨rfl, rfl⟩
            go_wp2_with fail
            refine s1.mono ?_
            rintro r w' ⟨rfl, rfl⟩
            go_wp2_with fail
            refine v2.mono ?_
            rintro r w' ⟨rfl, rfl⟩
            go_wp2
            go_ret2
            exact ⟨rfl, rfl⟩
        | true =>
          by_cases h3 : D < 56320
          · have h : sc16 C D true true = (0, 0) := by unfold sc16; rw [if_neg (by simp), if_neg h1, if_neg h2, if_neg (by simp), if_pos h3]
            rw [h]
            have d3 : decide ((D : Int) < 56320) = true := by simp; omega
            clear h h1 h2 h3
            rcases he with rfl | rfl
            all_goals
              go_enter Tryd.func28, Tryd.ntmps28
              go_wp2_with fail
              refine v1.mono ?_
              rintro r w' ⟨rfl, rfl⟩
              go_wp2_with fail
              refine s1.mono ?_
              rintro r w' ⟨rfl, rfl⟩
              go_wp2_with fail
              refine v2.mono ?_
              rintro r w' ⟨rfl, rfl⟩
              go_wp2
              go_ret2
              exact ⟨rfl, rfl⟩
          · have d3 : decide ((D : Int) < 56320) = false := by simp; omega
            by_cases h4 : 57344 ≤ D
            · have h : sc16 C D true true = (0, 0) := by unfold sc16; rw [if_neg (by simp), if_neg h1, if_neg h2, if_neg (by simp), if_neg h3, if_pos h4]
              rw [h]
              have d4 : decide ((57343 : Int) < (D : Int)) = true := by simp; omega
              clear h h1 h2 h3 h4
              rcases he with rfl | rfl
              all_goals
                go_enter Tryd.func28, Tryd.ntmps28
                go_wp2_with fail
                refine v1.mono ?_
                rintro r w' ⟨rfl, rfl⟩
                go_wp2_with fail
                refine s1.mono ?_
                rintro r w' ⟨rfl, rfl⟩
                go_wp2_with fail
                refine v2.mono ?_
                rintro r w' ⟨rfl, rfl⟩
                go_wp2
                go_ret2
                exact ⟨rfl, rfl⟩
            · have d4 : decide ((57343 : Int) < (D : Int)) = false := by simp; omega
              have h : sc16 C D true true = (65536 + (C - 55296) * 1024 + (D - 56320), 4) := by unfold sc16; rw [if_neg (by simp), if_neg h1, if_neg h2, if_neg (by simp), if_neg h3, if_neg h4]
              rw [h]
              have HN : Hid (56320 ≤ D ∧ D < 57344 ∧ 55296 ≤ C ∧ C < 56320) := ⟨by omega, by omega, by omega, by omega⟩
              clear h h1 h2 h3 h4
              rcases he with rfl | rfl
              all_goals
                go_enter Tryd.func28, Tryd.ntmps28
                go_wp2_with fail
                refine v1.mono ?_
                rintro r w' ⟨rfl, rfl⟩
                go_wp2_with fail
                refine s1.mono ?_
                rintro r w' ⟨rfl, rfl⟩
                go_wp2_with fail
                refine v2.mono ?_
                rintro r w' ⟨rfl, rfl⟩
                go_wp2
                go_ret2
                have := HN.out
                exact ⟨ret_int2 (by omega) rfl, rfl⟩

end Go.Proofs.YthlbeoakaebcpaaDoor
