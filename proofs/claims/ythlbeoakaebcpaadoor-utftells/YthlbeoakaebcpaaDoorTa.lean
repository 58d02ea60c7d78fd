/- Walks of the document's answers (targumref1), on: at, Detect. -/
import Derived.Test.YthlbeoakaebcpaaDoorLe
namespace Go.Proofs.YthlbeoakaebcpaaDoor
open Go.RowKit

/-- The byte at a place; -1: there is none. -/
def atZ (l : List UInt8) (i : Nat) : Int := if i < l.length then zb l i else -1

set_option maxRecDepth 100000 in
theorem at_any (a : Option Addr) (cap : Nat) (l : List UInt8) (i : Nat) (w : World) (hin : InB w a cap l) :
    Calls Tryd.prog 25 #[.slice a l.length cap, .int .i64 i] w fun r w' => r = .returned (.int .i64 (atZ l i)) ∧ w = w' := by
  unfold atZ
  by_cases h : i < l.length
  · rw [if_pos h]
    obtain ⟨b, off, rfl, hp, hb⟩ := hin.2.2 (by intro e; rw [e] at h; simp at h)
    have hc : w.cell? ⟨b, off + i, none⟩ = some (.int .u8 (zb l i)) := hp i h
    have hz : 0 ≤ zb l i ∧ zb l i ≤ 255 := by have := M.by8_lt l i; unfold zb; omega
    have h1 : decide (l.length ≤ i) = false := by simp; omega
    have h2 : (i : Int) < (l.length : Int) := by omega
    generalize zb l i = x at *
    clear hin hp
    go_enter Tryd.func25, Tryd.ntmps25
    go_wp2
    go_ret
    exact ⟨rfl, rfl⟩
  · rw [if_neg h]
    have h1 : decide (l.length ≤ i) = true := by simp; omega
    clear hin
    go_enter Tryd.func25, Tryd.ntmps25
    go_wp2
    go_ret
    exact ⟨rfl, rfl⟩

def rdet (x0 x1 x2 x3 : Int) : Int × Int :=
  if x0 = 0 ∧ x1 = 0 ∧ x2 = 254 ∧ x3 = 255 then (4, 4) else if x0 = 0 ∧ x1 = 0 ∧ x2 = 0 ∧ 0 < x3 then (4, 0)
  else if x0 = 255 ∧ x1 = 254 ∧ x2 = 0 ∧ x3 = 0 then (5, 4) else if 0 < x0 ∧ x1 = 0 ∧ x2 = 0 ∧ x3 = 0 then (5, 0)
  else if x0 = 254 ∧ x1 = 255 then (2, 2) else if x0 = 0 ∧ 0 < x1 then (2, 0) else if x0 = 255 ∧ x1 = 254 then (3, 2) else if 0 < x0 ∧ x1 = 0 then (3, 0)
  else if x0 = 239 ∧ x1 = 187 ∧ x2 = 191 then (1, 3) else (1, 0)

set_option maxRecDepth 100000 in
set_option maxHeartbeats 4000000 in
theorem rdetect_core (a : Option Addr) (n cap : Nat) (x0 x1 x2 x3 : Int) (w : World)
    (c0 : Calls Tryd.prog 25 #[.slice a n cap, .int .i64 0] w fun r w' => r = .returned (.int .i64 x0) ∧ w = w')
    (c1 : Calls Tryd.prog 25 #[.slice a n cap, .int .i64 1] w fun r w' => r = .returned (.int .i64 x1) ∧ w = w')
    (c2 : Calls Tryd.prog 25 #[.slice a n cap, .int .i64 2] w fun r w' => r = .returned (.int .i64 x2) ∧ w = w')
    (c3 : Calls Tryd.prog 25 #[.slice a n cap, .int .i64 3] w fun r w' => r = .returned (.int .i64 x3) ∧ w = w') :
    Calls Tryd.prog 12 #[.slice a n cap] w fun r w' => r = .returned (.tuple #[.int .i64 (rdet x0 x1 x2 x3).1, .int .i64 (rdet x0 x1 x2 x3).2]) ∧ w = w' := by
  generalize hd : rdet x0 x1 x2 x3 = d
  have HD := Lib.hid hd
  clear hd
  go_enter Tryd.func12, Tryd.ntmps12
  go_wp2_with fail
  refine c0.mono ?_
  rintro r w1 ⟨rfl, rfl⟩
  go_wp2_with fail
  refine c1.mono ?_
  rintro r w1 ⟨rfl, rfl⟩
  go_wp2_with fail
  refine c2.mono ?_
  rintro r w1 ⟨rfl, rfl⟩
  go_wp2_with fail
  refine c3.mono ?_
  rintro r w1 ⟨rfl, rfl⟩
  clear c0 c1 c2 c3
  go_wp2
  all_goals
    go_ret2
    refine ⟨?_, rfl⟩
    have hd := HD.out
    subst hd
    (simp_all [rdet]) <;> (refine ⟨?_, ?_⟩ <;> (repeat' split) <;> first | rfl | omega)

theorem rdet_4 (x0 x1 x2 x3 : Int) (h0 : 0 ≤ x0) (h1 : 0 ≤ x1) (h3 : 0 ≤ x3) : rdet x0 x1 x2 x3 = if (det4 x0 x1 x2 x3).1 ≠ 0 then det4 x0 x1 x2 x3 else if x0 = 239 ∧ x1 = 187 ∧ x2 = 191 then (1, 3) else if (det2 x0 x1).1 ≠ 0 then det2 x0 x1 else (1, 0) := by
  unfold rdet
  split
  · rename_i h
    rw [show det4 x0 x1 x2 x3 = (4, 4) by unfold det4; rw [if_pos h]]; rfl
  rename_i k1
  split
  · rename_i h
    rw [show det4 x0 x1 x2 x3 = (4, 0) by unfold det4; rw [if_neg k1, if_pos (by omega)]]; rfl
  rename_i k2
  split
  · rename_i h
    rw [show det4 x0 x1 x2 x3 = (5, 4) by unfold det4; rw [if_neg k1, if_neg (by omega), if_pos h]]; rfl
  rename_i k3
  split
  · rename_i h
    rw [show det4 x0 x1 x2 x3 = (5, 0) by unfold det4; rw [if_neg k1, if_neg (by omega), if_neg k3, if_pos (by omega)]]; rfl
  rename_i k4
  rw [show det4 x0 x1 x2 x3 = (0, 0) by unfold det4; rw [if_neg k1, if_neg (by omega), if_neg k3, if_neg (by omega)]]
  rw [if_neg (show ¬ (((0, 0) : Int × Int).1 ≠ 0) by simp)]
  split
  · rename_i h
    rw [if_neg (by omega), show det2 x0 x1 = (2, 2) by unfold det2; rw [if_pos h]]; rfl
  rename_i k5
  split
  · rename_i h
    rw [if_neg (by omega), show det2 x0 x1 = (2, 0) by unfold det2; rw [if_neg k5, if_pos (by omega)]]; rfl
  rename_i k6
  split
  · rename_i h
    rw [if_neg (by omega), show det2 x0 x1 = (3, 2) by unfold det2; rw [if_neg k5, if_neg (by omega), if_pos h]]; rfl
  rename_i k7
  split
  · rename_i h
    rw [if_neg (by omega), show det2 x0 x1 = (3, 0) by unfold det2; rw [if_neg k5, if_neg (by omega), if_neg k7, if_pos (by omega)]]; rfl
  rename_i k8
  split
  · rfl
  · rw [show det2 x0 x1 = (0, 0) by unfold det2; rw [if_neg k5, if_neg (by omega), if_neg k7, if_neg (by omega)]]; rfl
theorem rdet_3 (x0 x1 x2 : Int) (h0 : 0 ≤ x0) (h1 : 0 ≤ x1) : rdet x0 x1 x2 (-1) = if x0 = 239 ∧ x1 = 187 ∧ x2 = 191 then (1, 3) else if (det2 x0 x1).1 ≠ 0 then det2 x0 x1 else (1, 0) := by
  unfold rdet
  rw [if_neg (by omega), if_neg (by omega), if_neg (by omega), if_neg (by omega)]
  split
  · rename_i h
    rw [if_neg (by omega), show det2 x0 x1 = (2, 2) by unfold det2; rw [if_pos h]]; rfl
  rename_i k5
  split
  · rename_i h
    rw [if_neg (by omega), show det2 x0 x1 = (2, 0) by unfold det2; rw [if_neg k5, if_pos (by omega)]]; rfl
  rename_i k6
  split
  · rename_i h
    rw [if_neg (by omega), show det2 x0 x1 = (3, 2) by unfold det2; rw [if_neg k5, if_neg (by omega), if_pos h]]; rfl
  rename_i k7
  split
  · rename_i h
    rw [if_neg (by omega), show det2 x0 x1 = (3, 0) by unfold det2; rw [if_neg k5, if_neg (by omega), if_neg k7, if_pos (by omega)]]; rfl
  rename_i k8
  split
  · rfl
  · rw [show det2 x0 x1 = (0, 0) by unfold det2; rw [if_neg k5, if_neg (by omega), if_neg k7, if_neg (by omega)]]; rfl
theorem rdet_2 (x0 x1 : Int) (h0 : 0 ≤ x0) (h1 : 0 ≤ x1) : rdet x0 x1 (-1) (-1) = if (det2 x0 x1).1 ≠ 0 then det2 x0 x1 else (1, 0) := by
  rw [rdet_3 x0 x1 (-1) h0 h1, if_neg (by omega)]
theorem rdet_1 (x0 : Int) : rdet x0 (-1) (-1) (-1) = (1, 0) := by
  unfold rdet
  rw [if_neg (by omega), if_neg (by omega), if_neg (by omega), if_neg (by omega), if_neg (by omega), if_neg (by omega), if_neg (by omega), if_neg (by omega), if_neg (by omega)]

theorem atZ_lt {l : List UInt8} {i : Nat} (h : i < l.length) : atZ l i = zb l i := if_pos h
theorem atZ_ge {l : List UInt8} {i : Nat} (h : l.length ≤ i) : atZ l i = -1 := if_neg (by omega)
theorem zb_nonneg (l : List UInt8) (i : Nat) : 0 ≤ zb l i := by unfold zb; omega
theorem rdet_det (l : List UInt8) : rdet (atZ l 0) (atZ l 1) (atZ l 2) (atZ l 3) = det l := by
  by_cases h4 : 4 ≤ l.length
  · rw [atZ_lt (by omega), atZ_lt (by omega), atZ_lt (by omega), atZ_lt (by omega), rdet_4 _ _ _ _ (zb_nonneg _ _) (zb_nonneg _ _) (zb_nonneg _ _)]
    unfold det det3 det1
    simp only [h4, show 3 ≤ l.length by omega, show 2 ≤ l.length by omega, true_and]
  by_cases h3 : 3 ≤ l.length
  · rw [atZ_lt (by omega), atZ_lt (by omega), atZ_lt (by omega), atZ_ge (by omega), rdet_3 _ _ _ (zb_nonneg _ _) (zb_nonneg _ _)]
    unfold det det3 det1
    simp only [h4, h3, show 2 ≤ l.length by omega, true_and, false_and, if_false]
  by_cases h2 : 2 ≤ l.length
  · rw [atZ_lt (by omega), atZ_lt (by omega), atZ_ge (by omega), atZ_ge (by omega), rdet_2 _ _ (zb_nonneg _ _) (zb_nonneg _ _)]
    unfold det det3 det1
    simp only [h4, h3, h2, true_and, false_and, if_false]
  rw [det_01 l (by omega), atZ_ge (i := 1) (by omega), atZ_ge (i := 2) (by omega), atZ_ge (i := 3) (by omega), rdet_1]

/-- targumref1.Detect is utf's. -/
theorem rdetect_in (a : Option Addr) (cap : Nat) (l : List UInt8) (w : World) (hin : InB w a cap l) :
    Calls Tryd.prog 12 #[.slice a l.length cap] w fun r w' => r = .returned (.tuple #[.int .i64 (det l).1, .int .i64 (det l).2]) ∧ w = w' := by
  have c := rdetect_core a l.length cap _ _ _ _ w (at_any a cap l 0 w hin) (at_any a cap l 1 w hin) (at_any a cap l 2 w hin) (at_any a cap l 3 w hin)
  rw [rdet_det] at c
  exact c
theorem detect_in (a : Option Addr) (cap : Nat) (l : List UInt8) (w : World) (hin : InB w a cap l) :
    Calls Tryd.prog 11 #[.slice a l.length cap] w fun r w' => r = .returned (.tuple #[.int .i64 (det l).1, .int .i64 (det l).2]) ∧ w = w' := by
  by_cases hl : l = []
  · subst hl; exact detect_01 a 0 cap w (by omega)
  · obtain ⟨b, off, rfl, hp, _⟩ := hin.2.2 hl
    exact detect_any b off cap l w hp

end Go.Proofs.YthlbeoakaebcpaaDoor
