/- Walk of targum/utf's Detect. -/
import Derived.Test.YthlbeoakaebcpaaDoorWe
namespace Go.Proofs.YthlbeoakaebcpaaDoor
open Go.RowKit

def zb (l : List UInt8) (i : Nat) : Int := (M.by8 l i : Nat)
def det1 (l : List UInt8) : Int × Int := if 2 ≤ l.length ∧ (det2 (zb l 0) (zb l 1)).1 ≠ 0 then det2 (zb l 0) (zb l 1) else (1, 0)
def det3 (l : List UInt8) : Int × Int := if 3 ≤ l.length ∧ zb l 0 = 239 ∧ zb l 1 = 187 ∧ zb l 2 = 191 then (1, 3) else det1 l
/-- The encoding that bytes begin with, and how long its mark is. -/
def det (l : List UInt8) : Int × Int :=
  if 4 ≤ l.length ∧ (det4 (zb l 0) (zb l 1) (zb l 2) (zb l 3)).1 ≠ 0 then det4 (zb l 0) (zb l 1) (zb l 2) (zb l 3) else det3 l

set_option maxRecDepth 100000 in
set_option maxHeartbeats 2000000 in
/-- Detect behind detectFour: at three bytes or more. -/
theorem detect_ge4 (b off cap : Nat) (l : List UInt8) (w : World) (hp : HasBytes w b off l) (h4 : 4 ≤ l.length) :
    Calls Tryd.prog 11 #[.slice (some ⟨b, off, none⟩) l.length cap] w fun r w' => r = .returned (.tuple #[.int .i64 (det l).1, .int .i64 (det l).2]) ∧ w = w' := by
  have h0 : w.cell? ⟨b, off, none⟩ = some (.int .u8 (zb l 0)) := hp 0 (by omega)
  have h1 : w.cell? ⟨b, off + 1, none⟩ = some (.int .u8 (zb l 1)) := hp 1 (by omega)
  have h2 : w.cell? ⟨b, off + 2, none⟩ = some (.int .u8 (zb l 2)) := hp 2 (by omega)
  have h3 : w.cell? ⟨b, off + 3, none⟩ = some (.int .u8 (zb l 3)) := hp 3 (by omega)
  have c4 := detectFour_any b off cap l.length (zb l 0) (zb l 1) (zb l 2) (zb l 3) w h4 h0 h1 h2 h3
  have c2 := detectTwo_any b off cap l.length (zb l 0) (zb l 1) w (by omega) h0 h1
  have hn0 : (0 : Int) < (l.length : Int) := by omega
  have hn1 : (1 : Int) < (l.length : Int) := by omega
  have hn2 : (2 : Int) < (l.length : Int) := by omega
  have hm : min (l.length : Int) 4 = 4 := by omega
  have hdet : det l = if (det4 (zb l 0) (zb l 1) (zb l 2) (zb l 3)).1 ≠ 0 then det4 (zb l 0) (zb l 1) (zb l 2) (zb l 3) else if zb l 0 = 239 ∧ zb l 1 = 187 ∧ zb l 2 = 191 then (1, 3)
      else if (det2 (zb l 0) (zb l 1)).1 ≠ 0 then det2 (zb l 0) (zb l 1) else (1, 0) := by
    unfold det det3 det1
    simp only [h4, show 3 ≤ l.length by omega, show 2 ≤ l.length by omega, true_and]
  rw [hdet]
  clear hdet h3 h4 hp
  generalize det4 (zb l 0) (zb l 1) (zb l 2) (zb l 3) = d4 at *
  generalize det2 (zb l 0) (zb l 1) = d2 at *
  generalize zb l 0 = x0 at *
  generalize zb l 1 = x1 at *
  generalize zb l 2 = x2 at *
  by_cases k4 : d4.1 = 0
  · have k4b : (d4.1 != 0) = false := by simp [k4]
    rw [if_neg (by simp [k4])]
    clear k4
    by_cases k : x0 = 239 ∧ x1 = 187 ∧ x2 = 191
    · rw [if_pos k]
      obtain ⟨rfl, rfl, rfl⟩ := k
      go_enter Tryd.func11, Tryd.ntmps11
      go_wp2_with (first | (go_at_call 23; refine c4.mono ?_; rintro r w' ⟨rfl, rfl⟩) | (go_at_call 24; refine c2.mono ?_; rintro r w' ⟨rfl, rfl⟩))
      go_ret2
      exact ⟨rfl, rfl⟩
    · rw [if_neg k]
      have kk : (x0 == 239) = false ∨ ((x0 == 239) = true ∧ (x1 == 187) = false) ∨ ((x0 == 239) = true ∧ (x1 == 187) = true ∧ (x2 == 191) = false) := by
        simp only [beq_eq_false_iff_ne, beq_iff_eq]; omega
      by_cases k2 : d2.1 = 0
      · have k2b : (d2.1 != 0) = false := by simp [k2]
        rw [if_neg (by simp [k2])]
        clear k2 k
        rcases kk with k | ⟨k, k'⟩ | ⟨k, k', k''⟩
        all_goals
          go_enter Tryd.func11, Tryd.ntmps11
          go_wp2_with (first | (go_at_call 23; refine c4.mono ?_; rintro r w' ⟨rfl, rfl⟩) | (go_at_call 24; refine c2.mono ?_; rintro r w' ⟨rfl, rfl⟩))
          go_ret2
          exact ⟨rfl, rfl⟩
      · have k2b : (d2.1 != 0) = true := by simp [k2]
        rw [if_pos k2]
        clear k2 k
        rcases kk with k | ⟨k, k'⟩ | ⟨k, k', k''⟩
        all_goals
          go_enter Tryd.func11, Tryd.ntmps11
          go_wp2_with (first | (go_at_call 23; refine c4.mono ?_; rintro r w' ⟨rfl, rfl⟩) | (go_at_call 24; refine c2.mono ?_; rintro r w' ⟨rfl, rfl⟩))
          go_ret2
          exact ⟨rfl, rfl⟩
  · have k4b : (d4.1 != 0) = true := by simp [k4]
    rw [if_pos k4]
    clear k4
    go_enter Tryd.func11, Tryd.ntmps11
    go_wp2_with (first | (go_at_call 23; refine c4.mono ?_; rintro r w' ⟨rfl, rfl⟩) | (go_at_call 24; refine c2.mono ?_; rintro r w' ⟨rfl, rfl⟩))
    go_ret2
    exact ⟨rfl, rfl⟩

set_option maxRecDepth 100000 in
set_option maxHeartbeats 2000000 in
theorem detect_3 (b off cap : Nat) (l : List UInt8) (w : World) (hp : HasBytes w b off l) (h4 : l.length = 3) :
    Calls Tryd.prog 11 #[.slice (some ⟨b, off, none⟩) 3 cap] w fun r w' => r = .returned (.tuple #[.int .i64 (det l).1, .int .i64 (det l).2]) ∧ w = w' := by
  have h0 : w.cell? ⟨b, off, none⟩ = some (.int .u8 (zb l 0)) := hp 0 (by omega)
  have h1 : w.cell? ⟨b, off + 1, none⟩ = some (.int .u8 (zb l 1)) := hp 1 (by omega)
  have h2 : w.cell? ⟨b, off + 2, none⟩ = some (.int .u8 (zb l 2)) := hp 2 (by omega)
  have c2 := detectTwo_any b off cap 3 (zb l 0) (zb l 1) w (by omega) h0 h1
  have hdet : det l = if zb l 0 = 239 ∧ zb l 1 = 187 ∧ zb l 2 = 191 then (1, 3)
      else if (det2 (zb l 0) (zb l 1)).1 ≠ 0 then det2 (zb l 0) (zb l 1) else (1, 0) := by
    unfold det det3 det1
    simp only [show ¬ 4 ≤ l.length by omega, show 3 ≤ l.length by omega, show 2 ≤ l.length by omega, true_and, false_and, if_false]
  rw [hdet]
  clear hdet h4 hp
  generalize det2 (zb l 0) (zb l 1) = d2 at *
  generalize zb l 0 = x0 at *
  generalize zb l 1 = x1 at *
  generalize zb l 2 = x2 at *
  by_cases k : x0 = 239 ∧ x1 = 187 ∧ x2 = 191
  · rw [if_pos k]
    obtain ⟨rfl, rfl, rfl⟩ := k
    go_enter Tryd.func11, Tryd.ntmps11
    go_wp2_with (go_at_call 24; refine c2.mono ?_; rintro r w' ⟨rfl, rfl⟩)
    go_ret2
    exact ⟨rfl, rfl⟩
  · rw [if_neg k]
    have kk : (x0 == 239) = false ∨ ((x0 == 239) = true ∧ (x1 == 187) = false) ∨ ((x0 == 239) = true ∧ (x1 == 187) = true ∧ (x2 == 191) = false) := by
      simp only [beq_eq_false_iff_ne, beq_iff_eq]; omega
    by_cases k2 : d2.1 = 0
    · have k2b : (d2.1 != 0) = false := by simp [k2]
      rw [if_neg (by simp [k2])]
      clear k2 k
      rcases kk with k | ⟨k, k'⟩ | ⟨k, k', k''⟩
      all_goals
        go_enter Tryd.func11, Tryd.ntmps11
        go_wp2_with (go_at_call 24; refine c2.mono ?_; rintro r w' ⟨rfl, rfl⟩)
        go_ret2
        exact ⟨rfl, rfl⟩
    · have k2b : (d2.1 != 0) = true := by simp [k2]
      rw [if_pos k2]
      clear k2 k
      rcases kk with k | ⟨k, k'⟩ | ⟨k, k', k''⟩
      all_goals
        go_enter Tryd.func11, Tryd.ntmps11
        go_wp2_with (go_at_call 24; refine c2.mono ?_; rintro r w' ⟨rfl, rfl⟩)
        go_ret2
        exact ⟨rfl, rfl⟩

set_option maxRecDepth 100000 in
set_option maxHeartbeats 2000000 in
theorem detect_2 (b off cap : Nat) (l : List UInt8) (w : World) (hp : HasBytes w b off l) (h4 : l.length = 2) :
    Calls Tryd.prog 11 #[.slice (some ⟨b, off, none⟩) 2 cap] w fun r w' => r = .returned (.tuple #[.int .i64 (det l).1, .int .i64 (det l).2]) ∧ w = w' := by
  have h0 : w.cell? ⟨b, off, none⟩ = some (.int .u8 (zb l 0)) := hp 0 (by omega)
  have h1 : w.cell? ⟨b, off + 1, none⟩ = some (.int .u8 (zb l 1)) := hp 1 (by omega)
  have c2 := detectTwo_any b off cap 2 (zb l 0) (zb l 1) w (by omega) h0 h1
  have hdet : det l = if (det2 (zb l 0) (zb l 1)).1 ≠ 0 then det2 (zb l 0) (zb l 1) else (1, 0) := by
    unfold det det3 det1
    simp only [show ¬ 4 ≤ l.length by omega, show ¬ 3 ≤ l.length by omega, show 2 ≤ l.length by omega, true_and, false_and, if_false]
  rw [hdet]
  clear hdet h4 hp
  generalize det2 (zb l 0) (zb l 1) = d2 at *
  by_cases k2 : d2.1 = 0
  · have k2b : (d2.1 != 0) = false := by simp [k2]
    rw [if_neg (by simp [k2])]
    clear k2
    go_enter Tryd.func11, Tryd.ntmps11
    go_wp2_with (go_at_call 24; refine c2.mono ?_; rintro r w' ⟨rfl, rfl⟩)
    go_ret2
    exact ⟨rfl, rfl⟩
  · have k2b : (d2.1 != 0) = true := by simp [k2]
    rw [if_pos k2]
    clear k2
    go_enter Tryd.func11, Tryd.ntmps11
    go_wp2_with (go_at_call 24; refine c2.mono ?_; rintro r w' ⟨rfl, rfl⟩)
    go_ret2
    exact ⟨rfl, rfl⟩

set_option maxHeartbeats 1000000 in
/-- Detect of one byte or none, whatever the slice's address. -/
theorem detect_01 (ad : Option Addr) (n cap : Nat) (w : World) (h : n < 2) :
    Calls Tryd.prog 11 #[.slice ad n cap] w fun r w' => r = .returned (.tuple #[.int .i64 1, .int .i64 0]) ∧ w = w' := by
  have : n = 0 ∨ n = 1 := by omega
  rcases this with rfl | rfl
  all_goals
    go_enter Tryd.func11, Tryd.ntmps11
    go_wp2
    go_ret2
    exact ⟨rfl, rfl⟩

theorem det_01 (l : List UInt8) (h : l.length < 2) : det l = (1, 0) := by
  unfold det det3 det1
  rw [if_neg (by omega), if_neg (by omega), if_neg (by omega)]

theorem detect_any (b off cap : Nat) (l : List UInt8) (w : World) (hp : HasBytes w b off l) :
    Calls Tryd.prog 11 #[.slice (some ⟨b, off, none⟩) l.length cap] w fun r w' => r = .returned (.tuple #[.int .i64 (det l).1, .int .i64 (det l).2]) ∧ w = w' := by
  by_cases h4 : 4 ≤ l.length
  · exact detect_ge4 b off cap l w hp h4
  by_cases h3 : l.length = 3
  · have c := detect_3 b off cap l w hp h3
    rwa [← h3] at c
  by_cases h2 : l.length = 2
  · have c := detect_2 b off cap l w hp h2
    rwa [← h2] at c
  have c := detect_01 (some ⟨b, off, none⟩) l.length cap w (by omega)
  rw [det_01 l (by omega)]
  exact c

end Go.Proofs.YthlbeoakaebcpaaDoor
