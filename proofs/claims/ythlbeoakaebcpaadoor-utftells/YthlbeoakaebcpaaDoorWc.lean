/- Walks of targum/utf's Detect, detectTwo, detectFour. -/
import Derived.Test.YthlbeoakaebcpaaDoorWa
namespace Go.Proofs.YthlbeoakaebcpaaDoor
open Go.RowKit

def det2 (x0 x1 : Int) : Int × Int :=
  if x0 = 254 ∧ x1 = 255 then (2, 2) else if x0 = 0 ∧ x1 ≠ 0 then (2, 0) else if x0 = 255 ∧ x1 = 254 then (3, 2) else if x0 ≠ 0 ∧ x1 = 0 then (3, 0) else (0, 0)
def det4 (x0 x1 x2 x3 : Int) : Int × Int :=
  if x0 = 0 ∧ x1 = 0 ∧ x2 = 254 ∧ x3 = 255 then (4, 4) else if x0 = 0 ∧ x1 = 0 ∧ x2 = 0 ∧ x3 ≠ 0 then (4, 0)
  else if x0 = 255 ∧ x1 = 254 ∧ x2 = 0 ∧ x3 = 0 then (5, 4) else if x0 ≠ 0 ∧ x1 = 0 ∧ x2 = 0 ∧ x3 = 0 then (5, 0) else (0, 0)

set_option maxHeartbeats 400000 in
theorem detectTwo_any (b off cap n : Nat) (x0 x1 : Int) (w : World) (hn : 2 ≤ n)
    (h0 : w.cell? ⟨b, off, none⟩ = some (.int .u8 x0)) (h1 : w.cell? ⟨b, off + 1, none⟩ = some (.int .u8 x1)) :
    Calls Tryd.prog 24 #[.slice (some ⟨b, off, none⟩) n cap] w fun e w' => e = .returned (.tuple #[.int .i64 (det2 x0 x1).1, .int .i64 (det2 x0 x1).2]) ∧ w = w' := by
  have hn0 : (0 : Int) < (n : Int) := by omega
  have hn1 : (1 : Int) < (n : Int) := by omega
  generalize hd : det2 x0 x1 = d
  have HD := Lib.hid hd
  clear hd
  go_enter Tryd.func24, Tryd.ntmps24
  go_wp2
  all_goals
    go_ret2
    refine ⟨?_, rfl⟩
    have hd := HD.out
    subst hd
    simp_all [det2]

set_option maxHeartbeats 1000000 in
theorem detectFour_any (b off cap n : Nat) (x0 x1 x2 x3 : Int) (w : World) (hn : 4 ≤ n)
    (h0 : w.cell? ⟨b, off, none⟩ = some (.int .u8 x0)) (h1 : w.cell? ⟨b, off + 1, none⟩ = some (.int .u8 x1)) (h2 : w.cell? ⟨b, off + 2, none⟩ = some (.int .u8 x2)) (h3 : w.cell? ⟨b, off + 3, none⟩ = some (.int .u8 x3)) :
    Calls Tryd.prog 23 #[.slice (some ⟨b, off, none⟩) n cap] w fun e w' => e = .returned (.tuple #[.int .i64 (det4 x0 x1 x2 x3).1, .int .i64 (det4 x0 x1 x2 x3).2]) ∧ w = w' := by
  have hn0 : (0 : Int) < (n : Int) := by omega
  have hn1 : (1 : Int) < (n : Int) := by omega
  have hn2 : (2 : Int) < (n : Int) := by omega
  have hn3 : (3 : Int) < (n : Int) := by omega
  generalize hd : det4 x0 x1 x2 x3 = d
  have HD := Lib.hid hd
  clear hd
  go_enter Tryd.func23, Tryd.ntmps23
  go_wp2
  all_goals
    go_ret2
    refine ⟨?_, rfl⟩
    have hd := HD.out
    subst hd
    simp_all [det4]

end Go.Proofs.YthlbeoakaebcpaaDoor
