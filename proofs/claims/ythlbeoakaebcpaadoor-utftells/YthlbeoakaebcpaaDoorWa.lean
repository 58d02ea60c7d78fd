/- Walks of targum/utf's readers of units: unit, nextOfTwo, nextOfFour; of detectTwo, detectFour, Detect. -/
import Derived.Test.YthlbeoakaebcpaaDoorRows
import Derived.Test.YthlbeoakaebcpaaDoorM
import Derived.WalkKit
import Derived.WalkSpells
import Derived.WalkLawsBesides
import Derived.Deep.QuietTactic
import Derived.BigQuiet
import Derived.Lib.Hide
import Derived.Deep.Light
import Derived.Laws.BitsAllLaws
namespace Go.Proofs.YthlbeoakaebcpaaDoor
open Go.RowKit

theorem ret_int {k : IntKind} {a b : Int} (h : a = b) : Ending.returned (.int k a) = .returned (.int k b) := by rw [h]
theorem ret_int2 {k k' : IntKind} {a b a' b' : Int} (h : a = a') (h' : b = b') : Ending.returned (.tuple #[.int k a, .int k' b]) = .returned (.tuple #[.int k a', .int k' b']) := by rw [h, h']

theorem u32_join (i : Nat) (x y : Nat) (hx : x % 2 ^ i = 0) (hy : y < 2 ^ i) (h1 : x < 4294967296) (h2 : y < 4294967296) : bits .or .u32 (x : Int) (y : Int) = ((x + y : Nat) : Int) := by
  rw [u32_or_nat x y h1 h2, nat_join i x y hx hy]
theorem or0_u32 (y : Nat) (h2 : y < 4294967296) : bits .or .u32 0 (y : Int) = (y : Int) := by
  have := u32_or_nat 0 y (by omega) h2
  simpa using this
theorem or2_u32 (x0 x1 : Nat) (b0 : x0 < 256) (b1 : x1 < 256) : bits .or .u32 0 (bits .or .u32 ((x0 : Int) * 256) (x1 : Int)) = ((x0 * 256 + x1 : Nat) : Int) := by
  have e : ((x0 : Int) * 256) = ((x0 * 256 : Nat) : Int) := by omega
  rw [e, u32_join 8 (x0 * 256) x1 (by omega) (by omega) (by omega) (by omega), or0_u32 _ (by omega)]
theorem or4_u32 (x0 x1 x2 x3 : Nat) (b0 : x0 < 256) (b1 : x1 < 256) (b2 : x2 < 256) (b3 : x3 < 256) :
    bits .or .u32 (bits .or .u32 ((x0 : Int) * 16777216) ((x1 : Int) * 65536)) (bits .or .u32 ((x2 : Int) * 256) (x3 : Int)) = ((x0 * 16777216 + x1 * 65536 + x2 * 256 + x3 : Nat) : Int) := by
  have e0 : ((x0 : Int) * 16777216) = ((x0 * 16777216 : Nat) : Int) := by omega
  have e1 : ((x1 : Int) * 65536) = ((x1 * 65536 : Nat) : Int) := by omega
  have e2 : ((x2 : Int) * 256) = ((x2 * 256 : Nat) : Int) := by omega
  rw [e0, e1, e2, u32_join 24 (x0 * 16777216) (x1 * 65536) (by omega) (by omega) (by omega) (by omega), u32_join 8 (x2 * 256) x3 (by omega) (by omega) (by omega) (by omega),
    u32_join 16 (x0 * 16777216 + x1 * 65536) (x2 * 256 + x3) (by omega) (by omega) (by omega) (by omega)]
  omega

set_option maxHeartbeats 400000 in
theorem unit_2 (b off cap n : Nat) (x0 x1 : Nat) (w : World) (hn : 2 ≤ n) (b0 : x0 < 256) (b1 : x1 < 256)
    (h0 : w.cell? ⟨b, off, none⟩ = some (.int .u8 x0)) (h1 : w.cell? ⟨b, off + 1, none⟩ = some (.int .u8 x1)) :
    Calls Tryd.prog 48 #[.int .i64 2, .slice (some ⟨b, off, none⟩) n cap] w fun e w' => e = .returned (.int .u32 (x0 * 256 + x1 : Nat)) ∧ ∃ q, w' = w.drewN q := by
  have hn0 : (0 : Int) < (n : Int) := by omega
  have hn1 : (1 : Int) < (n : Int) := by omega
  go_enter Tryd.func48, Tryd.ntmps48
  go_wp2
  go_quiet (fail)
  go_wp2
  go_ret
  exact ⟨ret_int (or2_u32 x0 x1 b0 b1), _, rfl⟩
set_option maxHeartbeats 400000 in
theorem unit_3 (b off cap n : Nat) (x0 x1 : Nat) (w : World) (hn : 2 ≤ n) (b0 : x0 < 256) (b1 : x1 < 256)
    (h0 : w.cell? ⟨b, off, none⟩ = some (.int .u8 x0)) (h1 : w.cell? ⟨b, off + 1, none⟩ = some (.int .u8 x1)) :
    Calls Tryd.prog 48 #[.int .i64 3, .slice (some ⟨b, off, none⟩) n cap] w fun e w' => e = .returned (.int .u32 (x1 * 256 + x0 : Nat)) ∧ ∃ q, w' = w.drewN q := by
  have hn0 : (0 : Int) < (n : Int) := by omega
  have hn1 : (1 : Int) < (n : Int) := by omega
  go_enter Tryd.func48, Tryd.ntmps48
  go_wp2
  go_quiet (fail)
  go_wp2
  go_ret
  exact ⟨ret_int (or2_u32 x1 x0 b1 b0), _, rfl⟩
theorem drewN_drewN (w : World) (a b : Nat) : (w.drewN a).drewN b = w.drewN (a + b) := by
  simp [World.drewN, Nat.add_assoc]
set_option maxHeartbeats 400000 in
theorem unit_4 (b off cap n : Nat) (x0 x1 x2 x3 : Nat) (w : World) (hn : 4 ≤ n) (hcap : n ≤ cap) (b0 : x0 < 256) (b1 : x1 < 256) (b2 : x2 < 256) (b3 : x3 < 256)
    (h0 : w.cell? ⟨b, off, none⟩ = some (.int .u8 x0)) (h1 : w.cell? ⟨b, off + 1, none⟩ = some (.int .u8 x1)) (h2 : w.cell? ⟨b, off + 2, none⟩ = some (.int .u8 x2)) (h3 : w.cell? ⟨b, off + 2 + 1, none⟩ = some (.int .u8 x3)) :
    Calls Tryd.prog 48 #[.int .i64 4, .slice (some ⟨b, off, none⟩) n cap] w fun e w' => e = .returned (.int .u32 (x0 * 16777216 + x1 * 65536 + x2 * 256 + x3 : Nat)) ∧ ∃ q, w' = w.drewN q := by
  have hn0 : (0 : Int) < (n : Int) := by omega
  have hn1 : (1 : Int) < (n : Int) := by omega
  go_enter Tryd.func48, Tryd.ntmps48
  go_wp2
  go_quiet (fail)
  go_wp2
  go_quiet (fail)
  go_wp2
  go_ret
  exact ⟨ret_int (or4_u32 x0 x1 x2 x3 b0 b1 b2 b3), _, drewN_drewN _ _ _⟩
set_option maxHeartbeats 400000 in
theorem unit_5 (b off cap n : Nat) (x0 x1 x2 x3 : Nat) (w : World) (hn : 4 ≤ n) (b0 : x0 < 256) (b1 : x1 < 256) (b2 : x2 < 256) (b3 : x3 < 256)
    (h0 : w.cell? ⟨b, off, none⟩ = some (.int .u8 x0)) (h1 : w.cell? ⟨b, off + 1, none⟩ = some (.int .u8 x1)) (h2 : w.cell? ⟨b, off + 2, none⟩ = some (.int .u8 x2)) (h3 : w.cell? ⟨b, off + 3, none⟩ = some (.int .u8 x3)) :
    Calls Tryd.prog 48 #[.int .i64 5, .slice (some ⟨b, off, none⟩) n cap] w fun e w' => e = .returned (.int .u32 (x3 * 16777216 + x2 * 65536 + x1 * 256 + x0 : Nat)) ∧ ∃ q, w' = w.drewN q := by
  have hn0 : (0 : Int) < (n : Int) := by omega
  have hn1 : (1 : Int) < (n : Int) := by omega
  have hn2 : (2 : Int) < (n : Int) := by omega
  have hn3 : (3 : Int) < (n : Int) := by omega
  go_enter Tryd.func48, Tryd.ntmps48
  go_wp2
  go_quiet (fail)
  go_wp2
  go_quiet (fail)
  go_wp2
  go_ret
  exact ⟨ret_int (or4_u32 x3 x2 x1 x0 b3 b2 b1 b0), _, drewN_drewN _ _ _⟩

/-- The cells of a slice hold these bytes. -/
def HasBytes (w : World) (b off : Nat) (l : List UInt8) : Prop := ∀ j, j < l.length → w.cell? ⟨b, off + j, none⟩ = some (.int .u8 (M.by8 l j))

/-- The two readers of units, at either order, at once. -/
theorem unit_two (e : Nat) (he : e = 2 ∨ e = 3) (b off cap n : Nat) (x0 x1 : Nat) (w : World) (hn : 2 ≤ n) (b0 : x0 < 256) (b1 : x1 < 256)
    (h0 : w.cell? ⟨b, off, none⟩ = some (.int .u8 x0)) (h1 : w.cell? ⟨b, off + 1, none⟩ = some (.int .u8 x1)) :
    Calls Tryd.prog 48 #[.int .i64 e, .slice (some ⟨b, off, none⟩) n cap] w fun r w' => r = .returned (.int .u32 ((if (e == 2) = true then x0 * 256 + x1 else x1 * 256 + x0 : Nat) : Int)) ∧ ∃ q, w' = w.drewN q := by
  rcases he with rfl | rfl
  · exact unit_2 b off cap n x0 x1 w hn b0 b1 h0 h1
  · exact unit_3 b off cap n x0 x1 w hn b0 b1 h0 h1

theorem nx16_ge (be : Bool) (l : List UInt8) (hl : ¬ l.length < 2) : M.nx16 be l = if M.rd2 be l 0 < 55296 ∨ 57344 ≤ M.rd2 be l 0 then (M.rd2 be l 0, 2) else if 56320 ≤ M.rd2 be l 0 ∨ l.length < 4 then (0, 0) else if M.rd2 be l 2 < 56320 ∨ 57344 ≤ M.rd2 be l 2 then (0, 0) else (65536 + (M.rd2 be l 0 - 55296) * 1024 + (M.rd2 be l 2 - 56320), 4) := by
  unfold M.nx16; rw [if_neg hl]
theorem HasBytes.drewN {w : World} {b off : Nat} {l : List UInt8} (h : HasBytes w b off l) (q : Nat) : HasBytes (w.drewN q) b off l := h
theorem unit_rd2 (e : Nat) (he : e = 2 ∨ e = 3) (b off cap : Nat) (l : List UInt8) (w : World) (hp : HasBytes w b off l) (hl : ¬ l.length < 2) :
    Calls Tryd.prog 48 #[.int .i64 e, .slice (some ⟨b, off, none⟩) l.length cap] w fun r w' => r = .returned (.int .u32 (M.rd2 (e == 2) l 0 : Nat)) ∧ ∃ q', w' = w.drewN q' := by
  refine (unit_two e he b off cap l.length (M.by8 l 0) (M.by8 l 1) w (by omega) (M.by8_lt _ _) (M.by8_lt _ _) (hp 0 (by omega)) (hp 1 (by omega))).mono ?_
  rintro r w' ⟨rfl, q', rfl⟩
  exact ⟨by unfold M.rd2; rfl, _, rfl⟩
theorem unit_rd2b (e : Nat) (he : e = 2 ∨ e = 3) (b off cap n : Nat) (l : List UInt8) (w : World) (hp : HasBytes w b off l) (hl : ¬ l.length < 4) (hn : 2 ≤ n) :
    Calls Tryd.prog 48 #[.int .i64 e, .slice (some ⟨b, off + 2, none⟩) n cap] w fun r w' => r = .returned (.int .u32 (M.rd2 (e == 2) l 2 : Nat)) ∧ ∃ q', w' = w.drewN q' := by
  refine (unit_two e he b (off + 2) cap n (M.by8 l 2) (M.by8 l 3) w hn (M.by8_lt _ _) (M.by8_lt _ _) (hp 2 (by omega)) (hp 3 (by omega))).mono ?_
  rintro r w' ⟨rfl, q', rfl⟩
  exact ⟨by unfold M.rd2; rfl, _, rfl⟩


end Go.Proofs.YthlbeoakaebcpaaDoor
