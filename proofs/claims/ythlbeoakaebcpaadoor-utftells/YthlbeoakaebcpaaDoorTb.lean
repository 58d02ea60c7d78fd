/- Walks of the document's answers (targumref1), on: unit. -/
import Derived.Test.YthlbeoakaebcpaaDoorLe
namespace Go.Proofs.YthlbeoakaebcpaaDoor
open Go.RowKit

/-- What unit has gathered behind k bytes. -/
def pv (l : List UInt8) (i n : Nat) (little : Bool) : Nat → Nat
  | 0 => 0
  | k + 1 => pv l i n little k * 256 + M.by8 l (if little = true then i + n - 1 - k else i + k)
theorem pv_lt (l : List UInt8) (i n : Nat) (little : Bool) (k : Nat) : pv l i n little k < 256 ^ k := by
  induction k with
  | zero => simp [pv]
  | succ k ih =>
    have := M.by8_lt l (if little = true then i + n - 1 - k else i + k)
    simp only [pv, Nat.pow_succ]; omega
theorem pv_2 (l : List UInt8) (i : Nat) (little : Bool) : pv l i 2 little 2 = M.rd2 (!little) l i := by
  cases little <;> simp [pv, M.rd2]
theorem pv_4 (l : List UInt8) (i : Nat) (little : Bool) : pv l i 4 little 4 = M.rd4 (!little) (l.drop i) := by
  cases little <;> simp [pv, M.rd4, M.by8_drop] <;> omega

set_option maxRecDepth 100000 in
set_option maxHeartbeats 1000000 in
theorem runit_no (a : Option Addr) (cap len i n : Nat) (little : Bool) (w : World) (hl : len ≤ 100000) (hi : i ≤ 100000) (hn : n = 2 ∨ n = 4) (h : len < i + n) :
    Calls Tryd.prog 40 #[.slice a len cap, .int .i64 i, .int .i64 n, .bool little] w fun r w' => r = .returned (.tuple #[.int .i64 0, .bool false]) ∧ w = w' := by
  have hd : decide ((len : Int) < (i : Int) + (n : Int)) = true := by simp; omega
  have hnb : n ≤ 4 := by omega
  clear hn
  go_enter Tryd.func40, Tryd.ntmps40
  go_wp2
  go_ret2
  exact ⟨rfl, rfl⟩

set_option maxRecDepth 100000 in
set_option maxHeartbeats 1000000 in
theorem runit_ok (b off cap : Nat) (l : List UInt8) (i n : Nat) (little : Bool) (w : World) (hp : HasBytes w b off l) (hl : l.length ≤ 100000) (hn : n = 2 ∨ n = 4) (h : i + n ≤ l.length) :
    Calls Tryd.prog 40 #[.slice (some ⟨b, off, none⟩) l.length cap, .int .i64 i, .int .i64 n, .bool little] w fun r w' => r = .returned (.tuple #[.int .i64 (pv l i n little n : Nat), .bool true]) ∧ w = w' := by
  have hd : decide ((l.length : Int) < (i : Int) + (n : Int)) = false := by simp; omega
  have hnb : n ≤ 4 := by omega
  clear hn
  have HP := Lib.hid hp
  clear hp
  go_enter Tryd.func40, Tryd.ntmps40
  go_wp2
  go_loop [10, 11] (fun v u => ∃ k : Nat, k ≤ n ∧ v = .int .i64 (pv l i n little k : Nat) ∧ u = .int .i64 k) (fun _ u => n - (intOf u).toNat)
  case atStart => exact ⟨0, Nat.zero_le _, rfl, rfl⟩
  case round =>
    obtain ⟨k, hk, rfl, rfl⟩ := hrel
    have hpv := pv_lt l i n little k
    by_cases hlt : k < n
    · have hkd : decide (k < n) = true := by simpa using hlt
      have hpb : pv l i n little k < 16777216 := by
        have : 256 ^ k ≤ 256 ^ 3 := Nat.pow_le_pow_right (by omega) (by omega)
        omega
      have HE : Hid (pv l i n little (k + 1) = pv l i n little k * 256 + M.by8 l (if little = true then i + n - 1 - k else i + k)) := Lib.hid rfl
      clear hpv
      cases little with
      | true =>
        have hc : w.cell? ⟨b, off + (i + n - 1 - k), none⟩ = some (.int .u8 (zb l (i + n - 1 - k))) := HP.out _ (by omega)
        have hz : 0 ≤ zb l (i + n - 1 - k) ∧ zb l (i + n - 1 - k) ≤ 255 := by have := M.by8_lt l (i + n - 1 - k); unfold zb; omega
        have HX : Hid (zb l (i + n - 1 - k) = (M.by8 l (i + n - 1 - k) : Nat)) := Lib.hid rfl
        generalize zb l (i + n - 1 - k) = x at *
        generalize pv l i n true k = P at *
        have h2 : (i : Int) + (n : Int) - 1 - (k : Int) < (l.length : Int) := by omega
        have h3 : 0 ≤ (i : Int) + (n : Int) - 1 - (k : Int) := by omega
        have h4 : ((i : Int) + (n : Int) - 1 - (k : Int)).toNat = i + n - 1 - k := by omega
        go_wp2
        go_round
        case rel => exact ⟨k + 1, by omega, by rw [HE.out, if_pos rfl, Int.natCast_add, ← HX.out]; go_num, by go_num⟩
        case measure => simp [intOf]; omega
      | false =>
        have hc : w.cell? ⟨b, off + (i + k), none⟩ = some (.int .u8 (zb l (i + k))) := HP.out _ (by omega)
        have hz : 0 ≤ zb l (i + k) ∧ zb l (i + k) ≤ 255 := by have := M.by8_lt l (i + k); unfold zb; omega
        have HX : Hid (zb l (i + k) = (M.by8 l (i + k) : Nat)) := Lib.hid rfl
        generalize zb l (i + k) = x at *
        generalize pv l i n false k = P at *
        have h2 : (i : Int) + (k : Int) < (l.length : Int) := by omega
        go_wp2
        go_round
        case rel => exact ⟨k + 1, by omega, by rw [HE.out, if_neg (by simp), Int.natCast_add, ← HX.out]; go_num, by go_num⟩
        case measure => simp [intOf]; omega
    · obtain rfl : k = n := by omega
      have hkd : decide (k < k) = false := by simp
      clear hpv
      go_wp2
      go_ret2
      exact ⟨rfl, rfl⟩

end Go.Proofs.YthlbeoakaebcpaaDoor
