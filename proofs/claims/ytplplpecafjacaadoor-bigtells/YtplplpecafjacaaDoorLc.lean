/- The law BigTimes: its walk. -/
import Derived.Test.YtplplpecafjacaaDoorLb
set_option linter.unusedVariables false
namespace Go.Proofs.YtplplpecafjacaaDoor
open Go.RowKit

/-- What the loop has come to. -/
def wantAt (j k i : Nat) : ByteArray := tx ((k + i * j : Nat) : Int)
theorem nat_len (n : Nat) (h : n < 10 ^ 100) : (tx (n : Int)).size ≤ 101 := tx_len _ 100 (by omega) (by omega)
theorem nat_txt (n : Nat) (h : n < 10 ^ 100) : (M.txt (n : Int)).length ≤ 6000 := by have := nat_len n h; rw [tx_size] at this; omega
theorem mul_nat (a m k : Nat) (r : ByteArray) (hr : r = tx ((a * m + k : Nat) : Int)) (ha : a < 10 ^ 100) (hm : m ≤ 1099511627776) (hk : k ≤ 1099511627776) (w : World) :
    Calls Tryd.prog 16 #[.string (tx a), .int .i64 m, .int .i64 k] w fun e w' => e = .returned (.string r) ∧ Below w.heap.size w w' := by
  rw [hr]; exact mulAdd_yes a m k w (nat_txt a ha) hm hk
theorem add_nat (a n : Nat) (r : ByteArray) (hr : r = tx ((a + n : Nat) : Int)) (ha : a < 10 ^ 100) (hn : n ≤ 1099511627776) (w : World) (ht : Tab w) :
    Calls Tryd.prog 18 #[.string (tx a), .int .i64 n] w fun e w' => e = .returned (.string r) ∧ Below w.heap.size w w' := by
  rw [hr]
  have := add_yes (a : Int) (n : Int) w ht (by have := nat_len a ha; omega) (by omega) (by omega)
  rwa [← Int.natCast_add] at this
theorem add_zero (n : Nat) (hn : n ≤ 1099511627776) (w : World) (ht : Tab w) :
    Calls Tryd.prog 18 #[.string ⟨#[48]⟩, .int .i64 n] w fun e w' => e = .returned (.string (tx (n : Int))) ∧ Below w.heap.size w w' := by
  have := add_nat 0 n _ rfl (by decide) hn w ht
  rwa [Nat.zero_add, show tx ((0 : Nat) : Int) = ⟨#[48]⟩ from tx0] at this

set_option maxRecDepth 100000 in
set_option maxHeartbeats 2000000 in
theorem times_any (s : ByteArray) (m k j : Nat) (w : World) (ht : Tab w) (hs : s.size ≤ maxLen) (hm : m ≤ 255) (hk : k ≤ 4294967295) (hj : j ≤ 4294967295) :
    Calls Tryd.prog 7 #[.string s, .int .u8 m, .int .u32 k, .int .u32 j] w fun r w' => r = .returned (.bool true) ∧ Below w.heap.size w w' := by
  unfold maxLen at hs
  have hs2 : s.size ≤ 9223372036854775807 := by omega
  clear hs
  go_enter Tryd.func7, Tryd.ntmps7
  go_wp2_with fail
  refine (known_any w ht).mono ?_
  rintro r w1 ⟨rfl, hb1⟩
  have B1 : Below w.heap.size w w1 := hb1
  have T1 := ht.next B1
  clear hb1
  by_cases h1 : s.size < 1
  · have d1 : decide ((s.size : Int) < 1) = true := decide_eq_true (by omega)
    go_wp2
    go_ret
    exact ⟨rfl, B1⟩
  have d1 : decide ((s.size : Int) < 1) = false := decide_eq_false (by omega)
  by_cases h3 : 40 < s.size
  · have d3 : decide ((40 : Int) < (s.size : Int)) = true := decide_eq_true (by omega)
    go_wp2
    go_ret
    exact ⟨rfl, B1⟩
  have d3 : decide ((40 : Int) < (s.size : Int)) = false := decide_eq_false (by omega)
  have cS := fun W => digits_any s W (by omega)
  have hxs := val_digs_lt s.data.toList
  rw [← sz_list] at hxs
  have hx40 : M.val 10 (digs s.data.toList) < 10 ^ 40 := Nat.lt_of_lt_of_le hxs (Nat.pow_le_pow_right (by omega) (by omega))
  have okS := digs_ok s.data.toList (by rw [← sz_list]; omega)
  have hlS : (digs s.data.toList).length ≤ 40 := by rw [digs_length, ← sz_list]; omega
  have cA := fun W => norm_list false (digs s.data.toList) W okS (by omega)
  generalize M.val 10 (digs s.data.toList) = x at *
  generalize bA (digs s.data.toList) = S at *
  rw [show M.sgn false x = (x : Int) from rfl] at cA
  clear okS hlS hxs
  obtain ⟨r, hr⟩ : ∃ r, m % 20 = r := ⟨_, rfl⟩
  have hr20 : r < 20 := by omega
  have hr2 : ((m : Int) % 20) = (r : Int) := by omega
  have hjm1 : j * m ≤ 4294967295 * 255 := Nat.mul_le_mul hj hm
  have hxm : x * m ≤ 10 ^ 40 * 255 := Nat.mul_le_mul (by omega) hm
  have hjr : j * r ≤ 4294967295 * 20 := Nat.mul_le_mul hj (by omega)
  have k1 := add_zero k (by omega)
  have k2 := add_zero j (by omega)
  have hw0 : tx (k : Int) = wantAt j k 0 := by unfold wantAt; rw [Nat.zero_mul, Nat.add_zero]
  have k3 : ∀ i, i < 20 → ∀ W, Tab W → Calls Tryd.prog 18 #[.string (wantAt j k i), .int .i64 j] W fun e w' => e = .returned (.string (wantAt j k (i + 1))) ∧ Below W.heap.size W w' := by
    intro i hi W hW
    have hij : i * j ≤ 20 * 4294967295 := Nat.mul_le_mul (by omega) hj
    exact add_nat (k + i * j) j (wantAt j k (i + 1)) (by unfold wantAt; rw [Nat.add_mul, Nat.one_mul, Nat.add_assoc]) (by omega) (by omega) W hW
  have k4 := add_nat x j (tx ((x + j : Nat) : Int)) rfl (by omega) (by omega)
  have k5 := mul_nat j r k (wantAt j k r) (by unfold wantAt; rw [Nat.mul_comm r j, Nat.add_comm]) (by omega) (by omega) (by omega)
  have k6 := mul_nat (x + j) m k _ rfl (by omega) (by omega) (by omega)
  have k7 := mul_nat x m k _ rfl (by omega) (by omega) (by omega)
  have k8 := add_nat (x * m + k) (j * m) (tx (((x + j) * m + k : Nat) : Int)) (by rw [Nat.add_mul]; congr 2; omega) (by omega) (by omega)
  have k9 := mul_nat x 1 0 (tx (x : Int)) (by rw [Nat.mul_one, Nat.add_zero]) (by omega) (by omega) (by omega)
  have k10 := mul_nat x 0 k (tx (k : Int)) (by rw [Nat.mul_zero, Nat.zero_add]) (by omega) (by omega) (by omega)
  obtain ⟨jm, hjm⟩ : ∃ jm, j * m = jm := ⟨_, rfl⟩
  rw [hjm] at k8 hjm1
  have hjm2 : (j : Int) * (m : Int) = (jm : Int) := by rw [← Int.natCast_mul, hjm]
  rw [hw0] at k1 k10
  generalize tx (((x + j) * m + k : Nat) : Int) = D at *
  generalize tx ((x * m + k : Nat) : Int) = E at *
  generalize tx ((x + j : Nat) : Int) = C at *
  generalize tx (x : Int) = A at *
  generalize tx (j : Int) = J at *
  clear hjm hw0 hxm hjr hx40 hr
  go_wp2_with fail
  refine (cS _).mono ?_
  rintro r w2 ⟨rfl, hb2⟩
  have B2 : Below w.heap.size w w2 := B1.trans (hb2.mono B1.size)
  have T2 := ht.next B2
  clear hb2 B1 T1
  go_wp2_with fail
  refine (cA _).mono ?_
  rintro r w3 ⟨rfl, hb3⟩
  have B3 : Below w.heap.size w w3 := B2.trans (hb3.mono B2.size)
  have T3 := ht.next B3
  clear hb3 B2 T2
  go_wp2_with fail
  refine (k1 _ T3).mono ?_
  rintro r w4 ⟨rfl, hb4⟩
  have B4 : Below w.heap.size w w4 := B3.trans (hb4.mono B3.size)
  have T4 := ht.next B4
  clear hb4 B3 T3
  go_wp2_with fail
  refine (k2 _ T4).mono ?_
  rintro r w5 ⟨rfl, hb5⟩
  have B5 : Below w.heap.size w w5 := B4.trans (hb5.mono B4.size)
  have T5 := ht.next B5
  clear hb5 B4 T4
  go_wp2_with fail
  clear d1 d3
  go_loopw [10, 12] (fun wv v wr => ∃ i : Nat, wv = .string (wantAt j k i) ∧ v = .int .i64 i ∧ i ≤ r ∧ Below w.heap.size w wr) (fun _ v _ => r - (intOf v).toNat)
  case atStart => exact ⟨0, rfl, rfl, Nat.zero_le _, B5⟩
  case round =>
    obtain ⟨i, rfl, rfl, hir, hbw⟩ := hrel
    have htw := ht.next hbw
    by_cases hil : i < r
    · have d5 : decide (i < r) = true := by simpa using hil
      go_wp2_with fail
      refine (k3 i (by omega) _ htw).mono ?_
      rintro rr wq ⟨rfl, hbq⟩
      go_wp2
      go_roundw
      case rel => exact ⟨i + 1, rfl, by go_num, by omega, hbw.trans (hbq.mono hbw.size)⟩
      case measure => simp [intOf]; omega
    · obtain rfl : i = r := by omega
      have d5 : decide (i < i) = false := by simp
      clear hil
      generalize wantAt j k i = WANT at *
      generalize wantAt j k 0 = KK at *
      clear B5 T5
      have B5 := hbw
      have T5 := htw
      clear hbw htw
      go_wp2_with fail
      refine (k4 _ T5).mono ?_
      rintro r w6 ⟨rfl, hb6⟩
      have B6 : Below w.heap.size w w6 := B5.trans (hb6.mono B5.size)
      have T6 := ht.next B6
      clear hb6 B5 T5
      go_wp2_with fail
      refine (k5 _).mono ?_
      rintro r w7 ⟨rfl, hb7⟩
      have B7 : Below w.heap.size w w7 := B6.trans (hb7.mono B6.size)
      have T7 := ht.next B7
      clear hb7 B6 T6
      go_wp2_with fail
      refine (k6 _).mono ?_
      rintro r w8 ⟨rfl, hb8⟩
      have B8 : Below w.heap.size w w8 := B7.trans (hb8.mono B7.size)
      have T8 := ht.next B8
      clear hb8 B7 T7
      go_wp2_with fail
      refine (k7 _).mono ?_
      rintro r w9 ⟨rfl, hb9⟩
      have B9 : Below w.heap.size w w9 := B8.trans (hb9.mono B8.size)
      have T9 := ht.next B9
      clear hb9 B8 T8
      go_wp2_with fail
      refine (k8 _ T9).mono ?_
      rintro r w10 ⟨rfl, hb10⟩
      have B10 : Below w.heap.size w w10 := B9.trans (hb10.mono B9.size)
      have T10 := ht.next B10
      clear hb10 B9 T9
      go_wp2_with fail
      refine (k9 _).mono ?_
      rintro r w11 ⟨rfl, hb11⟩
      have B11 : Below w.heap.size w w11 := B10.trans (hb11.mono B10.size)
      have T11 := ht.next B11
      clear hb11 B10 T10
      go_wp2_with fail
      refine (k10 _).mono ?_
      rintro r w12 ⟨rfl, hb12⟩
      have B12 : Below w.heap.size w w12 := B11.trans (hb12.mono B11.size)
      have T12 := ht.next B12
      clear hb12 B11 T11
      go_wp2_with fail
      refine (k1 _ T12).mono ?_
      rintro r w13 ⟨rfl, hb13⟩
      have B13 : Below w.heap.size w w13 := B12.trans (hb13.mono B12.size)
      have T13 := ht.next B13
      clear hb13 B12 T12
      go_wp2
      go_ret
      exact ⟨rfl, B13⟩
end Go.Proofs.YtplplpecafjacaaDoor
