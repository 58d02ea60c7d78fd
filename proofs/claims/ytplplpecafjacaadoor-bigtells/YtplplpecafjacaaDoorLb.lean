/- The law BigSums: its walk. -/
import Derived.Test.YtplplpecafjacaaDoorLa
set_option linter.unusedVariables false
namespace Go.Proofs.YtplplpecafjacaaDoor
open Go.RowKit

theorem abs_add (z n : Int) (B : Nat) (hz : z.natAbs < 10 ^ 60) (hn : n.natAbs ≤ 10 ^ 60) : (z + n).natAbs < 10 ^ 61 := by omega
theorem cmp_up (z : Int) : M.cmpZ (z + 1) z = 1 := by unfold M.cmpZ; rw [if_neg (by omega), if_pos (by omega)]
theorem cmp_down (z : Int) : M.cmpZ z (z + -1) = 1 := by unfold M.cmpZ; rw [if_neg (by omega), if_pos (by omega)]

set_option maxRecDepth 100000 in
set_option maxHeartbeats 2000000 in
theorem sums_any (s : ByteArray) (neg : Bool) (n m : Int) (w : World) (ht : Tab w) (hs : s.size ≤ maxLen) (hn : -2147483648 ≤ n ∧ n ≤ 2147483647) (hm : -2147483648 ≤ m ∧ m ≤ 2147483647) :
    Calls Tryd.prog 5 #[.string s, .bool neg, .int .i32 n, .int .i32 m] w fun r w' => r = .returned (.bool true) ∧ Below w.heap.size w w' := by
  unfold maxLen at hs
  have hs2 : s.size ≤ 9223372036854775807 := by omega
  clear hs
  obtain ⟨hn1, hn2⟩ := hn
  obtain ⟨hm1, hm2⟩ := hm
  go_enter Tryd.func5, Tryd.ntmps5
  go_wp2_with fail
  refine (known_any w ht).mono ?_
  rintro r w1 ⟨rfl, hb1⟩
  have B1 : Below w.heap.size w w1 := hb1
  have T1 := ht.next B1
  clear hb1
  by_cases h1 : s.size < 1
  · have d1 : decide ((s.size : Int) < 1) = true := decide_eq_true (by omega)
    go_wp2
    go_ret
    exact ⟨rfl, B1⟩
  have d1 : decide ((s.size : Int) < 1) = false := decide_eq_false (by omega)
  by_cases h3 : 60 < s.size
  · have d3 : decide ((60 : Int) < (s.size : Int)) = true := decide_eq_true (by omega)
    go_wp2
    go_ret
    exact ⟨rfl, B1⟩
  have d3 : decide ((60 : Int) < (s.size : Int)) = false := decide_eq_false (by omega)
  have cS := fun W => digits_any s W (by omega)
  have hxs := val_digs_lt s.data.toList
  rw [← sz_list] at hxs
  have hx60 : M.val 10 (digs s.data.toList) < 10 ^ 60 := Nat.lt_of_lt_of_le hxs (Nat.pow_le_pow_right (by omega) (by omega))
  have okS := digs_ok s.data.toList (by rw [← sz_list]; omega)
  have hlS : (digs s.data.toList).length ≤ 60 := by rw [digs_length, ← sz_list]; omega
  have cA := fun W => norm_list neg (digs s.data.toList) W okS (by omega)
  have hz : (M.sgn neg (M.val 10 (digs s.data.toList))).natAbs < 10 ^ 60 := by rw [sgn_abs]; exact hx60
  generalize M.sgn neg (M.val 10 (digs s.data.toList)) = z at *
  generalize bA (digs s.data.toList) = S at *
  clear okS hlS hx60 hxs
  have z0 : (tx z).size ≤ 6000 := Nat.le_trans (tx_len z 60 (by omega) hz) (by omega)
  have z1 : ∀ k : Int, -2147483648 ≤ k → k ≤ 2147483647 → (tx (z + k)).size ≤ 6000 := fun k h1 h2 => Nat.le_trans (tx_len _ 61 (by omega) (by omega)) (by omega)
  have z2 : ∀ k : Int, -2147483648 ≤ k → k ≤ 2147483647 → (tx (0 + k)).size ≤ 6000 := fun k h1 h2 => Nat.le_trans (tx_len _ 61 (by omega) (by omega)) (by omega)
  have zz : (tx 0).size ≤ 6000 := by rw [tx0]; decide
  have k1 := fun W T => add_yes z n W T z0 (by omega) (by omega)
  have k2 := fun W T => add_yes (z + n) (-n) W T (z1 n hn1 hn2) (by omega) (by omega)
  have k4 := fun W T => add_yes (z + n) m W T (z1 n hn1 hn2) (by omega) (by omega)
  have k5 := fun W T => add_yes z (n + m) W T z0 (by omega) (by omega)
  have k6 := fun W T => add_yes z 0 W T z0 (by omega) (by omega)
  have k7 := fun W T => add_yes z 1 W T z0 (by omega) (by omega)
  have k8 := fun W => compare_yes (z + 1) z W (Nat.le_trans (z1 1 (by omega) (by omega)) (by omega)) (Nat.le_trans z0 (by omega))
  have k9 := fun W T => add_yes z (-1) W T z0 (by omega) (by omega)
  have k10 := fun W => compare_yes z (z + -1) W (Nat.le_trans z0 (by omega)) (Nat.le_trans (z1 (-1) (by omega) (by omega)) (by omega))
  have k12 := fun W T => add_yes z m W T z0 (by omega) (by omega)
  have k13 := fun W => compare_yes (z + n) (z + m) W (Nat.le_trans (z1 n hn1 hn2) (by omega)) (Nat.le_trans (z1 m hm1 hm2) (by omega))
  have k14 := fun W T => add_yes 0 n W T zz (by omega) (by omega)
  have k15 := fun W T => add_yes 0 m W T zz (by omega) (by omega)
  have k16 := fun W => compare_yes (0 + n) (0 + m) W (Nat.le_trans (z2 n hn1 hn2) (by omega)) (Nat.le_trans (z2 m hm1 hm2) (by omega))
  rw [show z + n + -n = z by omega] at k2
  rw [show z + (n + m) = z + n + m by omega] at k5
  rw [show z + 0 = z by omega] at k6
  rw [cmp_up] at k8
  rw [cmp_down] at k10
  rw [M.cmpZ_add] at k13 k16
  rw [tx0] at k14 k15
  generalize M.cmpZ n m = N at *
  clear z0 z1 z2 zz hz
  generalize tx (z + n + m) = A2 at *
  generalize tx (z + n) = A1 at *
  generalize tx (z + m) = A3 at *
  generalize tx (z + 1) = P1 at *
  generalize tx (z + -1) = M1 at *
  generalize tx (0 + n) = Z1 at *
  generalize tx (0 + m) = Z2 at *
  generalize tx z = A at *
  go_wp2_with fail
  refine (cS _).mono ?_
  rintro r w2 ⟨rfl, hb2⟩
  have B2 : Below w.heap.size w w2 := B1.trans (hb2.mono B1.size)
  have T2 := ht.next B2
  clear hb2 B1 T1
  go_wp2_with fail
  refine (cA _).mono ?_
  rintro r w3 ⟨rfl, hb3⟩
  have B3 : Below w.heap.size w w3 := B2.trans (hb3.mono B2.size)
  have T3 := ht.next B3
  clear hb3 B2 T2
  go_wp2_with fail
  refine (k1 _ T3).mono ?_
  rintro r w4 ⟨rfl, hb4⟩
  have B4 : Below w.heap.size w w4 := B3.trans (hb4.mono B3.size)
  have T4 := ht.next B4
  clear hb4 B3 T3
  go_wp2_with fail
  refine (k2 _ T4).mono ?_
  rintro r w5 ⟨rfl, hb5⟩
  have B5 : Below w.heap.size w w5 := B4.trans (hb5.mono B4.size)
  have T5 := ht.next B5
  clear hb5 B4 T4
  go_wp2_with fail
  refine (k1 _ T5).mono ?_
  rintro r w6 ⟨rfl, hb6⟩
  have B6 : Below w.heap.size w w6 := B5.trans (hb6.mono B5.size)
  have T6 := ht.next B6
  clear hb6 B5 T5
  go_wp2_with fail
  refine (k4 _ T6).mono ?_
  rintro r w7 ⟨rfl, hb7⟩
  have B7 : Below w.heap.size w w7 := B6.trans (hb7.mono B6.size)
  have T7 := ht.next B7
  clear hb7 B6 T6
  go_wp2_with fail
  refine (k5 _ T7).mono ?_
  rintro r w8 ⟨rfl, hb8⟩
  have B8 : Below w.heap.size w w8 := B7.trans (hb8.mono B7.size)
  have T8 := ht.next B8
  clear hb8 B7 T7
  go_wp2_with fail
  refine (k6 _ T8).mono ?_
  rintro r w9 ⟨rfl, hb9⟩
  have B9 : Below w.heap.size w w9 := B8.trans (hb9.mono B8.size)
  have T9 := ht.next B9
  clear hb9 B8 T8
  go_wp2_with fail
  refine (k7 _ T9).mono ?_
  rintro r w10 ⟨rfl, hb10⟩
  have B10 : Below w.heap.size w w10 := B9.trans (hb10.mono B9.size)
  have T10 := ht.next B10
  clear hb10 B9 T9
  go_wp2_with fail
  refine (k8 _).mono ?_
  rintro r w11 ⟨rfl, hb11⟩
  have B11 : Below w.heap.size w w11 := B10.trans (hb11.mono B10.size)
  have T11 := ht.next B11
  clear hb11 B10 T10
  go_wp2_with fail
  refine (k9 _ T11).mono ?_
  rintro r w12 ⟨rfl, hb12⟩
  have B12 : Below w.heap.size w w12 := B11.trans (hb12.mono B11.size)
  have T12 := ht.next B12
  clear hb12 B11 T11
  go_wp2_with fail
  refine (k10 _).mono ?_
  rintro r w13 ⟨rfl, hb13⟩
  have B13 : Below w.heap.size w w13 := B12.trans (hb13.mono B12.size)
  have T13 := ht.next B13
  clear hb13 B12 T12
  go_wp2_with fail
  refine (k1 _ T13).mono ?_
  rintro r w14 ⟨rfl, hb14⟩
  have B14 : Below w.heap.size w w14 := B13.trans (hb14.mono B13.size)
  have T14 := ht.next B14
  clear hb14 B13 T13
  go_wp2_with fail
  refine (k12 _ T14).mono ?_
  rintro r w15 ⟨rfl, hb15⟩
  have B15 : Below w.heap.size w w15 := B14.trans (hb15.mono B14.size)
  have T15 := ht.next B15
  clear hb15 B14 T14
  go_wp2_with fail
  refine (k13 _).mono ?_
  rintro r w16 ⟨rfl, hb16⟩
  have B16 : Below w.heap.size w w16 := B15.trans (hb16.mono B15.size)
  have T16 := ht.next B16
  clear hb16 B15 T15
  go_wp2_with fail
  refine (k14 _ T16).mono ?_
  rintro r w17 ⟨rfl, hb17⟩
  have B17 : Below w.heap.size w w17 := B16.trans (hb17.mono B16.size)
  have T17 := ht.next B17
  clear hb17 B16 T16
  go_wp2_with fail
  refine (k15 _ T17).mono ?_
  rintro r w18 ⟨rfl, hb18⟩
  have B18 : Below w.heap.size w w18 := B17.trans (hb18.mono B17.size)
  have T18 := ht.next B18
  clear hb18 B17 T17
  go_wp2_with fail
  refine (k16 _).mono ?_
  rintro r w19 ⟨rfl, hb19⟩
  have B19 : Below w.heap.size w w19 := B18.trans (hb19.mono B18.size)
  have T19 := ht.next B19
  clear hb19 B18 T18
  go_wp2
  go_ret
  exact ⟨rfl, B19⟩
end Go.Proofs.YtplplpecafjacaaDoor
