/- Walks of targumref4's Add and Compare; that both sides answer the same. -/
import Derived.Test.YtocegiffbgnogaaDoorRf
import Derived.Test.YtocegiffbgnogaaDoorWl
set_option linter.unusedVariables false
namespace Go.Proofs.YtocegiffbgnogaaDoor
open Go.RowKit

theorem tx_dg (n : Nat) : tx (n : Int) = bA (M.dg n) := by unfold tx; rw [M.txt_nat]
theorem rnorm_nat (neg : Bool) (v : Nat) (w : World) (h : (M.dg v).length ≤ 100000) :
    Calls Tryd.prog 17 #[.bool neg, .string (tx (v : Int))] w fun e w' => e = .returned (.string (tx (M.sgn neg v))) ∧ w = w' := by
  have := rnorm_list neg (M.dg v) w (M.dg_ok v) h
  rwa [M.dg_val, ← tx_dg] at this
theorem cut_tx (z : Int) (h : z < 0) : (tx z).extract 1 (tx z).size = bA (M.dg z.natAbs) := by
  apply eq_bA
  rw [Lib.extract_to_end, tx_list]
  unfold M.txt
  rw [if_pos h]
  rfl
theorem abs_tx (z : Int) (h : ¬ z < 0) : tx z = bA (M.dg z.natAbs) := by
  unfold tx M.txt
  rw [if_neg h, show z.toNat = z.natAbs by omega]
theorem head_tx (z : Int) (h0 : 0 < (tx z).size) (h : z < 0) : ((tx z)[0]'h0).toNat = 45 := head_is (tx z) h0 (by rw [tx_list, M.txt_isNeg]; exact decide_eq_true h)
theorem head_tx_not (z : Int) (h0 : 0 < (tx z).size) (h : ¬ z < 0) : ((((tx z)[0]'h0).toNat : Int) == 45) = false := head_not (tx z) h0 (by rw [tx_list, M.txt_isNeg]; exact decide_eq_false h)
theorem dg_len13 (n : Nat) (h : n ≤ 1099511627776) : (M.dg n).length ≤ 13 := M.dg_len_le n 13 (by omega) (by omega)
theorem dg_len_add (a p : Nat) (hp : p ≤ 1099511627776) : (M.dg (a * 1 + p)).length ≤ (M.dg a).length + 14 := by
  apply M.dg_len_le _ _ (by omega)
  have h1 := M.dg_lt a
  have h2 : 10 ^ ((M.dg a).length + 14) = 10 ^ (M.dg a).length * 10 ^ 14 := Nat.pow_add _ _ _
  rw [h2]
  have h3 : 10 ^ (M.dg a).length * 10 ^ 14 = 10 ^ (M.dg a).length * 1 + 10 ^ (M.dg a).length * (10 ^ 14 - 1) := by rw [← Nat.mul_add]
  have h4 : 1 * (10 ^ 14 - 1) ≤ 10 ^ (M.dg a).length * (10 ^ 14 - 1) := Nat.mul_le_mul_right _ (Nat.pow_pos (by omega))
  omega

set_option maxRecDepth 100000 in
set_option maxHeartbeats 1000000 in
theorem radd_nn (z : Int) (p : Nat) (w : World) (hz : z < 0) (hs : (tx z).size ≤ 6000) (hp : p ≤ 1099511627776) (hpp : 0 < p) :
    Calls Tryd.prog 14 #[.string (tx z), .int .i64 (-(p : Int))] w fun e w' => e = .returned (.string (tx (z - p))) ∧ Below w.heap.size w w' := by
  have c1 := rgood_any (tx z) w (by omega)
  rw [tx_good] at c1
  have hds := dg_tx_size z
  rw [bA_size] at hds
  have hp0 := tx_pos z
  have hh := head_tx z hp0 hz
  have hx := cut_tx z hz
  have hres : z - p = M.sgn true (z.natAbs * 1 + p) := by unfold M.sgn; simp; omega
  have c2 := rmul_nat z.natAbs 1 p _ rfl (by rw [tx_dg, bA_size]; omega) (by omega) hp
  have c3 := fun W => rnorm_nat true (z.natAbs * 1 + p) W (by have := dg_len_add z.natAbs p hp; omega)
  rw [tx_dg z.natAbs] at c2
  rw [← hres] at c3
  generalize tx (z - p) = R at *
  generalize tx ((z.natAbs * 1 + p : Nat) : Int) = V at *
  clear hres hds
  have hAs : (tx z).size ≤ 6000 := hs
  generalize bA (M.dg z.natAbs) = D at *
  generalize tx z = A at *
  clear hz
  have q1 : decide ((-(p : Int)) < (-1099511627776 : Int)) = false := decide_eq_false (by omega)
  have q2 : decide ((1099511627776 : Int) < (-(p : Int))) = false := decide_eq_false (by omega)
  have q3 : decide ((-(p : Int)) < (0 : Int)) = true := decide_eq_true (by omega)
  go_enter Tryd.func14, Tryd.ntmps14
  go_wp2_with fail
  refine c1.mono ?_
  rintro r w' ⟨rfl, rfl⟩
  go_wp2_with fail
  refine (c2 _).mono ?_
  rintro r w1 ⟨rfl, hb1⟩
  go_wp2_with fail
  refine (c3 _).mono ?_
  rintro r w' ⟨rfl, rfl⟩
  clear c1 c2 c3
  go_wp2
  go_ret
  exact ⟨rfl, hb1⟩

set_option maxRecDepth 100000 in
set_option maxHeartbeats 1000000 in
theorem radd_pp (z : Int) (p : Nat) (w : World) (hz : ¬ z < 0) (hs : (tx z).size ≤ 6000) (hp : p ≤ 1099511627776) :
    Calls Tryd.prog 14 #[.string (tx z), .int .i64 ((p : Int))] w fun e w' => e = .returned (.string (tx (z + p))) ∧ Below w.heap.size w w' := by
  have c1 := rgood_any (tx z) w (by omega)
  rw [tx_good] at c1
  have hds := dg_tx_size z
  rw [bA_size] at hds
  have hp0 := tx_pos z
  have hh := head_tx_not z hp0 hz
  have hx := abs_tx z hz
  have hres : z + p = M.sgn false (z.natAbs * 1 + p) := by unfold M.sgn; simp; omega
  have c2 := rmul_nat z.natAbs 1 p _ rfl (by rw [tx_dg, bA_size]; omega) (by omega) hp
  have c3 := fun W => rnorm_nat false (z.natAbs * 1 + p) W (by have := dg_len_add z.natAbs p hp; omega)
  rw [tx_dg z.natAbs] at c2
  rw [← hres] at c3
  generalize tx (z + p) = R at *
  generalize tx ((z.natAbs * 1 + p : Nat) : Int) = V at *
  clear hres hds
  rw [← hx] at *
  generalize tx z = A at *
  clear hz hx
  have q1 : decide (((p : Int)) < (-1099511627776 : Int)) = false := decide_eq_false (by omega)
  have q2 : decide ((1099511627776 : Int) < ((p : Int))) = false := decide_eq_false (by omega)
  have q3 : decide (((p : Int)) < (0 : Int)) = false := decide_eq_false (by omega)
  go_enter Tryd.func14, Tryd.ntmps14
  go_wp2_with fail
  refine c1.mono ?_
  rintro r w' ⟨rfl, rfl⟩
  go_wp2_with fail
  refine (c2 _).mono ?_
  rintro r w1 ⟨rfl, hb1⟩
  go_wp2_with fail
  refine (c3 _).mono ?_
  rintro r w' ⟨rfl, rfl⟩
  clear c1 c2 c3
  go_wp2
  go_ret
  exact ⟨rfl, hb1⟩

set_option maxRecDepth 100000 in
set_option maxHeartbeats 1000000 in
theorem radd_np_yes (z : Int) (p : Nat) (w : World) (hz : z < 0) (hs : (tx z).size ≤ 6000) (hp : p ≤ 1099511627776) (hlt : z.natAbs < p) :
    Calls Tryd.prog 14 #[.string (tx z), .int .i64 ((p : Int))] w fun e w' => e = .returned (.string (tx (z + p))) ∧ Below w.heap.size w w' := by
  have c1 := rgood_any (tx z) w (by omega)
  rw [tx_good] at c1
  have hds := dg_tx_size z
  rw [bA_size] at hds
  have hp0 := tx_pos z
  have hh := head_tx z hp0 hz
  have hx := cut_tx z hz
  have hres : z + p = M.sgn false (p - z.natAbs) := by unfold M.sgn; simp; omega
  have hlp := dg_len13 p hp
  have c2 := text_any p w hp
  have c3 := fun W => rcompare_any (bA (M.dg z.natAbs)) (bA (M.dg p)) W (by rw [bA_size]; omega) (by rw [bA_size]; omega)
  rw [bA_toList, bA_toList, M.cmpS_dg] at c3
  rw [show M.cmpZ (z.natAbs : Int) (p : Int) = -1 by unfold M.cmpZ; rw [if_pos (by omega)]] at c3
  have c4 := fun W => rless_any p z.natAbs W (by omega) (by omega)
  have c5 := fun W => rnorm_nat false (p - z.natAbs) W (by have := dg_len_mono (show p - z.natAbs ≤ p by omega); omega)
  rw [← hres] at c5
  generalize tx (z + p) = R at *
  generalize tx ((p - z.natAbs : Nat) : Int) = V at *
  generalize bA (M.dg p) = E at *
  clear hres hds hlp hlt
  have hAs : (tx z).size ≤ 6000 := hs
  generalize bA (M.dg z.natAbs) = D at *
  generalize tx z = A at *
  clear hz
  have q1 : decide (((p : Int)) < (-1099511627776 : Int)) = false := decide_eq_false (by omega)
  have q2 : decide ((1099511627776 : Int) < ((p : Int))) = false := decide_eq_false (by omega)
  have q3 : decide (((p : Int)) < (0 : Int)) = false := decide_eq_false (by omega)
  go_enter Tryd.func14, Tryd.ntmps14
  go_wp2_with fail
  refine c1.mono ?_
  rintro r w' ⟨rfl, rfl⟩
  go_wp2_with fail
  refine c2.mono ?_
  rintro r w1 ⟨rfl, hb1⟩
  go_wp2_with fail
  refine (c3 _).mono ?_
  rintro r w' ⟨rfl, rfl⟩
  go_wp2_with fail
  refine (c4 _).mono ?_
  rintro r w2 ⟨rfl, hb2⟩
  go_wp2_with fail
  refine (c5 _).mono ?_
  rintro r w' ⟨rfl, rfl⟩
  clear c1 c2 c3 c4 c5
  go_wp2
  go_ret
  exact ⟨rfl, hb1.trans (hb2.mono hb1.size)⟩

set_option maxRecDepth 100000 in
set_option maxHeartbeats 1000000 in
theorem radd_np_no (z : Int) (p : Nat) (w : World) (hz : z < 0) (hs : (tx z).size ≤ 6000) (hp : p ≤ 1099511627776) (hlt : p ≤ z.natAbs) :
    Calls Tryd.prog 14 #[.string (tx z), .int .i64 ((p : Int))] w fun e w' => e = .returned (.string (tx (z + p))) ∧ Below w.heap.size w w' := by
  have c1 := rgood_any (tx z) w (by omega)
  rw [tx_good] at c1
  have hds := dg_tx_size z
  rw [bA_size] at hds
  have hp0 := tx_pos z
  have hh := head_tx z hp0 hz
  have hx := cut_tx z hz
  have hres : z + p = M.sgn true (z.natAbs - p) := by unfold M.sgn; simp; omega
  have hlp := dg_len13 p hp
  have c2 := text_any p w hp
  have c3 := fun W => rcompare_any (bA (M.dg z.natAbs)) (bA (M.dg p)) W (by rw [bA_size]; omega) (by rw [bA_size]; omega)
  rw [bA_toList, bA_toList, M.cmpS_dg] at c3
  obtain ⟨u, hu, hu0⟩ : ∃ u, M.cmpZ (z.natAbs : Int) (p : Int) = u ∧ 0 ≤ u := ⟨_, rfl, by unfold M.cmpZ; rw [if_neg (by omega)]; split <;> omega⟩
  rw [hu] at c3
  have hud : decide (u < 0) = false := decide_eq_false (by omega)
  clear hu hu0
  have c4 := fun W => rless_any z.natAbs p W hlt (by omega)
  have c5 := fun W => rnorm_nat true (z.natAbs - p) W (by have := dg_len_mono (show z.natAbs - p ≤ z.natAbs by omega); omega)
  rw [← hres] at c5
  generalize tx (z + p) = R at *
  generalize tx ((z.natAbs - p : Nat) : Int) = V at *
  generalize bA (M.dg p) = E at *
  clear hres hds hlp hlt
  have hAs : (tx z).size ≤ 6000 := hs
  generalize bA (M.dg z.natAbs) = D at *
  generalize tx z = A at *
  clear hz
  have q1 : decide (((p : Int)) < (-1099511627776 : Int)) = false := decide_eq_false (by omega)
  have q2 : decide ((1099511627776 : Int) < ((p : Int))) = false := decide_eq_false (by omega)
  have q3 : decide (((p : Int)) < (0 : Int)) = false := decide_eq_false (by omega)
  go_enter Tryd.func14, Tryd.ntmps14
  go_wp2_with fail
  refine c1.mono ?_
  rintro r w' ⟨rfl, rfl⟩
  go_wp2_with fail
  refine c2.mono ?_
  rintro r w1 ⟨rfl, hb1⟩
  go_wp2_with fail
  refine (c3 _).mono ?_
  rintro r w' ⟨rfl, rfl⟩
  go_wp2_with fail
  refine (c4 _).mono ?_
  rintro r w2 ⟨rfl, hb2⟩
  go_wp2_with fail
  refine (c5 _).mono ?_
  rintro r w' ⟨rfl, rfl⟩
  clear c1 c2 c3 c4 c5
  go_wp2
  go_ret
  exact ⟨rfl, hb1.trans (hb2.mono hb1.size)⟩

set_option maxRecDepth 100000 in
set_option maxHeartbeats 1000000 in
theorem radd_pn_yes (z : Int) (p : Nat) (w : World) (hz : ¬ z < 0) (hs : (tx z).size ≤ 6000) (hp : p ≤ 1099511627776) (hpp : 0 < p) (hlt : z.natAbs < p) :
    Calls Tryd.prog 14 #[.string (tx z), .int .i64 (-(p : Int))] w fun e w' => e = .returned (.string (tx (z - p))) ∧ Below w.heap.size w w' := by
  have c1 := rgood_any (tx z) w (by omega)
  rw [tx_good] at c1
  have hds := dg_tx_size z
  rw [bA_size] at hds
  have hp0 := tx_pos z
  have hh := head_tx_not z hp0 hz
  have hx := abs_tx z hz
  have hres : z - p = M.sgn true (p - z.natAbs) := by unfold M.sgn; simp; omega
  have hlp := dg_len13 p hp
  have c2 := text_any p w hp
  have c3 := fun W => rcompare_any (bA (M.dg z.natAbs)) (bA (M.dg p)) W (by rw [bA_size]; omega) (by rw [bA_size]; omega)
  rw [bA_toList, bA_toList, M.cmpS_dg] at c3
  rw [show M.cmpZ (z.natAbs : Int) (p : Int) = -1 by unfold M.cmpZ; rw [if_pos (by omega)]] at c3
  have c4 := fun W => rless_any p z.natAbs W (by omega) (by omega)
  have c5 := fun W => rnorm_nat true (p - z.natAbs) W (by have := dg_len_mono (show p - z.natAbs ≤ p by omega); omega)
  rw [← hres] at c5
  generalize tx (z - p) = R at *
  generalize tx ((p - z.natAbs : Nat) : Int) = V at *
  generalize bA (M.dg p) = E at *
  clear hres hds hlp hlt
  rw [← hx] at *
  generalize tx z = A at *
  clear hz hx
  have q1 : decide ((-(p : Int)) < (-1099511627776 : Int)) = false := decide_eq_false (by omega)
  have q2 : decide ((1099511627776 : Int) < (-(p : Int))) = false := decide_eq_false (by omega)
  have q3 : decide ((-(p : Int)) < (0 : Int)) = true := decide_eq_true (by omega)
  go_enter Tryd.func14, Tryd.ntmps14
  go_wp2_with fail
  refine c1.mono ?_
  rintro r w' ⟨rfl, rfl⟩
  go_wp2_with fail
  refine c2.mono ?_
  rintro r w1 ⟨rfl, hb1⟩
  go_wp2_with fail
  refine (c3 _).mono ?_
  rintro r w' ⟨rfl, rfl⟩
  go_wp2_with fail
  refine (c4 _).mono ?_
  rintro r w2 ⟨rfl, hb2⟩
  go_wp2_with fail
  refine (c5 _).mono ?_
  rintro r w' ⟨rfl, rfl⟩
  clear c1 c2 c3 c4 c5
  go_wp2
  go_ret
  exact ⟨rfl, hb1.trans (hb2.mono hb1.size)⟩

set_option maxRecDepth 100000 in
set_option maxHeartbeats 1000000 in
theorem radd_pn_no (z : Int) (p : Nat) (w : World) (hz : ¬ z < 0) (hs : (tx z).size ≤ 6000) (hp : p ≤ 1099511627776) (hpp : 0 < p) (hlt : p ≤ z.natAbs) :
    Calls Tryd.prog 14 #[.string (tx z), .int .i64 (-(p : Int))] w fun e w' => e = .returned (.string (tx (z - p))) ∧ Below w.heap.size w w' := by
  have c1 := rgood_any (tx z) w (by omega)
  rw [tx_good] at c1
  have hds := dg_tx_size z
  rw [bA_size] at hds
  have hp0 := tx_pos z
  have hh := head_tx_not z hp0 hz
  have hx := abs_tx z hz
  have hres : z - p = M.sgn false (z.natAbs - p) := by unfold M.sgn; simp; omega
  have hlp := dg_len13 p hp
  have c2 := text_any p w hp
  have c3 := fun W => rcompare_any (bA (M.dg z.natAbs)) (bA (M.dg p)) W (by rw [bA_size]; omega) (by rw [bA_size]; omega)
  rw [bA_toList, bA_toList, M.cmpS_dg] at c3
  obtain ⟨u, hu, hu0⟩ : ∃ u, M.cmpZ (z.natAbs : Int) (p : Int) = u ∧ 0 ≤ u := ⟨_, rfl, by unfold M.cmpZ; rw [if_neg (by omega)]; split <;> omega⟩
  rw [hu] at c3
  have hud : decide (u < 0) = false := decide_eq_false (by omega)
  clear hu hu0
  have c4 := fun W => rless_any z.natAbs p W hlt (by omega)
  have c5 := fun W => rnorm_nat false (z.natAbs - p) W (by have := dg_len_mono (show z.natAbs - p ≤ z.natAbs by omega); omega)
  rw [← hres] at c5
  generalize tx (z - p) = R at *
  generalize tx ((z.natAbs - p : Nat) : Int) = V at *
  generalize bA (M.dg p) = E at *
  clear hres hds hlp hlt
  rw [← hx] at *
  generalize tx z = A at *
  clear hz hx
  have q1 : decide ((-(p : Int)) < (-1099511627776 : Int)) = false := decide_eq_false (by omega)
  have q2 : decide ((1099511627776 : Int) < (-(p : Int))) = false := decide_eq_false (by omega)
  have q3 : decide ((-(p : Int)) < (0 : Int)) = true := decide_eq_true (by omega)
  go_enter Tryd.func14, Tryd.ntmps14
  go_wp2_with fail
  refine c1.mono ?_
  rintro r w' ⟨rfl, rfl⟩
  go_wp2_with fail
  refine c2.mono ?_
  rintro r w1 ⟨rfl, hb1⟩
  go_wp2_with fail
  refine (c3 _).mono ?_
  rintro r w' ⟨rfl, rfl⟩
  go_wp2_with fail
  refine (c4 _).mono ?_
  rintro r w2 ⟨rfl, hb2⟩
  go_wp2_with fail
  refine (c5 _).mono ?_
  rintro r w' ⟨rfl, rfl⟩
  clear c1 c2 c3 c4 c5
  go_wp2
  go_ret
  exact ⟨rfl, hb1.trans (hb2.mono hb1.size)⟩

theorem radd_yes (z n : Int) (w : World) (hs : (tx z).size ≤ 6000) (h1 : -1099511627776 ≤ n) (h2 : n ≤ 1099511627776) :
    Calls Tryd.prog 14 #[.string (tx z), .int .i64 n] w fun e w' => e = .returned (.string (tx (z + n))) ∧ Below w.heap.size w w' := by
  by_cases hz : z < 0
  · by_cases hn : n < 0
    · obtain ⟨p, rfl⟩ : ∃ p : Nat, n = -(p : Int) := ⟨n.natAbs, by omega⟩
      have := radd_nn z p w hz hs (by omega) (by omega)
      rwa [show z - (p : Int) = z + -(p : Int) by omega] at this
    · obtain ⟨p, rfl⟩ : ∃ p : Nat, n = (p : Int) := ⟨n.natAbs, by omega⟩
      by_cases hlt : z.natAbs < p
      · exact radd_np_yes z p w hz hs (by omega) hlt
      · exact radd_np_no z p w hz hs (by omega) (by omega)
  · by_cases hn : 0 ≤ n
    · obtain ⟨p, rfl⟩ : ∃ p : Nat, n = (p : Int) := ⟨n.natAbs, by omega⟩
      exact radd_pp z p w hz hs (by omega)
    · obtain ⟨p, rfl⟩ : ∃ p : Nat, n = -(p : Int) := ⟨n.natAbs, by omega⟩
      rw [show z + -(p : Int) = z - (p : Int) by omega]
      by_cases hlt : z.natAbs < p
      · exact radd_pn_yes z p w hz hs (by omega) (by omega) hlt
      · exact radd_pn_no z p w hz hs (by omega) (by omega) (by omega)
set_option maxRecDepth 100000 in
theorem radd_no (A : ByteArray) (n : Int) (w : World) (hA : A.size ≤ 6000) (h : M.goodB A.data.toList = false ∨ n < -1099511627776 ∨ 1099511627776 < n) :
    Calls Tryd.prog 14 #[.string A, .int .i64 n] w fun e w' => e = .returned (.string ⟨#[]⟩) ∧ w = w' := by
  have c1 := rgood_any A w (by omega)
  by_cases hg : M.goodB A.data.toList = true
  · rw [hg] at c1
    by_cases h1 : n < -1099511627776
    · have q1 : decide (n < (-1099511627776 : Int)) = true := decide_eq_true h1
      clear h h1 hg
      go_enter Tryd.func14, Tryd.ntmps14
      go_wp2_with fail
      refine c1.mono ?_
      rintro r w' ⟨rfl, rfl⟩
      go_wp2
      go_ret
      exact ⟨rfl, rfl⟩
    · have h2 : 1099511627776 < n := by
        rcases h with h | h | h
        · rw [hg] at h; cases h
        · exact absurd h h1
        · exact h
      have q1 : decide (n < (-1099511627776 : Int)) = false := decide_eq_false h1
      have q2 : decide ((1099511627776 : Int) < n) = true := decide_eq_true h2
      clear h h1 hg h2
      go_enter Tryd.func14, Tryd.ntmps14
      go_wp2_with fail
      refine c1.mono ?_
      rintro r w' ⟨rfl, rfl⟩
      go_wp2
      go_ret
      exact ⟨rfl, rfl⟩
  · rw [show M.goodB A.data.toList = false by simpa using hg] at c1
    clear hg h
    go_enter Tryd.func14, Tryd.ntmps14
    go_wp2_with fail
    refine c1.mono ?_
    rintro r w' ⟨rfl, rfl⟩
    go_wp2
    go_ret
    exact ⟨rfl, rfl⟩
/-- Both sides' Add answer the same. -/
theorem add_agree (A : ByteArray) (n : Int) (hA : A.size ≤ 100) : ∃ R : ByteArray, (∀ w, Tab w → Calls Tryd.prog 51 #[.string A, .int .i64 n] w fun e w' => e = .returned (.string R) ∧ Below w.heap.size w w') ∧ (∀ w, Calls Tryd.prog 14 #[.string A, .int .i64 n] w fun e w' => e = .returned (.string R) ∧ Below w.heap.size w w') := by
  by_cases h : M.goodB A.data.toList = false ∨ n < -1099511627776 ∨ 1099511627776 < n
  · exact ⟨⟨#[]⟩, fun w _ => (add_no A n w (by omega) h).mono (fun e w' h => ⟨h.1, h.2 ▸ Below.refl _ _⟩), fun w => (radd_no A n w (by omega) h).mono (fun e w' h => ⟨h.1, h.2 ▸ Below.refl _ _⟩)⟩
  · have h1 : M.goodB A.data.toList = true := by
      cases hh : M.goodB A.data.toList
      · exact absurd (Or.inl hh) h
      · rfl
    obtain ⟨z, rfl⟩ := good_tx h1
    exact ⟨_, fun w ht => add_yes z n w ht (by omega) (by omega) (by omega), fun w => radd_yes z n w (by omega) (by omega) (by omega)⟩

end Go.Proofs.YtocegiffbgnogaaDoor
