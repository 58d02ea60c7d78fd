/- Walk: big.Add. -/
import Derived.Test.YtocegiffbgnogaaDoorWk
set_option linter.unusedVariables false
namespace Go.Proofs.YtocegiffbgnogaaDoor
open Go.RowKit

theorem dg_bA (a : Nat) : (bA (M.dg a)).size = (M.dg a).length ∧ M.allD 10 (bA (M.dg a)).data.toList = true ∧ M.val 10 (bA (M.dg a)).data.toList = a := by
  rw [bA_size, bA_toList]; exact ⟨rfl, M.dg_all a, M.dg_val a⟩
theorem read_dg (a : Nat) (w : World) (h : (bA (M.dg a)).size ≤ 100000) :
    Calls Tryd.prog 70 #[.string (bA (M.dg a))] w fun r w' => (∃ v ps, r = .returned v ∧ Own w' w.heap.size v ps ∧ M.Small ps ∧ M.pv ps = a ∧ ps.length ≤ (bA (M.dg a)).size) ∧ Below w.heap.size w w' := by
  have := read_any (bA (M.dg a)) w h (dg_bA a).2.1
  unfold ReadPost at this
  rwa [(dg_bA a).2.2] at this
theorem whole_list (neg : Bool) (l : List UInt8) (w : World) (hs : l.length ≤ 100000) (hd : M.allD 10 l = true) :
    Calls Tryd.prog 40 #[.bool neg, .string (bA l)] w fun e w' => e = .returned (.string (tx (M.sgn neg (M.val 10 l)))) ∧ Below w.heap.size w w' := by
  have := whole_any neg (bA l) w (by rw [bA_size]; exact hs) (by rw [bA_toList]; exact hd)
  rwa [bA_toList] at this

set_option maxRecDepth 100000 in
set_option maxHeartbeats 1000000 in
theorem add_nn (z : Int) (p : Nat) (w : World) (hz : z < 0) (hs : (tx z).size ≤ 6000) (hp : p ≤ 1099511627776) :
    Calls Tryd.prog 51 #[.string (tx z), .int .i64 (-(p : Int))] w fun e w' => e = .returned (.string (tx (z - p))) ∧ Below w.heap.size w w' := by
  have c1 := good_any (tx z) w (by omega)
  rw [tx_good] at c1
  have c2 := split_tx z w (by omega)
  rw [decide_eq_true hz] at c2
  have hds := dg_tx_size z
  have c3 := read_dg z.natAbs w (by omega)
  have hres : z - p = M.sgn true (z.natAbs * 1 + p) := by unfold M.sgn; simp; omega
  rw [hres]
  generalize z.natAbs = a at *
  generalize bA (M.dg a) = D at *
  generalize tx z = A at *
  clear hres hz
  have q1 : decide ((-(p : Int)) < (-1099511627776 : Int)) = false := decide_eq_false (by omega)
  have q2 : decide ((1099511627776 : Int) < (-(p : Int))) = false := decide_eq_false (by omega)
  have q3 : decide ((0 : Int) ≤ (p : Int)) = true := decide_eq_true (by omega)
  go_enter Tryd.func51, Tryd.ntmps51
  go_wp2_with fail
  refine c1.mono ?_
  rintro r w' ⟨rfl, rfl⟩
  go_wp2_with fail
  refine c2.mono ?_
  rintro r w' ⟨rfl, rfl⟩
  go_wp2_with fail
  refine c3.mono ?_
  rintro r w1 ⟨⟨v, ps, rfl, ho, hsm, hpv, hl⟩, hb1⟩
  subst hpv
  clear c1 c2 c3
  go_wp2_with fail
  refine (mulAdd_any v ps 1 p w.heap.size _ ho hsm hb1.size (by omega) (by omega) hp).mono ?_
  rintro r w2 ⟨⟨v2, ps2, rfl, ho2, hsm2, hpv2, hl2⟩, hb2⟩
  have HPV2 := Lib.hid hpv2
  clear hpv2 ho
  go_wp2_with fail
  refine (written_any v2 ps2 w.heap.size _ ho2 hsm2 (by omega)).mono ?_
  rintro r w3 ⟨rfl, hb3⟩
  go_wp2_with fail
  refine (ends_any true ps2 _ hsm2 (by omega)).mono ?_
  rintro r w4 ⟨rfl, hb4⟩
  clear ho2
  go_wp2
  go_ret
  have hz : w.heap.size ≤ w2.heap.size := Nat.le_trans hb1.size hb2.size
  exact ⟨by rw [HPV2.out]; rfl, ((hb1.trans hb2).trans (hb3.mono hz)).trans (hb4.mono (Nat.le_trans hz hb3.size))⟩

set_option maxRecDepth 100000 in
set_option maxHeartbeats 1000000 in
theorem add_pp (z : Int) (p : Nat) (w : World) (hz : ¬ z < 0) (hs : (tx z).size ≤ 6000) (hp : p ≤ 1099511627776) :
    Calls Tryd.prog 51 #[.string (tx z), .int .i64 ((p : Int))] w fun e w' => e = .returned (.string (tx (z + p))) ∧ Below w.heap.size w w' := by
  have c1 := good_any (tx z) w (by omega)
  rw [tx_good] at c1
  have c2 := split_tx z w (by omega)
  rw [decide_eq_false hz] at c2
  have hds := dg_tx_size z
  have c3 := read_dg z.natAbs w (by omega)
  have hres : z + p = M.sgn false (z.natAbs * 1 + p) := by unfold M.sgn; simp; omega
  rw [hres]
  generalize z.natAbs = a at *
  generalize bA (M.dg a) = D at *
  generalize tx z = A at *
  clear hres hz
  have q1 : decide (((p : Int)) < (-1099511627776 : Int)) = false := decide_eq_false (by omega)
  have q2 : decide ((1099511627776 : Int) < ((p : Int))) = false := decide_eq_false (by omega)
  have q3 : decide ((0 : Int) ≤ (p : Int)) = true := decide_eq_true (by omega)
  go_enter Tryd.func51, Tryd.ntmps51
  go_wp2_with fail
  refine c1.mono ?_
  rintro r w' ⟨rfl, rfl⟩
  go_wp2_with fail
  refine c2.mono ?_
  rintro r w' ⟨rfl, rfl⟩
  go_wp2_with fail
  refine c3.mono ?_
  rintro r w1 ⟨⟨v, ps, rfl, ho, hsm, hpv, hl⟩, hb1⟩
  subst hpv
  clear c1 c2 c3
  go_wp2_with fail
  refine (mulAdd_any v ps 1 p w.heap.size _ ho hsm hb1.size (by omega) (by omega) hp).mono ?_
  rintro r w2 ⟨⟨v2, ps2, rfl, ho2, hsm2, hpv2, hl2⟩, hb2⟩
  have HPV2 := Lib.hid hpv2
  clear hpv2 ho
  go_wp2_with fail
  refine (written_any v2 ps2 w.heap.size _ ho2 hsm2 (by omega)).mono ?_
  rintro r w3 ⟨rfl, hb3⟩
  go_wp2_with fail
  refine (ends_any false ps2 _ hsm2 (by omega)).mono ?_
  rintro r w4 ⟨rfl, hb4⟩
  clear ho2
  go_wp2
  go_ret
  have hz : w.heap.size ≤ w2.heap.size := Nat.le_trans hb1.size hb2.size
  exact ⟨by rw [HPV2.out]; rfl, ((hb1.trans hb2).trans (hb3.mono hz)).trans (hb4.mono (Nat.le_trans hz hb3.size))⟩

set_option maxRecDepth 100000 in
set_option maxHeartbeats 1000000 in
theorem add_np_yes (z : Int) (p : Nat) (w : World) (ht : Tab w) (hz : z < 0) (hs : (tx z).size ≤ 6000) (hp : p ≤ 1099511627776) (hp0 : 0 < p) (hlt : z.natAbs < p) :
    Calls Tryd.prog 51 #[.string (tx z), .int .i64 ((p : Int))] w fun e w' => e = .returned (.string (tx (z + p))) ∧ Below w.heap.size w w' := by
  have c1 := good_any (tx z) w (by omega)
  rw [tx_good] at c1
  have c2 := split_tx z w (by omega)
  rw [decide_eq_true hz] at c2
  have hds := dg_tx_size z
  rw [bA_size] at hds
  have c3 := less_yes z.natAbs p w ht hlt hp
  have hln : (M.dg (p - z.natAbs)).length ≤ 13 := M.dg_len_le _ 13 (by omega) (by omega)
  have c4 := fun W => whole_list false (M.dg (p - z.natAbs)) W (by omega) (M.dg_all _)
  have hres : z + p = M.sgn false (p - z.natAbs) := by unfold M.sgn; simp; omega
  rw [M.dg_val, ← hres] at c4
  generalize tx (z + p) = R at *
  generalize bA (M.dg (p - z.natAbs)) = E at *
  generalize bA (M.dg z.natAbs) = D at *
  generalize tx z = A at *
  clear hres hz hln hds hlt
  have q1 : decide (((p : Int)) < (-1099511627776 : Int)) = false := decide_eq_false (by omega)
  have q2 : decide ((1099511627776 : Int) < ((p : Int))) = false := decide_eq_false (by omega)
  have q3 : decide ((0 : Int) ≤ -(p : Int)) = false := decide_eq_false (by omega)
  go_enter Tryd.func51, Tryd.ntmps51
  go_wp2_with fail
  refine c1.mono ?_
  rintro r w' ⟨rfl, rfl⟩
  go_wp2_with fail
  refine c2.mono ?_
  rintro r w' ⟨rfl, rfl⟩
  go_wp2_with fail
  refine c3.mono ?_
  rintro r w1 ⟨rfl, hb1⟩
  clear c1 c2 c3
  go_wp2_with fail
  refine (c4 _).mono ?_
  rintro r w2 ⟨rfl, hb2⟩
  clear c4
  go_wp2
  go_ret
  exact ⟨rfl, hb1.trans (hb2.mono hb1.size)⟩
set_option maxRecDepth 100000 in
set_option maxHeartbeats 1000000 in
theorem add_np_no (z : Int) (p : Nat) (w : World) (ht : Tab w) (hz : z < 0) (hs : (tx z).size ≤ 6000) (hp : p ≤ 1099511627776) (hp0 : 0 < p) (hlt : p ≤ z.natAbs) :
    Calls Tryd.prog 51 #[.string (tx z), .int .i64 ((p : Int))] w fun e w' => e = .returned (.string (tx (z + p))) ∧ Below w.heap.size w w' := by
  have c1 := good_any (tx z) w (by omega)
  rw [tx_good] at c1
  have c2 := split_tx z w (by omega)
  rw [decide_eq_true hz] at c2
  have hds := dg_tx_size z
  rw [bA_size] at hds
  have c3 := less_no z.natAbs p w ht hlt hp (by omega)
  have hres : ∀ V : Nat, V + p = z.natAbs → z + p = M.sgn true V := by intro V hV; unfold M.sgn; simp; omega
  have HRES := Lib.hid hres
  generalize bA (M.dg z.natAbs) = D at *
  generalize tx z = A at *
  clear hres hz
  have q1 : decide (((p : Int)) < (-1099511627776 : Int)) = false := decide_eq_false (by omega)
  have q2 : decide ((1099511627776 : Int) < ((p : Int))) = false := decide_eq_false (by omega)
  have q3 : decide ((0 : Int) ≤ -(p : Int)) = false := decide_eq_false (by omega)
  go_enter Tryd.func51, Tryd.ntmps51
  go_wp2_with fail
  refine c1.mono ?_
  rintro r w' ⟨rfl, rfl⟩
  go_wp2_with fail
  refine c2.mono ?_
  rintro r w' ⟨rfl, rfl⟩
  go_wp2_with fail
  refine c3.mono ?_
  rintro r w1 ⟨⟨l, rfl, hll, hla, hlv⟩, hb1⟩
  clear c1 c2 c3
  have c4 := fun W => whole_list true l W (by omega) hla
  rw [← HRES.out _ hlv] at c4
  clear hla hlv
  go_wp2_with fail
  refine (c4 _).mono ?_
  rintro r w2 ⟨rfl, hb2⟩
  clear c4
  go_wp2
  go_ret
  exact ⟨rfl, hb1.trans (hb2.mono hb1.size)⟩

set_option maxRecDepth 100000 in
set_option maxHeartbeats 1000000 in
theorem add_pn_yes (z : Int) (p : Nat) (w : World) (ht : Tab w) (hz : ¬ z < 0) (hs : (tx z).size ≤ 6000) (hp : p ≤ 1099511627776) (hp0 : 0 < p) (hlt : z.natAbs < p) :
    Calls Tryd.prog 51 #[.string (tx z), .int .i64 (-(p : Int))] w fun e w' => e = .returned (.string (tx (z - p))) ∧ Below w.heap.size w w' := by
  have c1 := good_any (tx z) w (by omega)
  rw [tx_good] at c1
  have c2 := split_tx z w (by omega)
  rw [decide_eq_false hz] at c2
  have hds := dg_tx_size z
  rw [bA_size] at hds
  have c3 := less_yes z.natAbs p w ht hlt hp
  have hln : (M.dg (p - z.natAbs)).length ≤ 13 := M.dg_len_le _ 13 (by omega) (by omega)
  have c4 := fun W => whole_list true (M.dg (p - z.natAbs)) W (by omega) (M.dg_all _)
  have hres : z - p = M.sgn true (p - z.natAbs) := by unfold M.sgn; simp; omega
  rw [M.dg_val, ← hres] at c4
  generalize tx (z - p) = R at *
  generalize bA (M.dg (p - z.natAbs)) = E at *
  generalize bA (M.dg z.natAbs) = D at *
  generalize tx z = A at *
  clear hres hz hln hds hlt
  have q1 : decide ((-(p : Int)) < (-1099511627776 : Int)) = false := decide_eq_false (by omega)
  have q2 : decide ((1099511627776 : Int) < (-(p : Int))) = false := decide_eq_false (by omega)
  have q3 : decide ((0 : Int) ≤ -(p : Int)) = false := decide_eq_false (by omega)
  go_enter Tryd.func51, Tryd.ntmps51
  go_wp2_with fail
  refine c1.mono ?_
  rintro r w' ⟨rfl, rfl⟩
  go_wp2_with fail
  refine c2.mono ?_
  rintro r w' ⟨rfl, rfl⟩
  go_wp2_with fail
  refine c3.mono ?_
  rintro r w1 ⟨rfl, hb1⟩
  clear c1 c2 c3
  go_wp2_with fail
  refine (c4 _).mono ?_
  rintro r w2 ⟨rfl, hb2⟩
  clear c4
  go_wp2
  go_ret
  exact ⟨rfl, hb1.trans (hb2.mono hb1.size)⟩
set_option maxRecDepth 100000 in
set_option maxHeartbeats 1000000 in
theorem add_pn_no (z : Int) (p : Nat) (w : World) (ht : Tab w) (hz : ¬ z < 0) (hs : (tx z).size ≤ 6000) (hp : p ≤ 1099511627776) (hp0 : 0 < p) (hlt : p ≤ z.natAbs) :
    Calls Tryd.prog 51 #[.string (tx z), .int .i64 (-(p : Int))] w fun e w' => e = .returned (.string (tx (z - p))) ∧ Below w.heap.size w w' := by
  have c1 := good_any (tx z) w (by omega)
  rw [tx_good] at c1
  have c2 := split_tx z w (by omega)
  rw [decide_eq_false hz] at c2
  have hds := dg_tx_size z
  rw [bA_size] at hds
  have c3 := less_no z.natAbs p w ht hlt hp (by omega)
  have hres : ∀ V : Nat, V + p = z.natAbs → z - p = M.sgn false V := by intro V hV; unfold M.sgn; simp; omega
  have HRES := Lib.hid hres
  generalize bA (M.dg z.natAbs) = D at *
  generalize tx z = A at *
  clear hres hz
  have q1 : decide ((-(p : Int)) < (-1099511627776 : Int)) = false := decide_eq_false (by omega)
  have q2 : decide ((1099511627776 : Int) < (-(p : Int))) = false := decide_eq_false (by omega)
  have q3 : decide ((0 : Int) ≤ -(p : Int)) = false := decide_eq_false (by omega)
  go_enter Tryd.func51, Tryd.ntmps51
  go_wp2_with fail
  refine c1.mono ?_
  rintro r w' ⟨rfl, rfl⟩
  go_wp2_with fail
  refine c2.mono ?_
  rintro r w' ⟨rfl, rfl⟩
  go_wp2_with fail
  refine c3.mono ?_
  rintro r w1 ⟨⟨l, rfl, hll, hla, hlv⟩, hb1⟩
  clear c1 c2 c3
  have c4 := fun W => whole_list false l W (by omega) hla
  rw [← HRES.out _ hlv] at c4
  clear hla hlv
  go_wp2_with fail
  refine (c4 _).mono ?_
  rintro r w2 ⟨rfl, hb2⟩
  clear c4
  go_wp2
  go_ret
  exact ⟨rfl, hb1.trans (hb2.mono hb1.size)⟩

theorem add_yes (z n : Int) (w : World) (ht : Tab w) (hs : (tx z).size ≤ 6000) (h1 : -1099511627776 ≤ n) (h2 : n ≤ 1099511627776) :
    Calls Tryd.prog 51 #[.string (tx z), .int .i64 n] w fun e w' => e = .returned (.string (tx (z + n))) ∧ Below w.heap.size w w' := by
  by_cases hz : z < 0
  · by_cases hn : n ≤ 0
    · obtain ⟨p, rfl⟩ : ∃ p : Nat, n = -(p : Int) := ⟨n.natAbs, by omega⟩
      have := add_nn z p w hz hs (by omega)
      rwa [show z - (p : Int) = z + -(p : Int) by omega] at this
    · obtain ⟨p, rfl⟩ : ∃ p : Nat, n = (p : Int) := ⟨n.natAbs, by omega⟩
      by_cases hlt : z.natAbs < p
      · exact add_np_yes z p w ht hz hs (by omega) (by omega) hlt
      · exact add_np_no z p w ht hz hs (by omega) (by omega) (by omega)
  · by_cases hn : 0 ≤ n
    · obtain ⟨p, rfl⟩ : ∃ p : Nat, n = (p : Int) := ⟨n.natAbs, by omega⟩
      exact add_pp z p w hz hs (by omega)
    · obtain ⟨p, rfl⟩ : ∃ p : Nat, n = -(p : Int) := ⟨n.natAbs, by omega⟩
      rw [show z + -(p : Int) = z - (p : Int) by omega]
      by_cases hlt : z.natAbs < p
      · exact add_pn_yes z p w ht hz hs (by omega) (by omega) hlt
      · exact add_pn_no z p w ht hz hs (by omega) (by omega) (by omega)
set_option maxRecDepth 100000 in
theorem add_no (A : ByteArray) (n : Int) (w : World) (hA : A.size ≤ 6000) (h : M.goodB A.data.toList = false ∨ n < -1099511627776 ∨ 1099511627776 < n) :
    Calls Tryd.prog 51 #[.string A, .int .i64 n] w fun e w' => e = .returned (.string ⟨#[]⟩) ∧ w = w' := by
  have c1 := good_any A w (by omega)
  by_cases hg : M.goodB A.data.toList = true
  · rw [hg] at c1
    by_cases h1 : n < -1099511627776
    · have q1 : decide (n < (-1099511627776 : Int)) = true := decide_eq_true h1
      clear h h1 hg
      go_enter Tryd.func51, Tryd.ntmps51
      go_wp2_with fail
      refine c1.mono ?_
      rintro r w' ⟨rfl, rfl⟩
      go_wp2
      go_ret
      exact ⟨rfl, rfl⟩
    · have h2 : 1099511627776 < n := by
        rcases h with h | h | h
        · rw [hg] at h; cases h
        · exact absurd h h1
        · exact h
      have q1 : decide (n < (-1099511627776 : Int)) = false := decide_eq_false h1
      have q2 : decide ((1099511627776 : Int) < n) = true := decide_eq_true h2
      clear h h1 hg h2
      go_enter Tryd.func51, Tryd.ntmps51
      go_wp2_with fail
      refine c1.mono ?_
      rintro r w' ⟨rfl, rfl⟩
      go_wp2
      go_ret
      exact ⟨rfl, rfl⟩
  · rw [show M.goodB A.data.toList = false by simpa using hg] at c1
    clear hg h
    go_enter Tryd.func51, Tryd.ntmps51
    go_wp2_with fail
    refine c1.mono ?_
    rintro r w' ⟨rfl, rfl⟩
    go_wp2
    go_ret
    exact ⟨rfl, rfl⟩
end Go.Proofs.YtocegiffbgnogaaDoor
