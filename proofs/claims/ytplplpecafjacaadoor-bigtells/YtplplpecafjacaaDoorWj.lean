/- Walk: big.Compare. -/
import Derived.Test.YtplplpecafjacaaDoorWi
set_option linter.unusedVariables false
namespace Go.Proofs.YtplplpecafjacaaDoor
open Go.RowKit

set_option maxRecDepth 100000 in
set_option maxHeartbeats 1000000 in
theorem compare_no (a b : ByteArray) (w : World) (ha : a.size ≤ 100000) (hb : b.size ≤ 100000) (h : M.goodB a.data.toList = false ∨ M.goodB b.data.toList = false) :
    Calls Tryd.prog 20 #[.string a, .string b] w fun e w' => e = .returned (.int .i64 0) ∧ w = w' := by
  have c1 := good_any a w (by omega)
  have c2 := good_any b w (by omega)
  by_cases h1 : M.goodB a.data.toList = true
  · have h2 : M.goodB b.data.toList = false := by
      rcases h with h | h
      · rw [h1] at h; cases h
      · exact h
    rw [h1] at c1
    rw [h2] at c2
    clear h h1 h2
    go_enter Tryd.func20, Tryd.ntmps20
    go_wp2_with fail
    refine c1.mono ?_
    rintro r w' ⟨rfl, rfl⟩
    go_wp2_with fail
    refine c2.mono ?_
    rintro r w' ⟨rfl, rfl⟩
    go_wp2
    go_ret
    exact ⟨rfl, rfl⟩
  · rw [show M.goodB a.data.toList = false by simpa using h1] at c1
    clear h h1
    go_enter Tryd.func20, Tryd.ntmps20
    go_wp2_with fail
    refine c1.mono ?_
    rintro r w' ⟨rfl, rfl⟩
    go_wp2
    go_ret
    exact ⟨rfl, rfl⟩
theorem split_tx (x : Int) (w : World) (hx : (tx x).size ≤ 100000) :
    Calls Tryd.prog 24 #[.string (tx x)] w fun e w' => e = .returned (.tuple #[.bool (decide (x < 0)), .string (bA (M.dg x.natAbs))]) ∧ w = w' := by
  have := split_any (tx x) w (by omega)
  rwa [tx_list, M.txt_isNeg, M.txt_unsign] at this
theorem cmpD_any (x y : Nat) (w : World) (hx : (bA (M.dg x)).size ≤ 1000000) (hy : (bA (M.dg y)).size ≤ 1000000) :
    Calls Tryd.prog 39 #[.string (bA (M.dg x)), .string (bA (M.dg y))] w fun e w' => e = .returned (.int .i64 (M.cmpZ x y)) ∧ Below w.heap.size w w' := by
  have := compareDigits_any (bA (M.dg x)) (bA (M.dg y)) w hx hy
  rwa [bA_toList, bA_toList, M.cmpS_dg] at this
theorem dg_tx_size (x : Int) : (bA (M.dg x.natAbs)).size ≤ (tx x).size := by
  rw [bA_size, tx_size]
  unfold M.txt
  split
  · simp
  · rw [show x.toNat = x.natAbs by omega]; omega
theorem cmp_sides (x y : Int) : M.cmpZ x y = if x < 0 then (if y < 0 then M.cmpZ (y.natAbs : Nat) (x.natAbs : Nat) else -1) else (if y < 0 then 1 else M.cmpZ (x.natAbs : Nat) (y.natAbs : Nat)) := by
  have := M.cmp_txt x y
  rwa [M.cmpS_dg, M.cmpS_dg] at this
set_option maxRecDepth 100000 in
set_option maxHeartbeats 1000000 in
theorem compare_yes (x y : Int) (w : World) (hx : (tx x).size ≤ 100000) (hy : (tx y).size ≤ 100000) :
    Calls Tryd.prog 20 #[.string (tx x), .string (tx y)] w fun e w' => e = .returned (.int .i64 (M.cmpZ x y)) ∧ Below w.heap.size w w' := by
  have c1 := good_any (tx x) w (by omega)
  have c2 := good_any (tx y) w (by omega)
  rw [tx_good] at c1 c2
  have c3 := split_tx x w hx
  have c4 := split_tx y w hy
  have c5 := cmpD_any x.natAbs y.natAbs w (by have := dg_tx_size x; omega) (by have := dg_tx_size y; omega)
  have c6 := cmpD_any y.natAbs x.natAbs w (by have := dg_tx_size y; omega) (by have := dg_tx_size x; omega)
  rw [cmp_sides]
  generalize M.cmpZ (x.natAbs : Nat) (y.natAbs : Nat) = P at *
  generalize M.cmpZ (y.natAbs : Nat) (x.natAbs : Nat) = Q at *
  generalize bA (M.dg x.natAbs) = D at *
  generalize bA (M.dg y.natAbs) = E at *
  generalize tx x = A at *
  generalize tx y = B at *
  by_cases h1 : x < 0
  · rw [decide_eq_true h1] at c3
    rw [if_pos h1]
    by_cases h2 : y < 0
    · rw [decide_eq_true h2] at c4
      rw [if_pos h2]
      clear h1 h2 c5
      go_enter Tryd.func20, Tryd.ntmps20
      go_wp2_with fail
      refine c1.mono ?_
      rintro r w' ⟨rfl, rfl⟩
      go_wp2_with fail
      refine c2.mono ?_
      rintro r w' ⟨rfl, rfl⟩
      go_wp2_with fail
      refine c3.mono ?_
      rintro r w' ⟨rfl, rfl⟩
      go_wp2_with fail
      refine c4.mono ?_
      rintro r w' ⟨rfl, rfl⟩
      go_wp2_with fail
      refine c6.mono ?_
      rintro r w' ⟨rfl, hb⟩
      go_wp2
      go_ret
      exact ⟨rfl, hb⟩
    · rw [decide_eq_false h2] at c4
      rw [if_neg h2]
      clear h1 h2 c5 c6
      go_enter Tryd.func20, Tryd.ntmps20
      go_wp2_with fail
      refine c1.mono ?_
      rintro r w' ⟨rfl, rfl⟩
      go_wp2_with fail
      refine c2.mono ?_
      rintro r w' ⟨rfl, rfl⟩
      go_wp2_with fail
      refine c3.mono ?_
      rintro r w' ⟨rfl, rfl⟩
      go_wp2_with fail
      refine c4.mono ?_
      rintro r w' ⟨rfl, rfl⟩
      go_wp2
      go_ret
      exact ⟨rfl, Below.refl _ _⟩
  · rw [decide_eq_false h1] at c3
    rw [if_neg h1]
    by_cases h2 : y < 0
    · rw [decide_eq_true h2] at c4
      rw [if_pos h2]
      clear h1 h2 c5 c6
      go_enter Tryd.func20, Tryd.ntmps20
      go_wp2_with fail
      refine c1.mono ?_
      rintro r w' ⟨rfl, rfl⟩
      go_wp2_with fail
      refine c2.mono ?_
      rintro r w' ⟨rfl, rfl⟩
      go_wp2_with fail
      refine c3.mono ?_
      rintro r w' ⟨rfl, rfl⟩
      go_wp2_with fail
      refine c4.mono ?_
      rintro r w' ⟨rfl, rfl⟩
      go_wp2
      go_ret
      exact ⟨rfl, Below.refl _ _⟩
    · rw [decide_eq_false h2] at c4
      rw [if_neg h2]
      clear h1 h2 c6
      go_enter Tryd.func20, Tryd.ntmps20
      go_wp2_with fail
      refine c1.mono ?_
      rintro r w' ⟨rfl, rfl⟩
      go_wp2_with fail
      refine c2.mono ?_
      rintro r w' ⟨rfl, rfl⟩
      go_wp2_with fail
      refine c3.mono ?_
      rintro r w' ⟨rfl, rfl⟩
      go_wp2_with fail
      refine c4.mono ?_
      rintro r w' ⟨rfl, rfl⟩
      go_wp2_with fail
      refine c5.mono ?_
      rintro r w' ⟨rfl, hb⟩
      go_wp2
      go_ret
      exact ⟨rfl, hb⟩
end Go.Proofs.YtplplpecafjacaaDoor
