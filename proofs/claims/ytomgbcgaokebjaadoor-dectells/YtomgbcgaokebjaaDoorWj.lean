/- Walk: big.Compare. -/
import Derived.Test.YtomgbcgaokebjaaDoorWi
set_option linter.unusedVariables false
namespace Go.Proofs.YtomgbcgaokebjaaDoor
open Go.RowKit

theorem split_tx (x : Int) (w : World) (hx : (tx x).size ≤ 100000) :
    Calls Tryd.prog 36 #[.string (tx x)] w fun e w' => e = .returned (.tuple #[.bool (decide (x < 0)), .string (bA (M.dg x.natAbs))]) ∧ w = w' := by
  have := split_any (tx x) w (by omega)
  rwa [tx_list, M.txt_isNeg, M.txt_unsign] at this
theorem cmpD_any (x y : Nat) (w : World) (hx : (bA (M.dg x)).size ≤ 1000000) (hy : (bA (M.dg y)).size ≤ 1000000) :
    Calls Tryd.prog 55 #[.string (bA (M.dg x)), .string (bA (M.dg y))] w fun e w' => e = .returned (.int .i64 (M.cmpZ x y)) ∧ Below w.heap.size w w' := by
  have := compareDigits_any (bA (M.dg x)) (bA (M.dg y)) w hx hy
  rwa [bA_toList, bA_toList, M.cmpS_dg] at this
theorem dg_tx_size (x : Int) : (bA (M.dg x.natAbs)).size ≤ (tx x).size := by
  rw [bA_size, tx_size]
  unfold M.txt
  split
  · simp
  · rw [show x.toNat = x.natAbs by omega]; omega
theorem cmp_sides (x y : Int) : M.cmpZ x y = if x < 0 then (if y < 0 then M.cmpZ (y.natAbs : Nat) (x.natAbs : Nat) else -1) else (if y < 0 then 1 else M.cmpZ (x.natAbs : Nat) (y.natAbs : Nat)) := by
  have := M.cmp_txt x y
  rwa [M.cmpS_dg, M.cmpS_dg] at this
end Go.Proofs.YtomgbcgaokebjaaDoor
