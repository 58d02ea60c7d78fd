/- Walks of targumref4's Base and MulAdd; that both sides answer the same. -/
import Derived.Test.YtomgbcgaokebjaaDoorRc
set_option linter.unusedVariables false
namespace Go.Proofs.YtomgbcgaokebjaaDoor
open Go.RowKit

theorem tx_nat_list (n : Nat) : (tx (n : Int)).data.toList = M.dg n := by rw [tx_list, M.txt_nat]
theorem rmul_nat (a m k : Nat) (r : ByteArray) (hr : r = tx ((a * m + k : Nat) : Int)) (ha : (tx (a : Int)).size ≤ 10000) (hm : m ≤ 1099511627776) (hk : k ≤ 1099511627776) (w : World) :
    Calls Tryd.prog 30 #[.string (tx a), .int .i64 m, .int .i64 k] w fun e w' => e = .returned (.string r) ∧ Below w.heap.size w w' := by
  have := rmulAdd_any (tx (a : Int)) m k w ha (tx_pos _) (by rw [tx_nat_list]; exact M.dg_all a) hm hk
  rw [hr]
  rwa [tx_nat_list, M.dg_val] at this
def tAt (b : Nat) (l : List UInt8) (i : Nat) : ByteArray := tx ((M.val b (l.take i) : Nat) : Int)
theorem tAt_size (b : Nat) (l : List UInt8) (i : Nat) (hb : b ≤ 16) (hl : l.length ≤ 100) (ha : M.allD b (l.take i) = true) : (tAt b l i).size ≤ 10000 := by
  have h1 := M.val_lt b _ ha
  have h2 : b ^ (l.take i).length ≤ 16 ^ 100 := Nat.le_trans (Nat.pow_le_pow_left hb _) (Nat.pow_le_pow_right (by omega) (by rw [List.length_take]; omega))
  have h3 : (16 : Nat) ^ 100 ≤ 10 ^ 130 := by decide +kernel
  exact Nat.le_trans (tx_len _ 130 (by omega) (by omega)) (by omega)

end Go.Proofs.YtomgbcgaokebjaaDoor
