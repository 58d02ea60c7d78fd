/- Walks: float11's at, isDigit. -/
import Derived.Test.YtiainpdfidgcfaaDoorFa
set_option linter.unusedVariables false
namespace Go.Proofs.YtiainpdfidgcfaaDoor
open Go.RowKit

set_option maxRecDepth 100000 in
theorem fat_in (s : ByteArray) (i : Nat) (w : World) (h : i < s.size) (hs : s.size ≤ 1000000) :
    Calls Tryd.prog 26 #[.string s, .int .i64 i] w fun e w' => e = .returned (.int .i64 (s[i].toNat : Nat)) ∧ w = w' := by
  have hd : decide (i < s.size) = true := by simpa using h
  have hc : s[i].toNat < 256 := s[i].toNat_lt
  go_enter Tryd.func26, Tryd.ntmps26
  go_wp2
  go_ret
  exact ⟨ret_int (by first | rfl | (unfold wrap64; omega)), rfl⟩
set_option maxRecDepth 100000 in
theorem fat_out (s : ByteArray) (i : Nat) (w : World) (h : ¬ i < s.size) (hs : s.size ≤ 1000000) :
    Calls Tryd.prog 26 #[.string s, .int .i64 i] w fun e w' => e = .returned (.int .i64 (-1)) ∧ w = w' := by
  have hd : decide (i < s.size) = false := by simpa using h
  go_enter Tryd.func26, Tryd.ntmps26
  go_wp2
  go_ret
  exact ⟨rfl, rfl⟩
set_option maxRecDepth 100000 in
theorem fdig_end (b : Nat) (w : World) (hb : b ≤ 10) : Calls Tryd.prog 27 #[.int .i64 (-1), .int .i64 b] w fun e w' => e = .returned (.bool false) ∧ w = w' := by
  go_enter Tryd.func27, Tryd.ntmps27
  go_wp2
  go_ret
  exact ⟨rfl, rfl⟩
theorem dv_less {c : UInt8} {b : Nat} (hb : b ≤ 10) : M.dv c < b ↔ 48 ≤ c.toNat ∧ c.toNat < 48 + b := by
  unfold M.dv
  split
  · omega
  · split
    · omega
    · split <;> omega
set_option maxRecDepth 100000 in
theorem fdig_any (c : UInt8) (b : Nat) (w : World) (hb : b ≤ 10) : Calls Tryd.prog 27 #[.int .i64 (c.toNat : Nat), .int .i64 b] w fun e w' => e = .returned (.bool (decide (M.dv c < b))) ∧ w = w' := by
  have hc : c.toNat < 256 := c.toNat_lt
  rw [show decide (M.dv c < b) = decide (48 ≤ c.toNat ∧ c.toNat < 48 + b) from decide_eq_decide.2 (dv_less hb)]
  generalize c.toNat = n at *
  by_cases h1 : 48 ≤ n
  · have hd : decide ((48 : Int) ≤ (n : Int)) = true := by simp; omega
    go_enter Tryd.func27, Tryd.ntmps27
    go_wp2
    go_ret
    refine ⟨ret_bool ?_, rfl⟩
    rw [Bool.eq_iff_iff]
    simp
    omega
  · have hd : decide ((48 : Int) ≤ (n : Int)) = false := by simp; omega
    go_enter Tryd.func27, Tryd.ntmps27
    go_wp2
    go_ret
    refine ⟨ret_bool ?_, rfl⟩
    symm
    simp
    omega
end Go.Proofs.YtiainpdfidgcfaaDoor
