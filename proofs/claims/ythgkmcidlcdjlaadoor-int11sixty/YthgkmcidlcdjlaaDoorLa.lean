/- The law BigOrder: its walk. -/
import Derived.Test.YthgkmcidlcdjlaaDoorWm
set_option linter.unusedVariables false
namespace Go.Proofs.YthgkmcidlcdjlaaDoor
open Go.RowKit

theorem norm_list (neg : Bool) (l : List UInt8) (w : World) (h : M.okD 10 l = true) (hl : l.length ≤ 1000) :
    Calls Tryd.prog 17 #[.bool neg, .string (bA l)] w fun e w' => e = .returned (.string (tx (M.sgn neg (M.val 10 l)))) ∧ Below w.heap.size w w' := by
  have := norm_yes neg (bA l) w (by rw [bA_size]; omega) (by rw [bA_toList]; exact h)
  rwa [bA_toList] at this
theorem val_zeros (k : Nat) (l : List UInt8) : M.val 10 (List.replicate k 48 ++ l) = M.val 10 l := by
  rw [M.val_append]
  have : M.val 10 (List.replicate k 48) = 0 := by
    induction k with
    | zero => rfl
    | succ k ih => rw [List.replicate_succ', M.val_snoc, ih]; decide
  rw [this, Nat.zero_mul, Nat.zero_add]
theorem ok_zeros (k : Nat) (l : List UInt8) (h : M.okD 10 l = true) : M.okD 10 (List.replicate k 48 ++ l) = true := by
  rw [M.okD_iff] at h ⊢
  refine ⟨by simp [h.1], ?_⟩
  rw [M.allD_append, h.2, Bool.and_true, M.allD_iff]
  intro c hc
  rw [(List.mem_replicate.1 hc).2]; decide
theorem tx_len (z : Int) (k : Nat) (hk : 0 < k) (h : z.natAbs < 10 ^ k) : (tx z).size ≤ k + 1 := by
  rw [tx_size]; exact M.txt_len z k hk h
theorem tx_inj {a b : Int} (h : tx a = tx b) : a = b := by
  unfold tx at h
  exact M.txt_inj (bA_inj.1 h)
theorem tx_beq (a b : Int) : ((tx a).toList == (tx b).toList) = decide (a = b) := by
  rw [Bool.eq_iff_iff, decide_eq_true_eq, beq_iff_eq, ByteArray.toList_eq, ByteArray.toList_eq]
  constructor
  · intro h
    apply M.txt_inj
    rwa [tx_list, tx_list] at h
  · intro h; rw [h]
theorem sgn_not (neg : Bool) (n : Nat) : M.sgn (!neg) n = -M.sgn neg n := by cases neg <;> simp [M.sgn]
theorem sgn_abs (neg : Bool) (n : Nat) : (M.sgn neg n).natAbs = n := by cases neg <;> simp [M.sgn]
theorem allD_cons {c : UInt8} {r : List UInt8} {k : Nat} (h : M.dv c = k) (hk : k < 10) (hr : M.allD 10 r = true) : M.allD 10 (c :: r) = true := by
  have := M.allD_append 10 [c] r
  rw [hr, Bool.and_true] at this
  rw [show c :: r = [c] ++ r from rfl, this]
  simp [M.allD, h, hk]
end Go.Proofs.YthgkmcidlcdjlaaDoor
