/- Walks of big.Base, MulAdd. -/
import Derived.Test.YtomgbcgaokebjaaDoorWf
set_option linter.unusedVariables false
namespace Go.Proofs.YtomgbcgaokebjaaDoor
open Go.RowKit

theorem wr_bA (ps : List Nat) (hs : M.Small ps) : M.allD 10 (bA (M.wr ps)).data.toList = true ∧ M.val 10 (bA (M.wr ps)).data.toList = M.pv ps ∧ (bA (M.wr ps)).size = 7 * ps.length := by
  rw [bA_toList, bA_size, M.wr_length]
  exact ⟨(M.wr_ok ps hs).1, (M.wr_ok ps hs).2, rfl⟩

/-- The last two calls: written, then whole. -/
theorem ends_any (neg : Bool) (ps : List Nat) (w : World) (hs : M.Small ps) (hn : ps.length ≤ 14000) :
    Calls Tryd.prog 35 #[.bool neg, .string (bA (M.wr ps))] w fun e w' => e = .returned (.string (tx (M.sgn neg (M.pv ps)))) ∧ Below w.heap.size w w' := by
  obtain ⟨h1, h2, h3⟩ := wr_bA ps hs
  have := whole_any neg (bA (M.wr ps)) w (by omega) h1
  rwa [h2] at this

theorem tx_good (z : Int) : M.goodB (tx z).data.toList = true := by rw [tx_list]; exact M.good_txt z
theorem tx_pos (z : Int) : 0 < (tx z).size := by rw [tx_size]; exact List.length_pos_iff.2 (M.txt_ne z)
theorem tx_0 (z : Int) : ((tx z)[0]'(tx_pos z) = 45) ↔ z < 0 := by
  have h := M.txt_isNeg z
  have hl := drop_cons (tx z) 0 (tx_pos z)
  rw [List.drop_zero, tx_list] at hl
  unfold M.isNeg at h
  rw [hl] at h
  simp at h
  exact h

theorem head_not (A : ByteArray) (h0 : 0 < A.size) (h : M.isNeg A.data.toList = false) : ((A[0].toNat : Int) == 45) = false := by
  have hl := drop_cons A 0 h0
  rw [List.drop_zero] at hl
  rw [hl] at h
  have h1 : ¬ A[0] = 45 := by intro e; rw [e] at h; simp [M.isNeg] at h
  simp only [beq_eq_false_iff_ne]
  intro e
  have e' : (A[0].toNat : Int) = ((45 : Nat) : Int) := e
  exact h1 (UInt8.toNat_inj.1 (Int.ofNat_inj.1 e'))
theorem head_is (A : ByteArray) (h0 : 0 < A.size) (h : M.isNeg A.data.toList = true) : A[0].toNat = 45 := by
  have hl := drop_cons A 0 h0
  rw [List.drop_zero] at hl
  rw [hl] at h
  have h1 : A[0] = 45 := by simpa [M.isNeg] using h
  rw [h1]; rfl

end Go.Proofs.YtomgbcgaokebjaaDoor
