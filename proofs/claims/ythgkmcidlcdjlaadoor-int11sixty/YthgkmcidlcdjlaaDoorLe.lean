/- The law BigBases: its walk. -/
import Derived.Test.YthgkmcidlcdjlaaDoorRe
import Derived.Test.YthgkmcidlcdjlaaDoorLd
import Derived.Laws.BitsAllLaws
set_option linter.unusedVariables false
namespace Go.Proofs.YthgkmcidlcdjlaaDoor
open Go.RowKit

/-- The last i digits of n to the base B. -/
def dl (B : Nat) (f : Nat → UInt8) (n : Nat) : Nat → List UInt8
  | 0 => []
  | i + 1 => f (n / B ^ i % B) :: dl B f n i
theorem dl_length (B : Nat) (f : Nat → UInt8) (n i : Nat) : (dl B f n i).length = i := by
  induction i with
  | zero => rfl
  | succ i ih => rw [dl, List.length_cons, ih]
theorem dl_ok (B : Nat) (f : Nat → UInt8) (n i : Nat) (hB : 0 < B) (hf : ∀ v, v < B → M.dv (f v) = v) : M.allD B (dl B f n i) = true ∧ M.val B (dl B f n i) = n % B ^ i := by
  induction i with
  | zero => exact ⟨rfl, by simp [dl, M.val, Nat.mod_one]⟩
  | succ i ih =>
    have hd := hf (n / B ^ i % B) (Nat.mod_lt _ hB)
    constructor
    · rw [M.allD_iff, dl]
      intro c hc
      rcases List.mem_cons.1 hc with rfl | hc
      · rw [hd]; exact Nat.mod_lt _ hB
      · exact (M.allD_iff _ _).1 ih.1 c hc
    · rw [dl, M.val_cons, hd, dl_length, ih.2, Nat.mod_pow_succ, Nat.mul_comm, Nat.add_comm]
def d2 (v : Nat) : UInt8 := UInt8.ofNat (48 + v)
def d16 (up : Bool) (v : Nat) : UInt8 := if v < 10 then UInt8.ofNat (48 + v) else if up = true then UInt8.ofNat (55 + v) else UInt8.ofNat (87 + v)
theorem d2_dv (v : Nat) (h : v < 8) : M.dv (d2 v) = v := M.dv_dig v (by omega)
theorem u8_nat (k : Nat) (h : k < 256) : (UInt8.ofNat k).toNat = k := by simp; omega
theorem d16_dv (up : Bool) (v : Nat) (h : v < 16) : M.dv (d16 up v) = v := by
  unfold d16
  split
  · exact M.dv_dig v (by omega)
  · split
    · unfold M.dv
      rw [u8_nat _ (by omega), if_neg (by omega), if_neg (by omega), if_pos (by omega)]; omega
    · unfold M.dv
      rw [u8_nat _ (by omega), if_neg (by omega), if_pos (by omega)]; omega
def dAt (B : Nat) (f : Nat → UInt8) (n i : Nat) : ByteArray := bA (dl B f n i)
theorem dAt_size (B : Nat) (f : Nat → UInt8) (n i : Nat) : (dAt B f n i).size = i := by unfold dAt; rw [bA_size, dl_length]
theorem dAt_succ (B : Nat) (f : Nat → UInt8) (n i : Nat) : bA [f (n / B ^ i % B)] ++ dAt B f n i = dAt B f n (i + 1) := by
  unfold dAt; rw [bA_append]; rfl
theorem base_dAt (B : Nat) (f : Nat → UInt8) (n i : Nat) (hB : B = 2 ∨ B = 8 ∨ B = 16) (hf : ∀ v, v < B → M.dv (f v) = v) (hi : 0 < i) (hi2 : i ≤ 64) (hn : n < B ^ i) (w : World) :
    Calls Tryd.prog 33 #[.string (dAt B f n i), .int .i64 B] w fun r w' => r = .returned (.string (tx (n : Int))) ∧ Below w.heap.size w w' := by
  obtain ⟨h1, h2⟩ := dl_ok B f n i (by omega) hf
  have := base_yes (dAt B f n i) B w hB (by rw [dAt_size]; omega) (by unfold dAt; rw [bA_toList, M.okD_iff]; exact ⟨by intro e; have := dl_length B f n i; rw [e] at this; simp at this; omega, h1⟩)
  rwa [show (dAt B f n i).data.toList = dl B f n i from bA_toList _, h2, Nat.mod_eq_of_lt hn] at this
theorem shr_is (n k : Nat) : (n : Int) / 2 ^ k = ((n / 2 ^ k : Nat) : Int) := by simp
theorem mask_is (q m k : Nat) (hq : q < 18446744073709551616) (hk : k ≤ 64) (hm : m + 1 = 2 ^ k) : Go.bits .and .u64 (q : Int) (m : Int) = ((q % 2 ^ k : Nat) : Int) := by
  have h : 2 ^ k ≤ 2 ^ 64 := Nat.pow_le_pow_right (by omega) hk
  rw [u64_and_nat q m hq (by omega), show m = 2 ^ k - 1 by omega, Nat.and_two_pow_sub_one_eq_mod]

end Go.Proofs.YthgkmcidlcdjlaaDoor
