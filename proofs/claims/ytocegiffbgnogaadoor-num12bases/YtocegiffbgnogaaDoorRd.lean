/- Walks of targumref4's Base and MulAdd; that both sides answer the same. Walks of targumref4's MulAdd, Text, compare; that both sides' MulAdd answer the same. The law BigTells: its walk. -/
import Derived.Test.YtocegiffbgnogaaDoorRc
set_option linter.unusedVariables false
namespace Go.Proofs.YtocegiffbgnogaaDoor
open Go.RowKit

theorem tx_nat_list (n : Nat) : (tx (n : Int)).data.toList = M.dg n := by rw [tx_list, M.txt_nat]
theorem rmul_nat (a m k : Nat) (r : ByteArray) (hr : r = tx ((a * m + k : Nat) : Int)) (ha : (tx (a : Int)).size ≤ 10000) (hm : m ≤ 1099511627776) (hk : k ≤ 1099511627776) (w : World) :
    Calls Tryd.prog 32 #[.string (tx a), .int .i64 m, .int .i64 k] w fun e w' => e = .returned (.string r) ∧ Below w.heap.size w w' := by
  have := rmulAdd_any (tx (a : Int)) m k w ha (tx_pos _) (by rw [tx_nat_list]; exact M.dg_all a) hm hk
  rw [hr]
  rwa [tx_nat_list, M.dg_val] at this
def tAt (b : Nat) (l : List UInt8) (i : Nat) : ByteArray := tx ((M.val b (l.take i) : Nat) : Int)
theorem tAt_size (b : Nat) (l : List UInt8) (i : Nat) (hb : b ≤ 16) (hl : l.length ≤ 100) (ha : M.allD b (l.take i) = true) : (tAt b l i).size ≤ 10000 := by
  have h1 := M.val_lt b _ ha
  have h2 : b ^ (l.take i).length ≤ 16 ^ 100 := Nat.le_trans (Nat.pow_le_pow_left hb _) (Nat.pow_le_pow_right (by omega) (by rw [List.length_take]; omega))
  have h3 : (16 : Nat) ^ 100 ≤ 10 ^ 130 := by decide +kernel
  exact Nat.le_trans (tx_len _ 130 (by omega) (by omega)) (by omega)

end Go.Proofs.YtocegiffbgnogaaDoor

namespace Go.Proofs.YtocegiffbgnogaaDoor
open Go.RowKit

theorem good_tx {A : ByteArray} (h : M.goodB A.data.toList = true) : ∃ z : Int, A = tx z := by
  obtain ⟨z, hz⟩ := M.txt_of_good h
  exact ⟨z, eq_bA hz⟩
set_option maxRecDepth 100000 in
set_option maxHeartbeats 1000000 in
theorem text_any (N : Nat) (w : World) (hN : N ≤ 1099511627776) :
    Calls Tryd.prog 16 #[.int .i64 N] w fun e w' => e = .returned (.string (bA (M.dg N))) ∧ Below w.heap.size w w' := by
  have hlen : (M.dg N).length ≤ 13 := M.dg_len_le N 13 (by omega) (by omega)
  obtain ⟨L, hL⟩ : ∃ L, M.dg N = L := ⟨_, rfl⟩
  rw [hL] at hlen ⊢
  have HL := Lib.hid hL
  clear hL
  go_enter Tryd.func16, Tryd.ntmps16
  go_wp2
  go_loopw [0, 3] (fun nv sv wr => ∃ (n : Nat) (h : List UInt8) (H : ByteArray), nv = .int .i64 n ∧ sv = .string H ∧ n ≤ 1099511627776 ∧ H.size ≤ 13 ∧ Hid (H = bA h) ∧ Hid (M.dg n ++ h = L) ∧ Below w.heap.size w wr) (fun nv _ _ => (intOf nv).toNat)
  case atStart => exact ⟨N, [], ⟨#[]⟩, rfl, rfl, hN, by decide, rfl, by show _ = _; rw [List.append_nil]; exact HL.out, Below.refl _ _⟩
  case round =>
    obtain ⟨n, h, H, rfl, rfl, hn, hH, HH, hst, hbw⟩ := hrel
    have hsz := hbw.size
    have k3 := fun W => one_conv W (48 + (n : Int) % 10) (dg1 n) (dig_cast n)
    have hXs : (bA [dg1 n]).size = 1 := bA_size _
    have hXH : bA [dg1 n] ++ H = bA (dg1 n :: h) := by rw [HH.out]; exact bA_append [dg1 n] h
    have HXH := Lib.hid hXH
    have hXz := Lib.hid (append_sz (bA [dg1 n]) H)
    have hHs : H.size = h.length := by rw [HH.out, bA_size]
    have hhl : h.length + 1 ≤ 13 := by
      have := congrArg List.length hst.out
      rw [List.length_append] at this
      have := M.dg_len_pos n
      omega
    clear hXH
    generalize bA [dg1 n] = X at *
    by_cases hn10 : n < 10
    · have e0 : (n : Int) / 10 = 0 := by omega
      have hfin : dg1 n :: h = L := by rw [← hst.out, M.dg_small hn10]; unfold dg1; rw [Nat.mod_eq_of_lt hn10]; rfl
      rw [hfin] at HXH
      clear hst hfin
      go_wp2
      go_ret
      exact ⟨ret_str HXH.out, hbw.alloc hsz _⟩
    · have e0 : ¬ (n : Int) / 10 = 0 := by omega
      have hdd : ((n : Int) / 10 == 0) = false := by simp; omega
      have hfin : M.dg (n / 10) ++ dg1 n :: h = L := by rw [← hst.out, M.dg_big hn10, List.append_assoc]; rfl
      have HF := Lib.hid hfin
      clear hst hfin e0
      go_wp2
      go_roundw
      case rel => exact ⟨n / 10, dg1 n :: h, X ++ H, by rw [cast_div10], rfl, by omega, by rw [hXz.out]; omega, HXH.out, HF.out, hbw.alloc hsz _⟩
      case measure => simp [intOf]; omega

end Go.Proofs.YtocegiffbgnogaaDoor

namespace Go.Proofs.YtocegiffbgnogaaDoor
open Go.RowKit

/-- Both sides' Norm answer the same: a whole number, or nothing. -/
theorem norm_agree (neg : Bool) (a : ByteArray) (ha : a.size ≤ 80) : ∃ R : ByteArray, R.size ≤ 81 ∧ M.goodB R.data.toList = !R.toList.isEmpty ∧ (∀ w, Calls Tryd.prog 21 #[.bool neg, .string a] w fun e w' => e = .returned (.string R) ∧ Below w.heap.size w w') ∧ (∀ w, Calls Tryd.prog 17 #[.bool neg, .string a] w fun e w' => e = .returned (.string R) ∧ Below w.heap.size w w') := by
  by_cases h : M.okD 10 a.data.toList = true
  · refine ⟨tx (M.sgn neg (M.val 10 a.data.toList)), ?_, ?_, fun w => norm_yes neg a w (by omega) h, fun w => (rnorm_yes neg a w (by omega) h).mono (fun e w' h => ⟨h.1, h.2 ▸ Below.refl _ _⟩)⟩
    · refine tx_len _ 80 (by omega) ?_
      rw [sgn_abs]
      have h1 := M.val_lt 10 _ ((M.okD_iff _ _).1 h).2
      rw [← sz_list] at h1
      have h2 : 10 ^ a.size ≤ 10 ^ 80 := Nat.pow_le_pow_right (by omega) ha
      omega
    · rw [tx_good, ByteArray.toList_eq, tx_list]
      have := M.txt_ne (M.sgn neg (M.val 10 a.data.toList))
      cases hh : M.txt (M.sgn neg (M.val 10 a.data.toList))
      · exact absurd hh this
      · rfl
  · have h' : M.okD 10 a.data.toList = false := by simpa using h
    refine ⟨⟨#[]⟩, by decide, by rw [ByteArray.toList_eq]; rfl, fun w => (norm_no neg a w (by omega) h').mono (fun e w' h => ⟨h.1, h.2 ▸ Below.refl _ _⟩), fun w => (rnorm_no neg a w (by omega) h').mono (fun e w' h => ⟨h.1, h.2 ▸ Below.refl _ _⟩)⟩
theorem good_agree (a : ByteArray) (ha : a.size ≤ 100) : ∃ R : Bool, R = M.goodB a.data.toList ∧ (∀ w, Calls Tryd.prog 49 #[.string a] w fun e w' => e = .returned (.bool R) ∧ w = w') ∧ (∀ w, Calls Tryd.prog 31 #[.string a] w fun e w' => e = .returned (.bool R) ∧ w = w') :=
  ⟨_, rfl, fun w => good_any a w (by omega), fun w => rgood_any a w (by omega)⟩

end Go.Proofs.YtocegiffbgnogaaDoor
