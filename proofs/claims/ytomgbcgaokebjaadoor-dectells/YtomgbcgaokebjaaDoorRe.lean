/- Walks of targumref4's MulAdd, Text, compare; that both sides' MulAdd answer the same. -/
import Derived.Test.YtomgbcgaokebjaaDoorRd
set_option linter.unusedVariables false
namespace Go.Proofs.YtomgbcgaokebjaaDoor
open Go.RowKit

theorem good_tx {A : ByteArray} (h : M.goodB A.data.toList = true) : ∃ z : Int, A = tx z := by
  obtain ⟨z, hz⟩ := M.txt_of_good h
  exact ⟨z, eq_bA hz⟩
set_option maxRecDepth 100000 in
set_option maxHeartbeats 1000000 in
theorem text_any (N : Nat) (w : World) (hN : N ≤ 1099511627776) :
    Calls Tryd.prog 31 #[.int .i64 N] w fun e w' => e = .returned (.string (bA (M.dg N))) ∧ Below w.heap.size w w' := by
  have hlen : (M.dg N).length ≤ 13 := M.dg_len_le N 13 (by omega) (by omega)
  obtain ⟨L, hL⟩ : ∃ L, M.dg N = L := ⟨_, rfl⟩
  rw [hL] at hlen ⊢
  have HL := Lib.hid hL
  clear hL
  go_enter Tryd.func31, Tryd.ntmps31
  go_wp2
  go_loopw [0, 3] (fun nv sv wr => ∃ (n : Nat) (h : List UInt8) (H : ByteArray), nv = .int .i64 n ∧ sv = .string H ∧ n ≤ 1099511627776 ∧ H.size ≤ 13 ∧ Hid (H = bA h) ∧ Hid (M.dg n ++ h = L) ∧ Below w.heap.size w wr) (fun nv _ _ => (intOf nv).toNat)
  case atStart => exact ⟨N, [], ⟨#[]⟩, rfl, rfl, hN, by decide, rfl, by show _ = _; rw [List.append_nil]; exact HL.out, Below.refl _ _⟩
  case round =>
    obtain ⟨n, h, H, rfl, rfl, hn, hH, HH, hst, hbw⟩ := hrel
    have hsz := hbw.size
    have k3 := fun W => one_conv W (48 + (n : Int) % 10) (dg1 n) (dig_cast n)
    have hXs : (bA [dg1 n]).size = 1 := bA_size _
    have hXH : bA [dg1 n] ++ H = bA (dg1 n :: h) := by rw [HH.out]; exact bA_append [dg1 n] h
    have HXH := Lib.hid hXH
    have hXz := Lib.hid (append_sz (bA [dg1 n]) H)
    have hHs : H.size = h.length := by rw [HH.out, bA_size]
    have hhl : h.length + 1 ≤ 13 := by
      have := congrArg List.length hst.out
      rw [List.length_append] at this
      have := M.dg_len_pos n
      omega
    clear hXH
    generalize bA [dg1 n] = X at *
    by_cases hn10 : n < 10
    · have e0 : (n : Int) / 10 = 0 := by omega
      have hfin : dg1 n :: h = L := by rw [← hst.out, M.dg_small hn10]; unfold dg1; rw [Nat.mod_eq_of_lt hn10]; rfl
      rw [hfin] at HXH
      clear hst hfin
      go_wp2
      go_ret
      exact ⟨ret_str HXH.out, hbw.alloc hsz _⟩
    · have e0 : ¬ (n : Int) / 10 = 0 := by omega
      have hdd : ((n : Int) / 10 == 0) = false := by simp; omega
      have hfin : M.dg (n / 10) ++ dg1 n :: h = L := by rw [← hst.out, M.dg_big hn10, List.append_assoc]; rfl
      have HF := Lib.hid hfin
      clear hst hfin e0
      go_wp2
      go_roundw
      case rel => exact ⟨n / 10, dg1 n :: h, X ++ H, by rw [cast_div10], rfl, by omega, by rw [hXz.out]; omega, HXH.out, HF.out, hbw.alloc hsz _⟩
      case measure => simp [intOf]; omega

set_option maxRecDepth 100000 in
set_option maxHeartbeats 1000000 in
theorem rcompare_any (a b : ByteArray) (w : World) (ha : a.size ≤ 1000000) (hb : b.size ≤ 1000000) :
    Calls Tryd.prog 32 #[.string a, .string b] w fun e w' => e = .returned (.int .i64 (M.cmpS a.data.toList b.data.toList)) ∧ w = w' := by
  have e1 := less_is a b
  have e2 := gtr_is a b
  obtain ⟨p, hp⟩ : ∃ p, Op.bytesLess a.toList b.toList = p := ⟨_, rfl⟩
  obtain ⟨q, hq⟩ : ∃ q, (a.toList == b.toList) = q := ⟨_, rfl⟩
  rw [hp] at e1
  rw [hp, hq] at e2
  unfold M.cmpS
  rw [← sz_list, ← sz_list]
  by_cases h1 : a.size < b.size
  · rw [if_pos h1]
    have d1 : decide (a.size < b.size) = true := decide_eq_true h1
    go_enter Tryd.func32, Tryd.ntmps32
    go_wp2
    go_ret
    exact ⟨rfl, rfl⟩
  · have d1 : decide (a.size < b.size) = false := decide_eq_false h1
    rw [if_neg h1]
    by_cases h2 : b.size < a.size
    · rw [if_pos h2]
      have d2 : decide (b.size < a.size) = true := decide_eq_true h2
      go_enter Tryd.func32, Tryd.ntmps32
      go_wp2
      go_ret
      exact ⟨rfl, rfl⟩
    · have d2 : decide (b.size < a.size) = false := decide_eq_false h2
      rw [if_neg h2]
      by_cases h3 : a.data.toList < b.data.toList
      · rw [if_pos h3]
        rw [decide_eq_true h3] at e1
        subst e1
        clear e2 h3 hq
        go_enter Tryd.func32, Tryd.ntmps32
        go_wp2
        go_ret
        exact ⟨rfl, rfl⟩
      · rw [if_neg h3]
        rw [decide_eq_false h3] at e1
        subst e1
        rw [Bool.false_or] at e2
        by_cases h4 : b.data.toList < a.data.toList
        · rw [if_pos h4]
          rw [decide_eq_true h4] at e2
          have e3 : q = false := by simpa using e2
          subst e3
          clear e2 h3 h4
          go_enter Tryd.func32, Tryd.ntmps32
          go_wp2
          go_ret
          exact ⟨rfl, rfl⟩
        · rw [if_neg h4]
          rw [decide_eq_false h4] at e2
          have e3 : q = true := by simpa using e2
          subst e3
          clear e2 h3 h4
          go_enter Tryd.func32, Tryd.ntmps32
          go_wp2
          go_ret
          exact ⟨rfl, rfl⟩
end Go.Proofs.YtomgbcgaokebjaaDoor
