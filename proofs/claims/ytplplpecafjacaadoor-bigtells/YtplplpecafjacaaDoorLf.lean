/- The law BigTells: its walk. -/
import Derived.Test.YtplplpecafjacaaDoorRg
set_option linter.unusedVariables false
namespace Go.Proofs.YtplplpecafjacaaDoor
open Go.RowKit

/-- Both sides' Norm answer the same: a whole number, or nothing. -/
theorem norm_agree (neg : Bool) (a : ByteArray) (ha : a.size ≤ 80) : ∃ R : ByteArray, R.size ≤ 81 ∧ M.goodB R.data.toList = !R.toList.isEmpty ∧ (∀ w, Calls Tryd.prog 13 #[.bool neg, .string a] w fun e w' => e = .returned (.string R) ∧ Below w.heap.size w w') ∧ (∀ w, Calls Tryd.prog 10 #[.bool neg, .string a] w fun e w' => e = .returned (.string R) ∧ Below w.heap.size w w') := by
  by_cases h : M.okD 10 a.data.toList = true
  · refine ⟨tx (M.sgn neg (M.val 10 a.data.toList)), ?_, ?_, fun w => norm_yes neg a w (by omega) h, fun w => (rnorm_yes neg a w (by omega) h).mono (fun e w' h => ⟨h.1, h.2 ▸ Below.refl _ _⟩)⟩
    · refine tx_len _ 80 (by omega) ?_
      rw [sgn_abs]
      have h1 := M.val_lt 10 _ ((M.okD_iff _ _).1 h).2
      rw [← sz_list] at h1
      have h2 : 10 ^ a.size ≤ 10 ^ 80 := Nat.pow_le_pow_right (by omega) ha
      omega
    · rw [tx_good, ByteArray.toList_eq, tx_list]
      have := M.txt_ne (M.sgn neg (M.val 10 a.data.toList))
      cases hh : M.txt (M.sgn neg (M.val 10 a.data.toList))
      · exact absurd hh this
      · rfl
  · have h' : M.okD 10 a.data.toList = false := by simpa using h
    refine ⟨⟨#[]⟩, by decide, by rw [ByteArray.toList_eq]; rfl, fun w => (norm_no neg a w (by omega) h').mono (fun e w' h => ⟨h.1, h.2 ▸ Below.refl _ _⟩), fun w => (rnorm_no neg a w (by omega) h').mono (fun e w' h => ⟨h.1, h.2 ▸ Below.refl _ _⟩)⟩
theorem good_agree (a : ByteArray) (ha : a.size ≤ 100) : ∃ R : Bool, R = M.goodB a.data.toList ∧ (∀ w, Calls Tryd.prog 11 #[.string a] w fun e w' => e = .returned (.bool R) ∧ w = w') ∧ (∀ w, Calls Tryd.prog 12 #[.string a] w fun e w' => e = .returned (.bool R) ∧ w = w') :=
  ⟨_, rfl, fun w => good_any a w (by omega), fun w => rgood_any a w (by omega)⟩

set_option maxRecDepth 100000 in
set_option maxHeartbeats 4000000 in
theorem tells_any (a b : ByteArray) (neg : Bool) (m k base : Int) (w : World) (ht : Tab w) (ha : a.size ≤ maxLen) (hb : b.size ≤ maxLen) (hm : -9223372036854775808 ≤ m ∧ m ≤ 9223372036854775807) (hk : -9223372036854775808 ≤ k ∧ k ≤ 9223372036854775807) (hbase : -9223372036854775808 ≤ base ∧ base ≤ 9223372036854775807) :
    Calls Tryd.prog 3 #[.string a, .string b, .bool neg, .int .i64 m, .int .i64 k, .int .i64 base] w fun r w' => r = .returned (.bool true) ∧ Below w.heap.size w w' := by
  unfold maxLen at ha hb
  have ha2 : a.size ≤ 9223372036854775807 := by omega
  have hb2 : b.size ≤ 9223372036854775807 := by omega
  clear ha hb
  obtain ⟨hm1, hm2⟩ := hm
  obtain ⟨hk1, hk2⟩ := hk
  go_enter Tryd.func3, Tryd.ntmps3
  go_wp2_with fail
  refine (known_any w ht).mono ?_
  rintro r w1 ⟨rfl, hb1⟩
  have B1 : Below w.heap.size w w1 := hb1
  have T1 := ht.next B1
  clear hb1
  by_cases h1 : 80 < a.size
  · have d1 : decide ((80 : Int) < (a.size : Int)) = true := decide_eq_true (by omega)
    go_wp2
    go_ret
    exact ⟨rfl, B1⟩
  have d1 : decide ((80 : Int) < (a.size : Int)) = false := decide_eq_false (by omega)
  by_cases h3 : 80 < b.size
  · have d3 : decide ((80 : Int) < (b.size : Int)) = true := decide_eq_true (by omega)
    go_wp2
    go_ret
    exact ⟨rfl, B1⟩
  have d3 : decide ((80 : Int) < (b.size : Int)) = false := decide_eq_false (by omega)
  have t1 := Int.tmod_lt_of_pos m (show (0 : Int) < 1000000 by omega)
  have t2 := Int.lt_tmod_of_pos m (show (0 : Int) < 1000000 by omega)
  have t3 := Int.tmod_lt_of_pos k (show (0 : Int) < 1000000 by omega)
  have t4 := Int.lt_tmod_of_pos k (show (0 : Int) < 1000000 by omega)
  obtain ⟨p, hp⟩ : ∃ p, Int.tmod m 1000000 = p := ⟨_, rfl⟩
  obtain ⟨q, hq⟩ : ∃ q, Int.tmod k 1000000 = q := ⟨_, rfl⟩
  rw [hp] at t1 t2
  rw [hq] at t3 t4
  have wp : IntKind.i64.wrap p = p := by rw [IntWalk.i64_in] <;> omega
  have wq : IntKind.i64.wrap q = q := by rw [IntWalk.i64_in] <;> omega
  obtain ⟨x, zx, gx, nx1, nx2⟩ := norm_agree neg a (by omega)
  obtain ⟨y, zy, gy, ny1, ny2⟩ := norm_agree (!neg) b (by omega)
  obtain ⟨u, zu, gu, nu1, nu2⟩ := norm_agree neg b (by omega)
  obtain ⟨ga, _, ga1, ga2⟩ := good_agree a (by omega)
  obtain ⟨gxx, hgx, gx1, gx2⟩ := good_agree x (by omega)
  rw [gx] at hgx
  obtain ⟨rb, _, rb1, rb2⟩ := base_agree a base (by omega)
  obtain ⟨r2, _, r21, r22⟩ := base_agree a 2 (by omega)
  obtain ⟨r8, _, r81, r82⟩ := base_agree a 8 (by omega)
  obtain ⟨r16, _, r161, r162⟩ := base_agree a 16 (by omega)
  obtain ⟨rm, rm1, rm2⟩ := mul_agree a m k (by omega)
  obtain ⟨ra, ra1, ra2⟩ := add_agree a m (by omega)
  obtain ⟨rc, rc1, rc2⟩ := comp_agree a b (by omega) (by omega)
  obtain ⟨sm, sm1, sm2⟩ := mul_agree x p q (by omega)
  obtain ⟨sa, sa1, sa2⟩ := add_agree x p (by omega)
  obtain ⟨sb, sb1, sb2⟩ := add_agree y (-q) (by omega)
  obtain ⟨sc, sc1, sc2⟩ := comp_agree x y (by omega) (by omega)
  obtain ⟨sd, sd1, sd2⟩ := comp_agree x u (by omega) (by omega)
  clear gx gy gu ny1 nu1 zx zy zu
  go_wp2_with fail
  refine (nx2 _).mono ?_
  rintro r w2 ⟨rfl, hb2⟩
  have B2 : Below w.heap.size w w2 := B1.trans (hb2.mono B1.size)
  have T2 := ht.next B2
  clear hb2 B1 T1
  go_wp2_with fail
  refine (ny2 _).mono ?_
  rintro r w3 ⟨rfl, hb3⟩
  have B3 : Below w.heap.size w w3 := B2.trans (hb3.mono B2.size)
  have T3 := ht.next B3
  clear hb3 B2 T2
  go_wp2_with fail
  refine (ga1 _).mono ?_
  rintro r w' ⟨rfl, rfl⟩
  go_wp2_with fail
  refine (ga2 _).mono ?_
  rintro r w' ⟨rfl, rfl⟩
  go_wp2_with fail
  refine (nx1 _).mono ?_
  rintro r w4 ⟨rfl, hb4⟩
  have B4 : Below w.heap.size w w4 := B3.trans (hb4.mono B3.size)
  have T4 := ht.next B4
  clear hb4 B3 T3
  go_wp2_with fail
  refine (rb1 _).mono ?_
  rintro r w5 ⟨rfl, hb5⟩
  have B5 : Below w.heap.size w w5 := B4.trans (hb5.mono B4.size)
  have T5 := ht.next B5
  clear hb5 B4 T4
  go_wp2_with fail
  refine (rb2 _).mono ?_
  rintro r w6 ⟨rfl, hb6⟩
  have B6 : Below w.heap.size w w6 := B5.trans (hb6.mono B5.size)
  have T6 := ht.next B6
  clear hb6 B5 T5
  go_wp2_with fail
  refine (rm1 _).mono ?_
  rintro r w7 ⟨rfl, hb7⟩
  have B7 : Below w.heap.size w w7 := B6.trans (hb7.mono B6.size)
  have T7 := ht.next B7
  clear hb7 B6 T6
  go_wp2_with fail
  refine (rm2 _).mono ?_
  rintro r w8 ⟨rfl, hb8⟩
  have B8 : Below w.heap.size w w8 := B7.trans (hb8.mono B7.size)
  have T8 := ht.next B8
  clear hb8 B7 T7
  go_wp2_with fail
  refine (ra1 _ T8).mono ?_
  rintro r w9 ⟨rfl, hb9⟩
  have B9 : Below w.heap.size w w9 := B8.trans (hb9.mono B8.size)
  have T9 := ht.next B9
  clear hb9 B8 T8
  go_wp2_with fail
  refine (ra2 _).mono ?_
  rintro r w10 ⟨rfl, hb10⟩
  have B10 : Below w.heap.size w w10 := B9.trans (hb10.mono B9.size)
  have T10 := ht.next B10
  clear hb10 B9 T9
  go_wp2_with fail
  refine (rc1 _).mono ?_
  rintro r w11 ⟨rfl, hb11⟩
  have B11 : Below w.heap.size w w11 := B10.trans (hb11.mono B10.size)
  have T11 := ht.next B11
  clear hb11 B10 T10
  go_wp2_with fail
  refine (rc2 _).mono ?_
  rintro r w12 ⟨rfl, hb12⟩
  have B12 : Below w.heap.size w w12 := B11.trans (hb12.mono B11.size)
  have T12 := ht.next B12
  clear hb12 B11 T11
  go_wp2_with fail
  have hg : w12.heap.size < (w12.alloc (.cells #[.int .i64 2, .int .i64 8, .int .i64 16] 3)).heap.size := by simp
  have c0 : (w12.alloc (.cells #[.int .i64 2, .int .i64 8, .int .i64 16] 3)).cell? ⟨w12.heap.size, 0, none⟩ = some (.int .i64 2) := by simp
  have c1 : (w12.alloc (.cells #[.int .i64 2, .int .i64 8, .int .i64 16] 3)).cell? ⟨w12.heap.size, 1, none⟩ = some (.int .i64 8) := by simp
  have c2 : (w12.alloc (.cells #[.int .i64 2, .int .i64 8, .int .i64 16] 3)).cell? ⟨w12.heap.size, 2, none⟩ = some (.int .i64 16) := by simp
  have BW : Below w.heap.size w (w12.alloc (.cells #[.int .i64 2, .int .i64 8, .int .i64 16] 3)) := B12.alloc B12.size _
  generalize w12.alloc (.cells #[.int .i64 2, .int .i64 8, .int .i64 16] 3) = W0 at *
  generalize w12.heap.size = g at *
  clear B12 T12 d1 d3 hp hq
  go_loopw [92] (fun iv wr => ∃ i : Nat, iv = .int .i64 i ∧ i ≤ 3 ∧ Below W0.heap.size W0 wr) (fun iv _ => 3 - (intOf iv).toNat)
  case atStart => exact ⟨0, rfl, by omega, Below.refl _ _⟩
  case round =>
    obtain ⟨i, rfl, hi, hbw⟩ := hrel
    have e0 : wr.cell? ⟨g, 0, none⟩ = some (.int .i64 2) := (hbw.cell (p := ⟨g, 0, none⟩) hg).trans c0
    have e1 : wr.cell? ⟨g, 1, none⟩ = some (.int .i64 8) := (hbw.cell (p := ⟨g, 1, none⟩) hg).trans c1
    have e2 : wr.cell? ⟨g, 2, none⟩ = some (.int .i64 16) := (hbw.cell (p := ⟨g, 2, none⟩) hg).trans c2
    have hcase : i = 0 ∨ i = 1 ∨ i = 2 ∨ i = 3 := by omega
    rcases hcase with rfl | rfl | rfl | rfl
    · go_wp2_with fail
      refine (r21 _).mono ?_
      rintro r wa ⟨rfl, hba⟩
      go_wp2_with fail
      refine (r22 _).mono ?_
      rintro r wb ⟨rfl, hbb⟩
      have hwb : Below W0.heap.size W0 wb := hbw.trans ((hba.trans (hbb.mono hba.size)).mono hbw.size)
      clear hba hbb
      go_wp2
      go_roundw
      case rel => exact ⟨1, rfl, by omega, hwb⟩
      case measure => simp [intOf]
    · go_wp2_with fail
      refine (r81 _).mono ?_
      rintro r wa ⟨rfl, hba⟩
      go_wp2_with fail
      refine (r82 _).mono ?_
      rintro r wb ⟨rfl, hbb⟩
      have hwb : Below W0.heap.size W0 wb := hbw.trans ((hba.trans (hbb.mono hba.size)).mono hbw.size)
      clear hba hbb
      go_wp2
      go_roundw
      case rel => exact ⟨2, rfl, by omega, hwb⟩
      case measure => simp [intOf]
    · go_wp2_with fail
      refine (r161 _).mono ?_
      rintro r wa ⟨rfl, hba⟩
      go_wp2_with fail
      refine (r162 _).mono ?_
      rintro r wb ⟨rfl, hbb⟩
      have hwb : Below W0.heap.size W0 wb := hbw.trans ((hba.trans (hbb.mono hba.size)).mono hbw.size)
      clear hba hbb
      go_wp2
      go_roundw
      case rel => exact ⟨3, rfl, by omega, hwb⟩
      case measure => simp [intOf]
    · have B1 : Below w.heap.size w wr := BW.trans (hbw.mono BW.size)
      have T1 := ht.next B1
      clear e0 e1 e2 hi
      go_wp2_with fail
      refine (sm1 _).mono ?_
      rintro r w2 ⟨rfl, hb2⟩
      have B2 : Below w.heap.size w w2 := B1.trans (hb2.mono B1.size)
      have T2 := ht.next B2
      clear hb2 B1 T1
      go_wp2_with fail
      refine (sm2 _).mono ?_
      rintro r w3 ⟨rfl, hb3⟩
      have B3 : Below w.heap.size w w3 := B2.trans (hb3.mono B2.size)
      have T3 := ht.next B3
      clear hb3 B2 T2
      go_wp2_with fail
      refine (sa1 _ T3).mono ?_
      rintro r w4 ⟨rfl, hb4⟩
      have B4 : Below w.heap.size w w4 := B3.trans (hb4.mono B3.size)
      have T4 := ht.next B4
      clear hb4 B3 T3
      go_wp2_with fail
      refine (sa2 _).mono ?_
      rintro r w5 ⟨rfl, hb5⟩
      have B5 : Below w.heap.size w w5 := B4.trans (hb5.mono B4.size)
      have T5 := ht.next B5
      clear hb5 B4 T4
      go_wp2_with fail
      refine (sb1 _ T5).mono ?_
      rintro r w6 ⟨rfl, hb6⟩
      have B6 : Below w.heap.size w w6 := B5.trans (hb6.mono B5.size)
      have T6 := ht.next B6
      clear hb6 B5 T5
      go_wp2_with fail
      refine (sb2 _).mono ?_
      rintro r w7 ⟨rfl, hb7⟩
      have B7 : Below w.heap.size w w7 := B6.trans (hb7.mono B6.size)
      have T7 := ht.next B7
      clear hb7 B6 T6
      go_wp2_with fail
      refine (sc1 _).mono ?_
      rintro r w8 ⟨rfl, hb8⟩
      have B8 : Below w.heap.size w w8 := B7.trans (hb8.mono B7.size)
      have T8 := ht.next B8
      clear hb8 B7 T7
      go_wp2_with fail
      refine (sc2 _).mono ?_
      rintro r w9 ⟨rfl, hb9⟩
      have B9 : Below w.heap.size w w9 := B8.trans (hb9.mono B8.size)
      have T9 := ht.next B9
      clear hb9 B8 T8
      go_wp2_with fail
      refine (nu2 _).mono ?_
      rintro r w10 ⟨rfl, hb10⟩
      have B10 : Below w.heap.size w w10 := B9.trans (hb10.mono B9.size)
      have T10 := ht.next B10
      clear hb10 B9 T9
      go_wp2_with fail
      refine (sd1 _).mono ?_
      rintro r w11 ⟨rfl, hb11⟩
      have B11 : Below w.heap.size w w11 := B10.trans (hb11.mono B10.size)
      have T11 := ht.next B11
      clear hb11 B10 T10
      go_wp2_with fail
      refine (nu2 _).mono ?_
      rintro r w12 ⟨rfl, hb12⟩
      have B12 : Below w.heap.size w w12 := B11.trans (hb12.mono B11.size)
      have T12 := ht.next B12
      clear hb12 B11 T11
      go_wp2_with fail
      refine (sd2 _).mono ?_
      rintro r w13 ⟨rfl, hb13⟩
      have B13 : Below w.heap.size w w13 := B12.trans (hb13.mono B12.size)
      have T13 := ht.next B13
      clear hb13 B12 T12
      go_wp2_with fail
      refine (gx1 _).mono ?_
      rintro r w' ⟨rfl, rfl⟩
      go_wp2
      go_ret
      exact ⟨rfl, B13⟩
end Go.Proofs.YtplplpecafjacaaDoor
