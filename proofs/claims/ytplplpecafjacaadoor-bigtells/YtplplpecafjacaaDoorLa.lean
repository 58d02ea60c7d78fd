/- The law BigOrder: its walk. -/
import Derived.Test.YtplplpecafjacaaDoorWn
set_option linter.unusedVariables false
namespace Go.Proofs.YtplplpecafjacaaDoor
open Go.RowKit

theorem norm_list (neg : Bool) (l : List UInt8) (w : World) (h : M.okD 10 l = true) (hl : l.length ≤ 1000) :
    Calls Tryd.prog 13 #[.bool neg, .string (bA l)] w fun e w' => e = .returned (.string (tx (M.sgn neg (M.val 10 l)))) ∧ Below w.heap.size w w' := by
  have := norm_yes neg (bA l) w (by rw [bA_size]; omega) (by rw [bA_toList]; exact h)
  rwa [bA_toList] at this
theorem val_zeros (k : Nat) (l : List UInt8) : M.val 10 (List.replicate k 48 ++ l) = M.val 10 l := by
  rw [M.val_append]
  have : M.val 10 (List.replicate k 48) = 0 := by
    induction k with
    | zero => rfl
    | succ k ih => rw [List.replicate_succ', M.val_snoc, ih]; decide
  rw [this, Nat.zero_mul, Nat.zero_add]
theorem ok_zeros (k : Nat) (l : List UInt8) (h : M.okD 10 l = true) : M.okD 10 (List.replicate k 48 ++ l) = true := by
  rw [M.okD_iff] at h ⊢
  refine ⟨by simp [h.1], ?_⟩
  rw [M.allD_append, h.2, Bool.and_true, M.allD_iff]
  intro c hc
  rw [(List.mem_replicate.1 hc).2]; decide
theorem tx_len (z : Int) (k : Nat) (hk : 0 < k) (h : z.natAbs < 10 ^ k) : (tx z).size ≤ k + 1 := by
  rw [tx_size]; exact M.txt_len z k hk h
theorem tx_inj {a b : Int} (h : tx a = tx b) : a = b := by
  unfold tx at h
  exact M.txt_inj (bA_inj.1 h)
theorem tx_beq (a b : Int) : ((tx a).toList == (tx b).toList) = decide (a = b) := by
  rw [Bool.eq_iff_iff, decide_eq_true_eq, beq_iff_eq, ByteArray.toList_eq, ByteArray.toList_eq]
  constructor
  · intro h
    apply M.txt_inj
    rwa [tx_list, tx_list] at h
  · intro h; rw [h]
theorem sgn_not (neg : Bool) (n : Nat) : M.sgn (!neg) n = -M.sgn neg n := by cases neg <;> simp [M.sgn]
theorem sgn_abs (neg : Bool) (n : Nat) : (M.sgn neg n).natAbs = n := by cases neg <;> simp [M.sgn]
theorem val_digs_lt (l : List UInt8) : M.val 10 (digs l) < 10 ^ l.length := by
  have := M.val_lt 10 (digs l) (digs_all l)
  rwa [digs_length] at this
theorem cmpZ_bound (a b : Int) : -1 ≤ M.cmpZ a b ∧ M.cmpZ a b ≤ 1 := by unfold M.cmpZ; split; omega; split <;> omega

set_option maxRecDepth 100000 in
set_option maxHeartbeats 2000000 in
theorem order_any (s t : ByteArray) (neg : Bool) (q : Nat) (w : World) (ht : Tab w) (hs : s.size ≤ maxLen) (hu : t.size ≤ maxLen) (hq : q ≤ 255) :
    Calls Tryd.prog 8 #[.string s, .string t, .bool neg, .int .u8 q] w fun r w' => r = .returned (.bool true) ∧ Below w.heap.size w w' := by
  unfold maxLen at hs hu
  have hs2 : s.size ≤ 9223372036854775807 := by omega
  have hu2 : t.size ≤ 9223372036854775807 := by omega
  clear hs hu
  go_enter Tryd.func8, Tryd.ntmps8
  go_wp2_with fail
  refine (known_any w ht).mono ?_
  rintro r w1 ⟨rfl, hb1⟩
  have B1 : Below w.heap.size w w1 := hb1
  have T1 := ht.next B1
  clear hb1
  by_cases h1 : s.size < 1
  · have d1 : decide ((s.size : Int) < 1) = true := decide_eq_true (by omega)
    go_wp2
    go_ret
    exact ⟨rfl, B1⟩
  have d1 : decide ((s.size : Int) < 1) = false := decide_eq_false (by omega)
  by_cases h2 : t.size < 1
  · have d2 : decide ((t.size : Int) < 1) = true := decide_eq_true (by omega)
    go_wp2
    go_ret
    exact ⟨rfl, B1⟩
  have d2 : decide ((t.size : Int) < 1) = false := decide_eq_false (by omega)
  by_cases h3 : 40 < s.size
  · have d3 : decide ((40 : Int) < (s.size : Int)) = true := decide_eq_true (by omega)
    go_wp2
    go_ret
    exact ⟨rfl, B1⟩
  have d3 : decide ((40 : Int) < (s.size : Int)) = false := decide_eq_false (by omega)
  by_cases h4 : 40 < t.size
  · have d4 : decide ((40 : Int) < (t.size : Int)) = true := decide_eq_true (by omega)
    go_wp2
    go_ret
    exact ⟨rfl, B1⟩
  have d4 : decide ((40 : Int) < (t.size : Int)) = false := decide_eq_false (by omega)
  obtain ⟨k, hk⟩ : ∃ k, q % 9 = k := ⟨_, rfl⟩
  have hk9 : k < 9 := by omega
  have hk2 : ((q : Int) % 9) = (k : Int) := by omega
  clear hk
  have cS := fun W => digits_any s W (by omega)
  have cU := fun W => digits_any t W (by omega)
  have hxs := val_digs_lt s.data.toList
  have hyt := val_digs_lt t.data.toList
  rw [← sz_list] at hxs hyt
  have hx40 : M.val 10 (digs s.data.toList) < 10 ^ 40 := Nat.lt_of_lt_of_le hxs (Nat.pow_le_pow_right (by omega) (by omega))
  have hy40 : M.val 10 (digs t.data.toList) < 10 ^ 40 := Nat.lt_of_lt_of_le hyt (Nat.pow_le_pow_right (by omega) (by omega))
  have okS := digs_ok s.data.toList (by rw [← sz_list]; omega)
  have okU := digs_ok t.data.toList (by rw [← sz_list]; omega)
  have hlS : (digs s.data.toList).length ≤ 40 := by rw [digs_length, ← sz_list]; omega
  have hlU : (digs t.data.toList).length ≤ 40 := by rw [digs_length, ← sz_list]; omega
  have cA := fun (b : Bool) W => norm_list b (digs s.data.toList) W okS (by omega)
  have cB := fun (b : Bool) W => norm_list b (digs t.data.toList) W okU (by omega)
  have cAz := fun (b : Bool) W => norm_list b (List.replicate k 48 ++ digs s.data.toList) W (ok_zeros k _ okS) (by simp; omega)
  have cBz := fun (b : Bool) W => norm_list b (List.replicate k 48 ++ digs t.data.toList) W (ok_zeros k _ okU) (by simp; omega)
  simp only [val_zeros, ← bA_append] at cAz cBz
  have zS : (bA (digs s.data.toList)).size ≤ 40 := by rw [bA_size]; exact hlS
  have zU : (bA (digs t.data.toList)).size ≤ 40 := by rw [bA_size]; exact hlU
  generalize M.val 10 (digs s.data.toList) = x at *
  generalize M.val 10 (digs t.data.toList) = y at *
  generalize bA (digs s.data.toList) = S at *
  generalize bA (digs t.data.toList) = U at *
  have zx : ∀ b, (tx (M.sgn b x)).size ≤ 41 := fun b => tx_len _ 40 (by omega) (by rw [sgn_abs]; exact hx40)
  have zy : ∀ b, (tx (M.sgn b y)).size ≤ 41 := fun b => tx_len _ 40 (by omega) (by rw [sgn_abs]; exact hy40)
  have cab := fun W => compare_yes (M.sgn neg x) (M.sgn neg y) W (by have := zx neg; omega) (by have := zy neg; omega)
  have cba := fun W => compare_yes (M.sgn neg y) (M.sgn neg x) W (by have := zy neg; omega) (by have := zx neg; omega)
  have ccd := fun W => compare_yes (M.sgn (!neg) x) (M.sgn (!neg) y) W (by have := zx (!neg); omega) (by have := zy (!neg); omega)
  have caa := fun W => compare_yes (M.sgn neg x) (M.sgn neg x) W (by have := zx neg; omega) (by have := zx neg; omega)
  have cac := fun W => compare_yes (M.sgn neg x) (M.sgn (!neg) x) W (by have := zx neg; omega) (by have := zx (!neg); omega)
  rw [M.cmpZ_self] at caa
  rw [show M.cmpZ (M.sgn neg y) (M.sgn neg x) = -M.cmpZ (M.sgn neg x) (M.sgn neg y) from M.cmpZ_swap _ _] at cba
  rw [show M.cmpZ (M.sgn (!neg) x) (M.sgn (!neg) y) = -M.cmpZ (M.sgn neg x) (M.sgn neg y) by rw [sgn_not, sgn_not, M.cmpZ_neg]] at ccd
  have hN := cmpZ_bound (M.sgn neg x) (M.sgn neg y)
  have hE : ((tx (M.sgn neg x)).toList == (tx (M.sgn neg y)).toList) = (M.cmpZ (M.sgn neg x) (M.sgn neg y) == 0) := by
    rw [tx_beq, Bool.eq_iff_iff, decide_eq_true_eq, beq_iff_eq, M.cmpZ_zero]
  have hZa : ((tx (M.sgn neg x)).toList == [48]) = decide (x = 0) := by
    have := tx_beq (M.sgn neg x) 0
    rw [show (tx 0).toList = [48] by rw [tx0, ByteArray.toList_eq]] at this
    rw [this, decide_eq_decide]
    have := sgn_abs neg x
    omega
  have hZc : ((tx (M.sgn (!neg) x)).toList == [48]) = decide (x = 0) := by
    have := tx_beq (M.sgn (!neg) x) 0
    rw [show (tx 0).toList = [48] by rw [tx0, ByteArray.toList_eq]] at this
    rw [this, decide_eq_decide]
    have := sgn_abs (!neg) x
    omega
  have hK : x ≠ 0 → decide (M.cmpZ (M.sgn neg x) (M.sgn (!neg) x) < 0) = neg := by
    intro h0
    rw [Bool.eq_iff_iff, decide_eq_true_eq, M.cmpZ_lt, sgn_not]
    cases neg <;> simp [M.sgn] <;> omega
  generalize M.cmpZ (M.sgn neg x) (M.sgn neg y) = N at *
  generalize M.cmpZ (M.sgn neg x) (M.sgn (!neg) x) = K at *
  generalize hgA : tx (M.sgn neg x) = A at *
  have cA1 := cA neg
  have cA2 := cA (!neg)
  have cB1 := cB neg
  have cB2 := cBz (!neg)
  have cAz1 := cAz neg
  rw [hgA] at cA1 cAz1
  generalize tx (M.sgn neg y) = Bb at *
  generalize tx (M.sgn (!neg) x) = C at *
  generalize tx (M.sgn (!neg) y) = D at *
  obtain ⟨n1, n2⟩ := hN
  have HK := Lib.hid hK
  clear cA cB cAz cBz zx zy hgA okS okU hxs hyt hx40 hy40 hlS hlU hK
  obtain ⟨e0, hE0⟩ : ∃ e0, (N == 0) = e0 := ⟨_, rfl⟩
  rw [hE0] at hE
  go_wp2_with fail
  clear d1 d2 d3 d4
  go_loop [9, 10] (fun zv v => ∃ (j : Nat) (R : ByteArray), zv = .string R ∧ v = .int .i64 j ∧ j ≤ k ∧ R.size ≤ j ∧ Hid (R = bA (List.replicate j 48))) (fun _ v => k - (intOf v).toNat)
  case atStart => exact ⟨0, ⟨#[]⟩, rfl, rfl, Nat.zero_le _, Nat.le_refl _, rfl⟩
  case round =>
    obtain ⟨j, R, rfl, rfl, hjk, hRz, HS⟩ := hrel
    by_cases hjl : j < k
    · have d5 : decide (j < k) = true := by simpa using hjl
      have HZ := Lib.hid (append_sz R ⟨#[48]⟩)
      go_wp2
      go_round
      case rel => exact ⟨j + 1, R ++ ⟨#[48]⟩, rfl, by go_num, by omega, by rw [HZ.out]; show R.size + 1 ≤ j + 1; omega, by rw [Hid, HS.out, List.replicate_succ']; exact bA_append _ [48]⟩
      case measure => simp [intOf]; omega
    · obtain rfl : j = k := by omega
      have d5 : decide (j < j) = false := by simp
      rw [← HS.out] at cAz1 cB2
      clear hjl HS
      go_wp2_with fail
      refine (cS _).mono ?_
      rintro r w2 ⟨rfl, hb2⟩
      have B2 : Below w.heap.size w w2 := B1.trans (hb2.mono B1.size)
      have T2 := ht.next B2
      clear hb2 B1 T1
      go_wp2_with fail
      refine (cAz1 _).mono ?_
      rintro r w3 ⟨rfl, hb3⟩
      have B3 : Below w.heap.size w w3 := B2.trans (hb3.mono B2.size)
      have T3 := ht.next B3
      clear hb3 B2 T2
      go_wp2_with fail
      refine (cU _).mono ?_
      rintro r w4 ⟨rfl, hb4⟩
      have B4 : Below w.heap.size w w4 := B3.trans (hb4.mono B3.size)
      have T4 := ht.next B4
      clear hb4 B3 T3
      go_wp2_with fail
      refine (cB1 _).mono ?_
      rintro r w5 ⟨rfl, hb5⟩
      have B5 : Below w.heap.size w w5 := B4.trans (hb5.mono B4.size)
      have T5 := ht.next B5
      clear hb5 B4 T4
      go_wp2_with fail
      refine (cS _).mono ?_
      rintro r w6 ⟨rfl, hb6⟩
      have B6 : Below w.heap.size w w6 := B5.trans (hb6.mono B5.size)
      have T6 := ht.next B6
      clear hb6 B5 T5
      go_wp2_with fail
      refine (cA2 _).mono ?_
      rintro r w7 ⟨rfl, hb7⟩
      have B7 : Below w.heap.size w w7 := B6.trans (hb7.mono B6.size)
      have T7 := ht.next B7
      clear hb7 B6 T6
      go_wp2_with fail
      refine (cU _).mono ?_
      rintro r w8 ⟨rfl, hb8⟩
      have B8 : Below w.heap.size w w8 := B7.trans (hb8.mono B7.size)
      have T8 := ht.next B8
      clear hb8 B7 T7
      go_wp2_with fail
      refine (cB2 _).mono ?_
      rintro r w9 ⟨rfl, hb9⟩
      have B9 : Below w.heap.size w w9 := B8.trans (hb9.mono B8.size)
      have T9 := ht.next B9
      clear hb9 B8 T8
      go_wp2_with fail
      refine (cab _).mono ?_
      rintro r w10 ⟨rfl, hb10⟩
      have B10 : Below w.heap.size w w10 := B9.trans (hb10.mono B9.size)
      have T10 := ht.next B10
      clear hb10 B9 T9
      go_wp2_with fail
      refine (cS _).mono ?_
      rintro r w11 ⟨rfl, hb11⟩
      have B11 : Below w.heap.size w w11 := B10.trans (hb11.mono B10.size)
      have T11 := ht.next B11
      clear hb11 B10 T10
      go_wp2_with fail
      refine (cA1 _).mono ?_
      rintro r w12 ⟨rfl, hb12⟩
      have B12 : Below w.heap.size w w12 := B11.trans (hb12.mono B11.size)
      have T12 := ht.next B12
      clear hb12 B11 T11
      go_wp2_with fail
      refine (cba _).mono ?_
      rintro r w13 ⟨rfl, hb13⟩
      have B13 : Below w.heap.size w w13 := B12.trans (hb13.mono B12.size)
      have T13 := ht.next B13
      clear hb13 B12 T12
      go_wp2_with fail
      refine (ccd _).mono ?_
      rintro r w14 ⟨rfl, hb14⟩
      have B14 : Below w.heap.size w w14 := B13.trans (hb14.mono B13.size)
      have T14 := ht.next B14
      clear hb14 B13 T13
      go_wp2_with fail
      refine (caa _).mono ?_
      rintro r w15 ⟨rfl, hb15⟩
      have B15 : Below w.heap.size w w15 := B14.trans (hb15.mono B14.size)
      have T15 := ht.next B15
      clear hb15 B14 T14
      by_cases hx0 : x = 0
      · rw [decide_eq_true hx0] at hZa hZc
        clear hx0
        go_wp2
        go_ret
        exact ⟨rfl, B15⟩
      · rw [decide_eq_false hx0] at hZa hZc
        have hq := HK.out hx0
        clear hx0
        go_wp2_with fail
        refine (cac _).mono ?_
        rintro r w16 ⟨rfl, hb16⟩
        have B16 : Below w.heap.size w w16 := B15.trans (hb16.mono B15.size)
        have T16 := ht.next B16
        clear hb16 B15 T15
        go_wp2
        go_ret
        exact ⟨ret_bool (by simp), B16⟩
end Go.Proofs.YtplplpecafjacaaDoor
