/- The law DecShifts: its walk. -/
import Derived.Test.YtomgbcgaokebjaaDoorWv
import Derived.Test.YtomgbcgaokebjaaDoorRg
set_option linter.unusedVariables false
namespace Go.Proofs.YtomgbcgaokebjaaDoor
open Go.RowKit

theorem ok_of {l : List UInt8} (h1 : l ≠ []) (h2 : M.allD 10 l = true) : M.okD 10 l = true := (M.okD_iff _ _).2 ⟨h1, h2⟩
theorem all_app {l m : List UInt8} (h1 : M.allD 10 l = true) (h2 : M.allD 10 m = true) : M.allD 10 (l ++ m) = true := by rw [M.allD_append, h1, h2]; rfl
/-- Makes answers the decimal D, E. -/
def Mk (neg : Bool) (A F X D E : ByteArray) : Prop := ∀ W, Tab W → Calls Tryd.prog 9 #[.bool neg, .string A, .string F, .string X] W fun e w' => e = .returned (.tuple #[dV 0 neg D E, .bool true]) ∧ Below W.heap.size W w'
/-- One number, told in another way. -/
theorem mk_zero (neg : Bool) (A F : ByteArray) (z : Int) (hA : A.size ≤ 1000) (hF : F.size ≤ 1000) (hX : (tx z).size ≤ 1000) (h1 : A.data.toList ++ F.data.toList ≠ []) (h2 : M.allD 10 (A.data.toList ++ F.data.toList) = true) (hv : M.val 10 (A.data.toList ++ F.data.toList) = 0) :
    Mk neg A F (tx z) ⟨#[48]⟩ ⟨#[48]⟩ := fun W _ => make_zero neg A F z W hA hF hX (ok_of h1 h2) hv
theorem mk_yes (neg : Bool) (A F : ByteArray) (z y : Int) (c t : Nat) (hA : A.size ≤ 1000) (hF : F.size ≤ 1000) (hX : (tx z).size ≤ 1000) (h1 : A.data.toList ++ F.data.toList ≠ []) (h2 : M.allD 10 (A.data.toList ++ F.data.toList) = true) (hc : c % 10 ≠ 0) (hv : M.val 10 (A.data.toList ++ F.data.toList) = c * 10 ^ t)
    (hy : z + ((t : Int) - F.size) = y) : Mk neg A F (tx z) (bA (M.dg c)) (tx y) := by
  subst hy
  exact fun W hW => make_yes neg A F z c t W hW hA hF hX (ok_of h1 h2) hc hv
theorem tx_small (z : Int) (h : z.natAbs < 10 ^ 12) : (tx z).size ≤ 13 := tx_len z 12 (by omega) h
theorem list_app3 (A F Z : ByteArray) : (A ++ F ++ Z).data.toList = A.data.toList ++ F.data.toList ++ Z.data.toList := by rw [append_list, append_list]
theorem val_zeros2 (k : Nat) (l : List UInt8) : M.val 10 (M.zs k ++ l ++ M.zs k) = M.val 10 l * 10 ^ k := by rw [M.val_trail, M.val_lead]
theorem shifts_make (neg : Bool) (A F Z : ByteArray) (e : Int) (k : Nat) (hA : A.size ≤ 40) (hF : F.size ≤ 40) (hk : k ≤ 9) (he1 : -2147483648 ≤ e) (he2 : e ≤ 2147483647) (hZ : Z.data.toList = M.zs k)
    (h1 : A.data.toList ++ F.data.toList ≠ []) (h2 : M.allD 10 (A.data.toList ++ F.data.toList) = true) :
    ∃ D E : ByteArray, D.size ≤ 1000 ∧ E.size ≤ 1000 ∧ M.decB 0 neg D.data.toList E.data.toList = true ∧ Mk neg A F (tx e) D E ∧ Mk neg (Z ++ A) (F ++ Z) (tx e) D E ∧ Mk neg (A ++ F) ⟨#[]⟩ (tx (e + -(F.size : Int))) D E ∧ Mk neg ⟨#[]⟩ (A ++ F) (tx (e + (A.size : Int))) D E ∧ Mk neg (A ++ F ++ Z) ⟨#[]⟩ (tx (e + (-(F.size : Int) - (Z.size : Int)))) D E := by
  have hZs : Z.size = k := by rw [sz_list, hZ]; simp
  have s1 : (A ++ F).size = A.size + F.size := append_sz _ _
  have s2 : (Z ++ A).size = k + A.size := by rw [append_sz, hZs]
  have s3 : (F ++ Z).size = F.size + k := by rw [append_sz, hZs]
  have s4 : (A ++ F ++ Z).size = A.size + F.size + k := by rw [append_sz, s1, hZs]
  have z1 := tx_small e (by omega)
  have z2 := tx_small (e + -(F.size : Int)) (by omega)
  have z3 := tx_small (e + (A.size : Int)) (by omega)
  have z4 := tx_small (e + (-(F.size : Int) - (Z.size : Int))) (by omega)
  have h0 : (⟨#[]⟩ : ByteArray).size = 0 := rfl
  have lB : (Z ++ A).data.toList ++ (F ++ Z).data.toList = M.zs k ++ (A.data.toList ++ F.data.toList) ++ M.zs k := by rw [append_list, append_list, hZ]; simp
  have lC : (A ++ F).data.toList ++ (⟨#[]⟩ : ByteArray).data.toList = A.data.toList ++ F.data.toList := by rw [app_nil, append_list]
  have lD : (⟨#[]⟩ : ByteArray).data.toList ++ (A ++ F).data.toList = A.data.toList ++ F.data.toList := by rw [append_list]; rfl
  have lG : (A ++ F ++ Z).data.toList ++ (⟨#[]⟩ : ByteArray).data.toList = A.data.toList ++ F.data.toList ++ M.zs k := by rw [app_nil, list_app3, hZ]
  have hzs := M.all_zs k
  have nB : (Z ++ A).data.toList ++ (F ++ Z).data.toList ≠ [] := by rw [lB]; simp; simp at h1; intro _ a; exact fun b _ => absurd b (h1 a)
  have nG : (A ++ F ++ Z).data.toList ++ (⟨#[]⟩ : ByteArray).data.toList ≠ [] := by rw [lG]; simp; simp at h1; intro a b; exact absurd b (h1 a)
  have aB : M.allD 10 ((Z ++ A).data.toList ++ (F ++ Z).data.toList) = true := by rw [lB]; exact all_app (all_app hzs h2) hzs
  have aG : M.allD 10 ((A ++ F ++ Z).data.toList ++ (⟨#[]⟩ : ByteArray).data.toList) = true := by rw [lG]; exact all_app h2 hzs
  by_cases hv : M.val 10 (A.data.toList ++ F.data.toList) = 0
  · refine ⟨⟨#[48]⟩, ⟨#[48]⟩, by decide, by decide, M.decB_zero neg, ?_, ?_, ?_, ?_, ?_⟩
    · exact mk_zero neg A F e (by omega) (by omega) (by omega) h1 h2 hv
    · exact mk_zero neg (Z ++ A) (F ++ Z) e (by omega) (by omega) (by omega) nB aB (by rw [lB, val_zeros2, hv, Nat.zero_mul])
    · exact mk_zero neg (A ++ F) ⟨#[]⟩ _ (by omega) (by omega) (by omega) (by rw [lC]; exact h1) (by rw [lC]; exact h2) (by rw [lC]; exact hv)
    · exact mk_zero neg ⟨#[]⟩ (A ++ F) _ (by omega) (by omega) (by omega) (by rw [lD]; exact h1) (by rw [lD]; exact h2) (by rw [lD]; exact hv)
    · exact mk_zero neg (A ++ F ++ Z) ⟨#[]⟩ _ (by omega) (by omega) (by omega) nG aG (by rw [lG, M.val_trail, hv, Nat.zero_mul])
  · obtain ⟨c, t, hc, hct⟩ := M.exists_ct _ (Nat.pos_of_ne_zero hv)
    have htk : M.val 10 (A.data.toList ++ F.data.toList) * 10 ^ k = c * 10 ^ (t + k) := by rw [hct, Nat.mul_assoc, ← Nat.pow_add]
    obtain ⟨m, hm⟩ := M.ct_of_val h2 hc hct
    have hlen := congrArg List.length hm
    simp only [List.length_append, List.length_replicate, ← sz_list] at hlen
    refine ⟨bA (M.dg c), tx (e + ((t : Int) - F.size)), by rw [bA_size]; omega, by have := tx_small (e + ((t : Int) - F.size)) (by omega); omega, by rw [bA_toList, tx_list]; exact M.decB_fin neg c _ hc, ?_, ?_, ?_, ?_, ?_⟩
    · exact mk_yes neg A F e _ c t (by omega) (by omega) (by omega) h1 h2 hc hct rfl
    · exact mk_yes neg (Z ++ A) (F ++ Z) e _ c (t + k) (by omega) (by omega) (by omega) nB aB hc (by rw [lB, val_zeros2, htk]) (by rw [s3]; omega)
    · exact mk_yes neg (A ++ F) ⟨#[]⟩ _ _ c t (by omega) (by omega) (by omega) (by rw [lC]; exact h1) (by rw [lC]; exact h2) hc (by rw [lC]; exact hct) (by rw [h0]; omega)
    · exact mk_yes neg ⟨#[]⟩ (A ++ F) _ _ c t (by omega) (by omega) (by omega) (by rw [lD]; exact h1) (by rw [lD]; exact h2) hc (by rw [lD]; exact hct) (by rw [s1]; omega)
    · exact mk_yes neg (A ++ F ++ Z) ⟨#[]⟩ _ _ c (t + k) (by omega) (by omega) (by omega) nG aG hc (by rw [lG, M.val_trail, htk]) (by rw [h0, hZs]; omega)
set_option maxRecDepth 100000 in
set_option maxHeartbeats 2000000 in
theorem shifts_any (s t : ByteArray) (neg : Bool) (x : Int) (q : Nat) (w : World) (he : Env w) (hs : s.size ≤ maxLen) (hu : t.size ≤ maxLen) (hx : -2147483648 ≤ x ∧ x ≤ 2147483647) (hq : q ≤ 255) :
    Calls Tryd.prog 5 #[.string s, .string t, .bool neg, .int .i32 x, .int .u8 q] w fun r w' => r = .returned (.bool true) ∧ Below w.heap.size w w' := by
  unfold maxLen at hs hu
  have hs2 : s.size ≤ 9223372036854775807 := by omega
  have hu2 : t.size ≤ 9223372036854775807 := by omega
  obtain ⟨hx1, hx2⟩ := hx
  clear hs hu
  go_enter Tryd.func5, Tryd.ntmps5
  go_wp2_with fail
  refine (known_any w he).mono ?_
  rintro r w1 ⟨rfl, hb1⟩
  have B1 : Below w.heap.size w w1 := hb1
  have T1 := he.next B1
  clear hb1
  by_cases h3 : 40 < s.size
  · have d3 : decide ((40 : Int) < (s.size : Int)) = true := decide_eq_true (by omega)
    obtain ⟨b, hb⟩ : ∃ b, decide (wrap64 ((s.size : Int) + (t.size : Int)) < 1) = b := ⟨_, rfl⟩
    cases b
    · go_wp2
      go_ret
      exact ⟨rfl, B1⟩
    · go_wp2
      go_ret
      exact ⟨rfl, B1⟩
  have d3 : decide ((40 : Int) < (s.size : Int)) = false := decide_eq_false (by omega)
  by_cases h4 : 40 < t.size
  · have d4 : decide ((40 : Int) < (t.size : Int)) = true := decide_eq_true (by omega)
    obtain ⟨b, hb⟩ : ∃ b, decide (wrap64 ((s.size : Int) + (t.size : Int)) < 1) = b := ⟨_, rfl⟩
    cases b
    · go_wp2
      go_ret
      exact ⟨rfl, B1⟩
    · go_wp2
      go_ret
      exact ⟨rfl, B1⟩
  have d4 : decide ((40 : Int) < (t.size : Int)) = false := decide_eq_false (by omega)
  by_cases h1 : s.size + t.size < 1
  · have d1 : decide ((s.size : Int) + (t.size : Int) < 1) = true := decide_eq_true (by omega)
    go_wp2
    go_ret
    exact ⟨rfl, B1⟩
  have d1 : decide ((s.size : Int) + (t.size : Int) < 1) = false := decide_eq_false (by omega)
  obtain ⟨k, hk⟩ : ∃ k, q % 9 = k := ⟨_, rfl⟩
  have hk9 : k < 9 := by omega
  have hk2 : ((q : Int) % 9) = (k : Int) := by omega
  clear hk
  have cS := fun W => digits_any s W (by omega)
  have cU := fun W => digits_any t W (by omega)
  have zS : (bA (digs s.data.toList)).size ≤ 40 := by rw [bA_size, digs_length, ← sz_list]; omega
  have zU : (bA (digs t.data.toList)).size ≤ 40 := by rw [bA_size, digs_length, ← sz_list]; omega
  have hne : (bA (digs s.data.toList)).data.toList ++ (bA (digs t.data.toList)).data.toList ≠ [] := by
    rw [bA_toList, bA_toList]
    intro h
    have := congrArg List.length h
    rw [List.length_append, digs_length, digs_length, ← sz_list, ← sz_list] at this
    simp only [List.length_nil] at this; omega
  have hall : M.allD 10 ((bA (digs s.data.toList)).data.toList ++ (bA (digs t.data.toList)).data.toList) = true := by
    rw [bA_toList, bA_toList]; exact all_app (digs_all _) (digs_all _)
  generalize bA (digs s.data.toList) = A at *
  generalize bA (digs t.data.toList) = F at *
  have HN := Lib.hid hne
  have HA := Lib.hid hall
  clear hne hall
  go_wp2_with fail
  clear d1 d3 d4
  go_loop [11, 12] (fun zv v => ∃ (j : Nat) (R : ByteArray), zv = .string R ∧ v = .int .i64 j ∧ j ≤ k ∧ R.size ≤ j ∧ Hid (R = bA (M.zs j))) (fun _ v => k - (intOf v).toNat)
  case atStart => exact ⟨0, ⟨#[]⟩, rfl, rfl, Nat.zero_le _, Nat.le_refl _, rfl⟩
  case round =>
    obtain ⟨j, R, rfl, rfl, hjk, hRz, HS⟩ := hrel
    by_cases hjl : j < k
    · have d5 : decide (j < k) = true := by simpa using hjl
      have HZ := Lib.hid (append_sz R ⟨#[48]⟩)
      go_wp2
      go_round
      case rel => exact ⟨j + 1, R ++ ⟨#[48]⟩, rfl, by go_num, by omega, by rw [HZ.out]; show R.size + 1 ≤ j + 1; omega, by rw [Hid, HS.out, ← M.zs_snoc]; exact bA_append _ [48]⟩
      case measure => simp [intOf]; omega
    · obtain rfl : j = k := by omega
      have d5 : decide (j < j) = false := by simp
      obtain ⟨D, E, hD, hE, hdec, cA, cB, cC, cD, cG⟩ := shifts_make neg A F R x j zS zU (by omega) hx1 hx2 (by rw [HS.out, bA_toList]) HN.out HA.out
      have z1 := tx_small x (by omega)
      have aE := fun W => radd_yes 0 x W (by rw [tx0]; decide) (by omega) (by omega)
      rw [tx0, Int.zero_add] at aE
      have aC := fun W => radd_yes x (-(F.size : Int)) W (by omega) (by omega) (by omega)
      have aD := fun W => radd_yes x (A.size : Int) W (by omega) (by omega) (by omega)
      have aG := fun W => radd_yes x (-(F.size : Int) - (R.size : Int)) W (by omega) (by omega) (by omega)
      have cGood := fun W (hW : Tab W) => goodD_any 0 neg D E W hW hD hE
      rw [hdec] at cGood
      have zC := tx_small (x + -(F.size : Int)) (by omega)
      have zD := tx_small (x + (A.size : Int)) (by omega)
      have zG := tx_small (x + (-(F.size : Int) - (R.size : Int))) (by omega)
      generalize tx (x + -(F.size : Int)) = XC at *
      generalize tx (x + (A.size : Int)) = XD at *
      generalize tx (x + (-(F.size : Int) - (R.size : Int))) = XG at *
      generalize tx x = XE at *
      have e1 := eqG
      have e2 := eql4 0 0 neg neg D D E E
      rw [decide_eq_true ⟨rfl, rfl, rfl, rfl⟩] at e2
      clear hjl HS hdec
      go_wp2_with fail
      refine (cS _).mono ?_
      rintro r w2 ⟨rfl, hb2⟩
      have B2 : Below w.heap.size w w2 := B1.trans (hb2.mono B1.size)
      clear hb2 B1 T1
      go_wp2_with fail
      refine (cU _).mono ?_
      rintro r w3 ⟨rfl, hb3⟩
      have B3 : Below w.heap.size w w3 := B2.trans (hb3.mono B2.size)
      clear hb3 B2
      go_wp2_with fail
      refine (aE _).mono ?_
      rintro r w4 ⟨rfl, hb4⟩
      have B4 : Below w.heap.size w w4 := B3.trans (hb4.mono B3.size)
      have T4 := he.next B4
      clear hb4 B3
      go_wp2_with fail
      refine (cA _ T4.1).mono ?_
      rintro r w5 ⟨rfl, hb5⟩
      have B5 : Below w.heap.size w w5 := B4.trans (hb5.mono B4.size)
      have T5 := env_new (he.next B5) (.cells #[.int .i64 0, .bool neg, .string D, .string E] 23)
      clear hb5 B4 T4
      go_wp2_with fail
      refine (cB _ T5.1).mono ?_
      rintro r w6 ⟨rfl, hb6⟩
      have KA := (Blk.made w5 0 neg D E).next hb6
      have B6 : Below w.heap.size w w6 := below_over B5 hb6
      clear hb6 B5 T5
      obtain ⟨ga, hga⟩ : ∃ g, w5.heap.size = g := ⟨_, rfl⟩
      rw [hga] at KA ⊢
      clear hga
      have T6 := he.next B6
      go_wp2_with fail
      refine (aC _).mono ?_
      rintro r w7 ⟨rfl, hb7⟩
      have KA7 := KA.over hb7
      have KB := (Blk.made w6 0 neg D E).next hb7
      have B7 : Below w.heap.size w w7 := below_over B6 hb7
      have T7 := he.next B7
      clear hb7 B6 T6 KA
      obtain ⟨gb, hgb⟩ : ∃ g, w6.heap.size = g := ⟨_, rfl⟩
      rw [hgb] at KB ⊢
      clear hgb
      go_wp2_with fail
      refine (cC _ T7.1).mono ?_
      rintro r w8 ⟨rfl, hb8⟩
      have KA8 := KA7.next hb8
      have KB8 := KB.next hb8
      have B8 : Below w.heap.size w w8 := B7.trans (hb8.mono B7.size)
      have T8 := he.next B8
      clear hb8 B7 T7 KA7 KB
      go_wp2_with fail
      refine (aD _).mono ?_
      rintro r w9 ⟨rfl, hb9⟩
      have KA9 := KA8.over hb9
      have KB9 := KB8.over hb9
      have KC := (Blk.made w8 0 neg D E).next hb9
      have B9 : Below w.heap.size w w9 := below_over B8 hb9
      have T9 := he.next B9
      clear hb9 B8 T8 KA8 KB8
      obtain ⟨gc, hgc⟩ : ∃ g, w8.heap.size = g := ⟨_, rfl⟩
      rw [hgc] at KC ⊢
      clear hgc
      go_wp2_with fail
      refine (cD _ T9.1).mono ?_
      rintro r w10 ⟨rfl, hb10⟩
      have KA10 := KA9.next hb10
      have KB10 := KB9.next hb10
      have KC10 := KC.next hb10
      have B10 : Below w.heap.size w w10 := B9.trans (hb10.mono B9.size)
      have T10 := he.next B10
      clear hb10 B9 T9 KA9 KB9 KC
      go_wp2_with fail
      refine (aG _).mono ?_
      rintro r w11 ⟨rfl, hb11⟩
      have KA11 := KA10.over hb11
      have KB11 := KB10.over hb11
      have KC11 := KC10.over hb11
      have KD := (Blk.made w10 0 neg D E).next hb11
      have B11 : Below w.heap.size w w11 := below_over B10 hb11
      have T11 := he.next B11
      clear hb11 B10 T10 KA10 KB10 KC10
      obtain ⟨gd, hgd⟩ : ∃ g, w10.heap.size = g := ⟨_, rfl⟩
      rw [hgd] at KD ⊢
      clear hgd
      go_wp2_with fail
      refine (cG _ T11.1).mono ?_
      rintro r w12 ⟨rfl, hb12⟩
      have KA12 := KA11.next hb12
      have KB12 := KB11.next hb12
      have KC12 := KC11.next hb12
      have KD12 := KD.next hb12
      have B12 : Below w.heap.size w w12 := B11.trans (hb12.mono B11.size)
      have T12 := env_new (he.next B12) (.cells #[.int .i64 0, .bool neg, .string D, .string E] 23)
      clear hb12 B11 T11 KA11 KB11 KC11 KD
      have la := KA12.lt
      have lb := KB12.lt
      have lc := KC12.lt
      have ld := KD12.lt
      obtain ⟨ka0, ka1, ka2, ka3⟩ := KA12.cells
      obtain ⟨kb0, kb1, kb2, kb3⟩ := KB12.cells
      obtain ⟨kc0, kc1, kc2, kc3⟩ := KC12.cells
      obtain ⟨kd0, kd1, kd2, kd3⟩ := KD12.cells
      clear KB12 KC12 KD12 cS cU aE aC aD aG cA cB cC cD cG
      go_wp2_with fail
      refine (cGood _ T12.1).mono ?_
      rintro r w13 ⟨rfl, hb13⟩
      have KA13 := KA12.over hb13
      have B13 : Below w.heap.size w w13 := below_over B12 hb13
      clear hb13 B12 T12 ka0 ka1 ka2 ka3 kb0 kb1 kb2 kb3 kc0 kc1 kc2 kc3 kd0 kd1 kd2 kd3
      have la13 := KA13.lt
      obtain ⟨ka0, ka1, ka2, ka3⟩ := KA13.cells
      go_wp2
      go_ret
      exact ⟨rfl, B13⟩
end Go.Proofs.YtomgbcgaokebjaaDoor
