/- Walks of targumref4's MulAdd, Text, compare; that both sides' MulAdd answer the same. Walk of targumref4's less. -/
import Derived.Test.YtocegiffbgnogaaDoorRd
import Derived.Test.YtocegiffbgnogaaDoorWk
set_option linter.unusedVariables false
namespace Go.Proofs.YtocegiffbgnogaaDoor
open Go.RowKit

set_option maxRecDepth 100000 in
set_option maxHeartbeats 1000000 in
theorem rcompare_any (a b : ByteArray) (w : World) (ha : a.size ≤ 1000000) (hb : b.size ≤ 1000000) :
    Calls Tryd.prog 33 #[.string a, .string b] w fun e w' => e = .returned (.int .i64 (M.cmpS a.data.toList b.data.toList)) ∧ w = w' := by
  have e1 := less_is a b
  have e2 := gtr_is a b
  obtain ⟨p, hp⟩ : ∃ p, Op.bytesLess a.toList b.toList = p := ⟨_, rfl⟩
  obtain ⟨q, hq⟩ : ∃ q, (a.toList == b.toList) = q := ⟨_, rfl⟩
  rw [hp] at e1
  rw [hp, hq] at e2
  unfold M.cmpS
  rw [← sz_list, ← sz_list]
  by_cases h1 : a.size < b.size
  · rw [if_pos h1]
    have d1 : decide (a.size < b.size) = true := decide_eq_true h1
    go_enter Tryd.func33, Tryd.ntmps33
    go_wp2
    go_ret
    exact ⟨rfl, rfl⟩
  · have d1 : decide (a.size < b.size) = false := decide_eq_false h1
    rw [if_neg h1]
    by_cases h2 : b.size < a.size
    · rw [if_pos h2]
      have d2 : decide (b.size < a.size) = true := decide_eq_true h2
      go_enter Tryd.func33, Tryd.ntmps33
      go_wp2
      go_ret
      exact ⟨rfl, rfl⟩
    · have d2 : decide (b.size < a.size) = false := decide_eq_false h2
      rw [if_neg h2]
      by_cases h3 : a.data.toList < b.data.toList
      · rw [if_pos h3]
        rw [decide_eq_true h3] at e1
        subst e1
        clear e2 h3 hq
        go_enter Tryd.func33, Tryd.ntmps33
        go_wp2
        go_ret
        exact ⟨rfl, rfl⟩
      · rw [if_neg h3]
        rw [decide_eq_false h3] at e1
        subst e1
        rw [Bool.false_or] at e2
        by_cases h4 : b.data.toList < a.data.toList
        · rw [if_pos h4]
          rw [decide_eq_true h4] at e2
          have e3 : q = false := by simpa using e2
          subst e3
          clear e2 h3 h4
          go_enter Tryd.func33, Tryd.ntmps33
          go_wp2
          go_ret
          exact ⟨rfl, rfl⟩
        · rw [if_neg h4]
          rw [decide_eq_false h4] at e2
          have e3 : q = true := by simpa using e2
          subst e3
          clear e2 h3 h4
          go_enter Tryd.func33, Tryd.ntmps33
          go_wp2
          go_ret
          exact ⟨rfl, rfl⟩
end Go.Proofs.YtocegiffbgnogaaDoor

namespace Go.Proofs.YtocegiffbgnogaaDoor
open Go.RowKit

theorem less_step (r : List UInt8) (va vb b da db X b' : Nat) (hX : X < 10) (h : M.val 10 r + vb = va + b * 10 ^ r.length) (hx : X + b + db = da + 10 * b') :
    M.val 10 (dg1 X :: r) + (db * 10 ^ r.length + vb) = (da * 10 ^ r.length + va) + b' * 10 ^ (r.length + 1) := by
  rw [M.val_cons, dg1_dv, Nat.mod_eq_of_lt hX, Nat.pow_succ]
  generalize 10 ^ r.length = T at *
  have e : X * T + b * T + db * T = da * T + b' * (T * 10) := by
    rw [← Nat.add_mul, ← Nat.add_mul, hx, Nat.add_mul]
    congr 1
    rw [Nat.mul_comm 10 b', Nat.mul_assoc, Nat.mul_comm 10 T]
  omega
theorem drop_next (l : List UInt8) (M i : Nat) (hM : l.length = M) (h : ¬ i < M) : l.drop (M - (i + 1)) = l.drop (M - i) := by
  rw [show M - (i + 1) = 0 by omega, show M - i = 0 by omega]
theorem dg_len_mono {x y : Nat} (h : y ≤ x) : (M.dg y).length ≤ (M.dg x).length := by
  rcases Nat.lt_or_ge (M.dg x).length (M.dg y).length with k | k
  · have := M.dg_len_lt k; omega
  · exact k
theorem dg1_small {X : Nat} (h : X < 10) : ((dg1 X).toNat : Int) = 48 + (X : Int) := by
  unfold dg1; rw [Nat.mod_eq_of_lt h]; exact dig_u8 X h

set_option maxRecDepth 100000 in
set_option maxHeartbeats 2000000 in
theorem rless_any (x y : Nat) (w : World) (hxy : y ≤ x) (hlx : (M.dg x).length ≤ 10000) :
    Calls Tryd.prog 34 #[.string (bA (M.dg x)), .string (bA (M.dg y))] w fun e w' => e = .returned (.string (tx ((x - y : Nat) : Int))) ∧ Below w.heap.size w w' := by
  have hmono := dg_len_mono hxy
  have hDl : (bA (M.dg x)).data.toList = M.dg x := bA_toList _
  have hEl : (bA (M.dg y)).data.toList = M.dg y := bA_toList _
  have hDs : (bA (M.dg x)).size = (M.dg x).length := bA_size _
  have hEs : (bA (M.dg y)).size = (M.dg y).length := bA_size _
  have hpos := M.dg_len_pos x
  have hDa := M.dg_all x
  have hEa := M.dg_all y
  have hDv := M.dg_val x
  have hEv := M.dg_val y
  rw [← hDl] at hDa hDv
  rw [← hEl] at hEa hEv
  obtain ⟨D, hD⟩ : ∃ D, bA (M.dg x) = D := ⟨_, rfl⟩
  obtain ⟨E, hE⟩ : ∃ E, bA (M.dg y) = E := ⟨_, rfl⟩
  rw [hD] at hDa hDv hDs ⊢
  rw [hE] at hEa hEv hEs ⊢
  rw [← hDs] at hmono hlx hpos
  rw [← hEs] at hmono
  clear hDl hEl hD hE hDs hEs
  have HDa := Lib.hid hDa
  have HEa := Lib.hid hEa
  have HDv := Lib.hid hDv
  have HEv := Lib.hid hEv
  clear hDa hEa hDv hEv
  obtain ⟨i0, hi, hz0, hz1, hz2⟩ := info_parts Tryd.info5
  go_enter Tryd.func34, Tryd.ntmps34
  go_wp2_with (first | (at_make; refine wpList_make_full w rfl (.tmp 10) (.tmp 10) 22 rfl w.heap.size 5 i0 (.int .u8 0) 1 Tryd.underlying22 hi hz0 hz1 .i64 .i64 _ _ D.size rfl rfl (by simp) (by simp) (by rw [hz2]; omega) (by unfold maxLen; omega) (Nat.le_refl _) ?_; intro w1 ho1 hg1; obtain ⟨hR1, hB1⟩ := made_mem w w1 _ ho1 hg1; have HR1 := Lib.hid hR1; clear ho1 hg1 hR1) | fail)
  go_loopw [6, 7] (fun bv iv wr => ∃ (b i j : Nat) (r : List UInt8), bv = .int .i64 b ∧ iv = .int .i64 i ∧ b ≤ 1 ∧ i + j = D.size ∧ Hid (r.length = i) ∧ Hid (M.allD 10 r = true) ∧ Hid (M.val 10 r + M.val 10 (E.data.toList.drop (E.size - i)) = M.val 10 (D.data.toList.drop j) + b * 10 ^ r.length) ∧ Hid (Row wr w.heap.size (List.replicate j 0 ++ r)) ∧ Below w.heap.size w wr) (fun _ iv _ => D.size - (intOf iv).toNat)
  case atStart => exact ⟨0, 0, D.size, [], rfl, rfl, by omega, by omega, rfl, rfl, by show _ = _; rw [List.drop_of_length_le (by rw [← sz_list]; omega), List.drop_of_length_le (by rw [← sz_list]; omega)]; simp [M.val], by show Row _ _ _; rw [List.append_nil]; exact HR1.out, hB1⟩
  case round =>
    obtain ⟨b, i, j, r, rfl, rfl, hb, hij, hrl, hra, hst, hrow, hbw⟩ := hrel
    by_cases hlt : i < D.size
    · have hltd : decide (i < D.size) = true := by simpa using hlt
      obtain ⟨j', rfl⟩ : ∃ j', j = j' + 1 := ⟨j - 1, by omega⟩
      have hjl : j' < D.size := by omega
      have eidx : (D.size : Int) - 1 - (i : Int) = (j' : Int) := by omega
      have hda : M.dv D[j'] < 10 := (M.allD_iff _ _).1 HDa.out _ (List.mem_of_getElem? (get_list D j' hjl))
      obtain ⟨a1, a2, a3⟩ := M.dv_lt10 hda
      have hvd := M.val_cons 10 D[j'] (D.data.toList.drop (j' + 1))
      rw [← drop_cons D j' hjl, List.length_drop, ← sz_list, show D.size - (j' + 1) = i by omega] at hvd
      obtain ⟨da, hdaa⟩ : ∃ da, M.dv D[j'] = da := ⟨_, rfl⟩
      rw [hdaa] at hda a3 hvd
      have eda : (D[j'].toNat : Int) - 48 = (da : Int) := by omega
      have hfr := hrow.out.frozen j'
      obtain ⟨cx, hcx⟩ : ∃ cx, wr.cell? ⟨w.heap.size, j', none⟩ = some (.int .u8 cx) := ⟨_, hrow.out.cell j' (by simp; omega)⟩
      have hset := fun X => hrow.out.set j' (dg1 X)
      simp only [set_rep] at hset
      have HSET := Lib.hid hset
      have hstp := fun (db X b' : Nat) (hX : X < 10) (hx : X + b + db = da + 10 * b') => less_step r _ _ b da db X b' hX hst.out hx
      rw [hrl.out] at hstp
      rw [← hvd] at hstp
      have HSTP := Lib.hid hstp
      clear hset hrow hst hstp hvd hdaa a3
      by_cases hiE : i < E.size
      · have hiEd : decide (i < E.size) = true := by simpa using hiE
        obtain ⟨n', hn'⟩ : ∃ n', E.size = i + 1 + n' := ⟨E.size - (i + 1), by omega⟩
        have hnl : n' < E.size := by omega
        have eidx2 : (E.size : Int) - 1 - (i : Int) = (n' : Int) := by omega
        have hdb : M.dv E[n'] < 10 := (M.allD_iff _ _).1 HEa.out _ (List.mem_of_getElem? (get_list E n' hnl))
        obtain ⟨b1, b2, b3⟩ := M.dv_lt10 hdb
        have hve := M.val_cons 10 E[n'] (E.data.toList.drop (n' + 1))
        rw [← drop_cons E n' hnl, List.length_drop, ← sz_list, show E.size - (n' + 1) = i by omega] at hve
        obtain ⟨db, hdbb⟩ : ∃ db, M.dv E[n'] = db := ⟨_, rfl⟩
        rw [hdbb] at hdb b3 hve
        have edb : (E[n'].toNat : Int) - 48 = (db : Int) := by omega
        have hs1 := HSTP.out db
        rw [show E.size - i = n' + 1 by omega] at hs1
        rw [← hve] at hs1
        have HS1 := Lib.hid hs1
        clear HSTP hs1 hve hdbb b3 hn'
        by_cases hneg : da < b + db
        · have hq : decide ((da : Int) - (b : Int) - (db : Int) < 0) = true := decide_eq_true (by omega)
          obtain ⟨X, hX⟩ : ∃ X, X + b + db = da + 10 * 1 := ⟨da + 10 - b - db, by omega⟩
          have hX10 : X < 10 := by omega
          have hXe : (da : Int) - (b : Int) - (db : Int) + 10 = (X : Int) := by omega
          have h1 := HSET.out X
          rw [dg1_small hX10] at h1
          have H1 := Lib.hid h1
          have H2 := Lib.hid (HS1.out X 1 hX10 hX)
          clear h1 hX HSET HS1
          go_wp2
          go_roundw
          case rel => exact ⟨1, i + 1, j', dg1 X :: r, rfl, by go_num, by omega, by omega, by show _ = _; rw [List.length_cons, hrl.out], allD_cons (dg1_dv X) (by omega) hra.out, by have h2 := H2.out; show _ = _; rw [show E.size - (i + 1) = n' by omega, List.length_cons, hrl.out]; exact h2, H1.out, hbw.setCell (Nat.le_refl _) _⟩
          case measure => simp [intOf]; omega
        · have hq : decide ((da : Int) - (b : Int) - (db : Int) < 0) = false := decide_eq_false (by omega)
          obtain ⟨X, hX⟩ : ∃ X, X + b + db = da + 10 * 0 := ⟨da - b - db, by omega⟩
          have hX10 : X < 10 := by omega
          have hXe : (da : Int) - (b : Int) - (db : Int) = (X : Int) := by omega
          have h1 := HSET.out X
          rw [dg1_small hX10] at h1
          have H1 := Lib.hid h1
          have H2 := Lib.hid (HS1.out X 0 hX10 hX)
          rw [hXe] at hq
          clear h1 hX HSET HS1
          go_wp2
          go_roundw
          case rel => exact ⟨0, i + 1, j', dg1 X :: r, rfl, by go_num, by omega, by omega, by show _ = _; rw [List.length_cons, hrl.out], allD_cons (dg1_dv X) (by omega) hra.out, by have h2 := H2.out; show _ = _; rw [show E.size - (i + 1) = n' by omega, List.length_cons, hrl.out]; exact h2, H1.out, hbw.setCell (Nat.le_refl _) _⟩
          case measure => simp [intOf]; omega
      · have hiEd : decide (i < E.size) = false := by simpa using hiE
        have hs1 := HSTP.out 0
        simp only [Nat.zero_mul, Nat.zero_add, Nat.add_zero] at hs1
        rw [← drop_next E.data.toList E.size i (sz_list E).symm hiE] at hs1
        have HS1 := Lib.hid hs1
        clear HSTP hs1
        by_cases hneg : da < b
        · have hq : decide ((da : Int) - (b : Int) < 0) = true := decide_eq_true (by omega)
          obtain ⟨X, hX⟩ : ∃ X, X + b = da + 10 * 1 := ⟨da + 10 - b, by omega⟩
          have hX10 : X < 10 := by omega
          have hXe : (da : Int) - (b : Int) + 10 = (X : Int) := by omega
          have h1 := HSET.out X
          rw [dg1_small hX10] at h1
          have H1 := Lib.hid h1
          have H2 := Lib.hid (HS1.out X 1 hX10 hX)
          clear h1 hX HSET HS1
          go_wp2
          go_roundw
          case rel => exact ⟨1, i + 1, j', dg1 X :: r, rfl, by go_num, by omega, by omega, by show _ = _; rw [List.length_cons, hrl.out], allD_cons (dg1_dv X) (by omega) hra.out, by have h2 := H2.out; show _ = _; rw [List.length_cons, hrl.out]; exact h2, H1.out, hbw.setCell (Nat.le_refl _) _⟩
          case measure => simp [intOf]; omega
        · have hq : decide ((da : Int) - (b : Int) < 0) = false := decide_eq_false (by omega)
          obtain ⟨X, hX⟩ : ∃ X, X + b = da + 10 * 0 := ⟨da - b, by omega⟩
          have hX10 : X < 10 := by omega
          have hXe : (da : Int) - (b : Int) = (X : Int) := by omega
          have h1 := HSET.out X
          rw [dg1_small hX10] at h1
          have H1 := Lib.hid h1
          have H2 := Lib.hid (HS1.out X 0 hX10 hX)
          rw [hXe] at hq
          clear h1 hX HSET HS1
          go_wp2
          go_roundw
          case rel => exact ⟨0, i + 1, j', dg1 X :: r, rfl, by go_num, by omega, by omega, by show _ = _; rw [List.length_cons, hrl.out], allD_cons (dg1_dv X) (by omega) hra.out, by have h2 := H2.out; show _ = _; rw [List.length_cons, hrl.out]; exact h2, H1.out, hbw.setCell (Nat.le_refl _) _⟩
          case measure => simp [intOf]; omega
    · obtain rfl : j = 0 := by omega
      obtain rfl : i = D.size := by omega
      have hltd : decide (D.size < D.size) = false := by simp
      have h1 := hst.out
      rw [List.drop_zero, HDv.out, show E.size - D.size = 0 by omega, List.drop_zero, HEv.out] at h1
      have h2 := M.val_lt 10 r hra.out
      have hb0 : b = 0 := by
        rcases Nat.eq_zero_or_pos b with hb0 | hb0
        · exact hb0
        · obtain rfl : b = 1 := by omega
          omega
      subst hb0
      have hv : M.val 10 r = x - y := by omega
      have hrow1 := hrow.out
      rw [List.replicate_zero, List.nil_append] at hrow1
      have hcv := hrow1.conv0 D.size
      rw [hrl.out] at hcv
      have c1 := fun W => rnorm_list false r W ((M.okD_iff _ _).2 ⟨List.length_pos_iff.1 (by rw [hrl.out]; exact hpos), hra.out⟩) (by rw [hrl.out]; omega)
      rw [hv, show M.sgn false (x - y) = ((x - y : Nat) : Int) from rfl] at c1
      generalize bA r = Rr at *
      clear h1 h2 hv hrow1 hrow hst
      go_wp2_with fail
      refine (c1 _).mono ?_
      rintro r w' ⟨rfl, rfl⟩
      go_wp2
      go_ret
      exact ⟨rfl, hbw⟩
end Go.Proofs.YtocegiffbgnogaaDoor
