/- Walk of targumref4's Make. What targumref4's Make and Parse answer; that both sides answer the same. -/
import Derived.Test.YtocegiffbgnogaaDoorRg
import Derived.Test.YtocegiffbgnogaaDoorWo
set_option linter.unusedVariables false
namespace Go.Proofs.YtocegiffbgnogaaDoor
open Go.RowKit

set_option maxRecDepth 100000 in
set_option maxHeartbeats 1000000 in
theorem rmake_no (neg : Bool) (A F X : ByteArray) (w : World) (hA : A.size ≤ 1000) (hF : F.size ≤ 1000) (hX : X.size ≤ 1000)
    (h : M.okD 10 (A.data.toList ++ F.data.toList) = false ∨ M.goodB X.data.toList = false) :
    Calls Tryd.prog 12 #[.bool neg, .string A, .string F, .string X] w fun e w' => e = .returned (.tuple #[dZ, .bool false]) ∧ Below w.heap.size w w' := by
  have hsz : (A ++ F).size ≤ 2000 := by rw [append_sz]; omega
  have c1 := fun W => rdigits_any (A ++ F) W (by omega)
  rw [both_list] at c1
  have c2 := fun W => rgood_any X W (by omega)
  by_cases h1 : M.okD 10 (A.data.toList ++ F.data.toList) = true
  · have h2 : M.goodB X.data.toList = false := by
      rcases h with h | h
      · rw [h1] at h; cases h
      · exact h
    rw [h1] at c1
    rw [h2] at c2
    clear h h1 h2 hsz
    go_enter Tryd.func12, Tryd.ntmps12
    go_wp2_with fail
    refine (c1 _).mono ?_
    rintro r w' ⟨rfl, rfl⟩
    go_wp2_with fail
    refine (c2 _).mono ?_
    rintro r w' ⟨rfl, rfl⟩
    go_wp2
    exact bodyPost_ret (ret_dec Tryd.results12 _ rfl rfl (Blk.made w 0 false ⟨#[]⟩ ⟨#[]⟩)) rfl ⟨rfl, (Below.refl _ _).alloc (Nat.le_refl _) _⟩
  · rw [show M.okD 10 (A.data.toList ++ F.data.toList) = false by simpa using h1] at c1
    clear h h1 hsz
    go_enter Tryd.func12, Tryd.ntmps12
    go_wp2_with fail
    refine (c1 _).mono ?_
    rintro r w' ⟨rfl, rfl⟩
    go_wp2
    exact bodyPost_ret (ret_dec Tryd.results12 _ rfl rfl (Blk.made w 0 false ⟨#[]⟩ ⟨#[]⟩)) rfl ⟨rfl, (Below.refl _ _).alloc (Nat.le_refl _) _⟩
/-- What the document's Make answers, of digits that are noughts, then l, then so many noughts. -/
def RPost (neg : Bool) (F : ByteArray) (z : Int) (r : List UInt8) (T : Nat) : Value :=
  if r = [] then .tuple #[dV 0 neg ⟨#[48]⟩ ⟨#[48]⟩, .bool true] else .tuple #[dV 0 neg (bA r) (tx (z + ((T : Int) - F.size))), .bool true]
set_option maxRecDepth 100000 in
set_option maxHeartbeats 2000000 in
theorem rmake_core (neg : Bool) (A F : ByteArray) (z : Int) (m T : Nat) (r : List UInt8) (w : World) (hA : A.size ≤ 1000) (hF : F.size ≤ 1000) (hX : (tx z).size ≤ 1000)
    (ho : M.okD 10 (A.data.toList ++ F.data.toList) = true) (hl : A.data.toList ++ F.data.toList = M.zs m ++ r ++ M.zs T) (he : EndsWell (M.zs m ++ r)) (hh : r.head? ≠ some 48) :
    Calls Tryd.prog 12 #[.bool neg, .string A, .string F, .string (tx z)] w fun e w' => e = .returned (RPost neg F z r T) ∧ Below w.heap.size w w' := by
  have hsz : (A ++ F).size ≤ 2000 := by rw [append_sz]; omega
  have c1 := fun W => rdigits_any (A ++ F) W (by omega)
  rw [both_list, ho] at c1
  have c2 := fun W => rgood_any (tx z) W (by omega)
  rw [tx_good] at c2
  have hTl : T ≤ 2000 := by
    have := congrArg List.length hl
    rw [← both_list, ← sz_list] at this
    simp only [List.length_append, List.length_replicate] at this
    omega
  have c3 := fun W => radd_yes z ((T : Int) - F.size) W (by omega) (by omega) (by omega)
  have HL := Lib.hid (show (A ++ F).data.toList = M.zs m ++ r ++ M.zs T by rw [both_list]; exact hl)
  have HE := Lib.hid he
  have HH := Lib.hid hh
  clear hl he hh ho
  obtain ⟨V, hV⟩ : ∃ V, RPost neg F z r T = V := ⟨_, rfl⟩
  rw [hV]
  have HV := Lib.hid hV
  clear hV
  obtain ⟨R, hR⟩ : ∃ R, tx (z + ((T : Int) - F.size)) = R := ⟨_, rfl⟩
  rw [hR] at c3
  have HRX := Lib.hid hR
  clear hR
  generalize tx z = X at *
  go_enter Tryd.func12, Tryd.ntmps12
  go_wp2_with fail
  refine (c1 _).mono ?_
  rintro r w' ⟨rfl, rfl⟩
  go_wp2_with fail
  refine (c2 _).mono ?_
  rintro r w' ⟨rfl, rfl⟩
  go_wp2_with fail
  go_loop [10, 11] (fun dv nv => ∃ (t : ByteArray) (k j : Nat), dv = .string t ∧ nv = .int .i64 j ∧ j + k = T ∧ t.size ≤ 2000 ∧ Hid (t.data.toList = M.zs m ++ r ++ M.zs k)) (fun dv _ => match dv with | .string t => t.size | _ => 0)
  case atStart => exact ⟨_, T, 0, rfl, rfl, by omega, hsz, HL.out⟩
  case round =>
    obtain ⟨t, k, j, rfl, rfl, hjk, hts, HS⟩ := hrel
    by_cases h0 : 0 < t.size
    · have hlast := last_list t h0
      match k, hjk, HS with
      | 0, hjk, HS =>
        have e1 : t.data.toList = M.zs m ++ r := by rw [HS.out]; simp
        have h1 : ¬ (t[t.size - 1]'(by omega)).toNat = 48 := by
          intro e
          apply HE.out
          rw [← e1, hlast, UInt8.toNat_inj.1 (show (t[t.size - 1]'(by omega)).toNat = (48 : UInt8).toNat from e)]; simp
        have hb : (((t[t.size - 1]'(by omega)).toNat : Int) == 48) = false := by simp; omega
        obtain rfl : j = T := by omega
        have HT := Lib.hid e1
        clear hlast e1 h1 HS
        go_wp2_with fail
        go_loop [10] (fun dv => ∃ (u : ByteArray) (i : Nat), dv = .string u ∧ u.size ≤ 2000 ∧ Hid (u.data.toList = M.zs i ++ r)) (fun dv => match dv with | .string t => t.size | _ => 0)
        case atStart => exact ⟨_, m, rfl, hts, HT.out⟩
        case round =>
          obtain ⟨u, i, rfl, hus, HU⟩ := hrel
          by_cases h0 : 0 < u.size
          · have hl := drop_cons u 0 h0
            rw [List.drop_zero] at hl
            match i, HU with
            | 0, HU =>
              have e1 : u.data.toList = r := by rw [HU.out]; simp
              have h1 : ¬ u[0].toNat = 48 := by
                intro e
                apply HH.out
                rw [← e1, hl, UInt8.toNat_inj.1 (show u[0].toNat = (48 : UInt8).toNat from e)]; rfl
              have hb : ((u[0].toNat : Int) == 48) = false := by simp; omega
              have hne : r ≠ [] := by rw [← e1, hl]; simp
              have hue : (u.toList == []) = false := by rw [ByteArray.toList_eq, hl]; rfl
              have hue2 : u.toList.isEmpty = false := by rw [ByteArray.toList_eq, hl]; rfl
              have HR : Hid (.tuple #[dV 0 neg u R, .bool true] = V) := Lib.hid (by
                rw [← HV.out]; unfold RPost; rw [if_neg hne, ← HRX.out, ← eq_bA e1])
              clear hl e1 h1 hne HU
              go_wp2_with fail
              refine (c3 _).mono ?_
              rintro r w1 ⟨rfl, hb1⟩
              have K1 := (Blk.made w 0 false ⟨#[]⟩ ⟨#[]⟩).next hb1
              have B1 : Below w.heap.size w w1 := below_new hb1
              clear hb1 c3
              obtain ⟨g, hg⟩ : ∃ g, w.heap.size = g := ⟨_, rfl⟩
              rw [hg] at K1 B1 ⊢
              obtain ⟨k0, k1, k2, k3⟩ := K1.cells
              obtain ⟨f0, f1, f2, f3⟩ := K1.fro
              go_wp2
              exact bodyPost_ret (ret_dec Tryd.results12 _ rfl rfl (K1.set 0 neg _ _)) rfl ⟨by rw [HR.out], below_set4 (hg ▸ B1) (by omega) _ _ _ _⟩
            | i + 1, HU =>
              have e1 := HU.out
              rw [hl] at e1
              have e2 : u[0] = 48 := List.head_eq_of_cons_eq e1
              have e3 : u.data.toList.drop 1 = M.zs i ++ r := List.tail_eq_of_cons_eq e1
              have h1 : u[0].toNat = 48 := by rw [e2]; rfl
              have E3 := Lib.hid e3
              clear hl e1 e2 e3 HU
              go_wp2
              go_round
              case rel => exact ⟨_, i, rfl, by simp; omega, by show _ = _; rw [Lib.extract_to_end]; exact E3.out⟩
              case measure => simp; omega
          · have hz : u.data.toList = [] := List.eq_nil_of_length_eq_zero (by rw [← sz_list]; omega)
            have hr : r = [] := by
              have := HU.out
              rw [hz] at this
              exact (List.append_eq_nil_iff.1 this.symm).2
            obtain rfl : u = ⟨#[]⟩ := eq_bA hz
            have HR : Hid (.tuple #[dV 0 neg ⟨#[48]⟩ ⟨#[48]⟩, .bool true] = V) := Lib.hid (by
              rw [← HV.out]; unfold RPost; rw [if_pos hr])
            clear hz hr HU
            go_wp2
            exact bodyPost_ret (ret_dec Tryd.results12 _ rfl rfl (Blk.made w 0 neg ⟨#[48]⟩ ⟨#[48]⟩)) rfl ⟨by rw [HR.out], (Below.refl _ _).alloc (Nat.le_refl _) _⟩
      | k + 1, hjk, HS =>
        have e0 := HS.out
        rw [← M.zs_snoc, ← List.append_assoc] at e0
        have e1 := hlast.symm.trans e0
        obtain ⟨e2, e3⟩ := List.append_inj' e1 rfl
        have h1 : (t[t.size - 1]'(by omega)).toNat = 48 := by
          have := List.head_eq_of_cons_eq e3
          rw [this]; rfl
        have E2 := Lib.hid e2
        clear hlast e0 e1 e2 e3 HS
        go_wp2
        go_round
        case rel => exact ⟨_, k, j + 1, rfl, by go_num, by omega, by simp; omega, by show _ = _; rw [extract_take]; exact E2.out⟩
        case measure => simp; omega
    · have hz : t.data.toList = [] := List.eq_nil_of_length_eq_zero (by rw [← sz_list]; omega)
      have hm := HS.out
      rw [hz] at hm
      have hm2 := List.append_eq_nil_iff.1 hm.symm
      have hk0 : k = 0 := by have := congrArg List.length hm2.2; simpa using this
      subst hk0
      obtain rfl : j = T := by omega
      have HT := Lib.hid (show t.data.toList = M.zs m ++ r by rw [hz, hm2.1])
      clear hz hm hm2 HS
      go_wp2_with fail
      go_loop [10] (fun dv => ∃ (u : ByteArray) (i : Nat), dv = .string u ∧ u.size ≤ 2000 ∧ Hid (u.data.toList = M.zs i ++ r)) (fun dv => match dv with | .string t => t.size | _ => 0)
      case atStart => exact ⟨_, m, rfl, hts, HT.out⟩
      case round =>
        obtain ⟨u, i, rfl, hus, HU⟩ := hrel
        by_cases h0 : 0 < u.size
        · have hl := drop_cons u 0 h0
          rw [List.drop_zero] at hl
          match i, HU with
          | 0, HU =>
            have e1 : u.data.toList = r := by rw [HU.out]; simp
            have h1 : ¬ u[0].toNat = 48 := by
              intro e
              apply HH.out
              rw [← e1, hl, UInt8.toNat_inj.1 (show u[0].toNat = (48 : UInt8).toNat from e)]; rfl
            have hb : ((u[0].toNat : Int) == 48) = false := by simp; omega
            have hne : r ≠ [] := by rw [← e1, hl]; simp
            have hue : (u.toList == []) = false := by rw [ByteArray.toList_eq, hl]; rfl
            have hue2 : u.toList.isEmpty = false := by rw [ByteArray.toList_eq, hl]; rfl
            have HR : Hid (.tuple #[dV 0 neg u R, .bool true] = V) := Lib.hid (by
              rw [← HV.out]; unfold RPost; rw [if_neg hne, ← HRX.out, ← eq_bA e1])
            clear hl e1 h1 hne HU
            go_wp2_with fail
            refine (c3 _).mono ?_
            rintro r w1 ⟨rfl, hb1⟩
            have K1 := (Blk.made w 0 false ⟨#[]⟩ ⟨#[]⟩).next hb1
            have B1 : Below w.heap.size w w1 := below_new hb1
            clear hb1 c3
            obtain ⟨g, hg⟩ : ∃ g, w.heap.size = g := ⟨_, rfl⟩
            rw [hg] at K1 B1 ⊢
            obtain ⟨k0, k1, k2, k3⟩ := K1.cells
            obtain ⟨f0, f1, f2, f3⟩ := K1.fro
            go_wp2
            exact bodyPost_ret (ret_dec Tryd.results12 _ rfl rfl (K1.set 0 neg _ _)) rfl ⟨by rw [HR.out], below_set4 (hg ▸ B1) (by omega) _ _ _ _⟩
          | i + 1, HU =>
            have e1 := HU.out
            rw [hl] at e1
            have e2 : u[0] = 48 := List.head_eq_of_cons_eq e1
            have e3 : u.data.toList.drop 1 = M.zs i ++ r := List.tail_eq_of_cons_eq e1
            have h1 : u[0].toNat = 48 := by rw [e2]; rfl
            have E3 := Lib.hid e3
            clear hl e1 e2 e3 HU
            go_wp2
            go_round
            case rel => exact ⟨_, i, rfl, by simp; omega, by show _ = _; rw [Lib.extract_to_end]; exact E3.out⟩
            case measure => simp; omega
        · have hz : u.data.toList = [] := List.eq_nil_of_length_eq_zero (by rw [← sz_list]; omega)
          have hr : r = [] := by
            have := HU.out
            rw [hz] at this
            exact (List.append_eq_nil_iff.1 this.symm).2
          obtain rfl : u = ⟨#[]⟩ := eq_bA hz
          have HR : Hid (.tuple #[dV 0 neg ⟨#[48]⟩ ⟨#[48]⟩, .bool true] = V) := Lib.hid (by
            rw [← HV.out]; unfold RPost; rw [if_pos hr])
          clear hz hr HU
          go_wp2
          exact bodyPost_ret (ret_dec Tryd.results12 _ rfl rfl (Blk.made w 0 neg ⟨#[48]⟩ ⟨#[48]⟩)) rfl ⟨by rw [HR.out], (Below.refl _ _).alloc (Nat.le_refl _) _⟩
end Go.Proofs.YtocegiffbgnogaaDoor

namespace Go.Proofs.YtocegiffbgnogaaDoor
open Go.RowKit

theorem rmake_zero (neg : Bool) (A F : ByteArray) (z : Int) (w : World) (hA : A.size ≤ 1000) (hF : F.size ≤ 1000) (hX : (tx z).size ≤ 1000)
    (h : M.okD 10 (A.data.toList ++ F.data.toList) = true) (hv : M.val 10 (A.data.toList ++ F.data.toList) = 0) :
    Calls Tryd.prog 12 #[.bool neg, .string A, .string F, .string (tx z)] w fun e w' => e = .returned (.tuple #[dV 0 neg ⟨#[48]⟩ ⟨#[48]⟩, .bool true]) ∧ Below w.heap.size w w' := by
  have hz := M.zs_of_val ((M.okD_iff _ _).1 h).2 hv
  exact rmake_core neg A F z 0 (A.data.toList ++ F.data.toList).length [] w hA hF hX h (by rw [List.append_nil]; exact hz) (by unfold EndsWell; simp) (by simp)
theorem rmake_yes (neg : Bool) (A F : ByteArray) (z : Int) (c t : Nat) (w : World) (hA : A.size ≤ 1000) (hF : F.size ≤ 1000) (hX : (tx z).size ≤ 1000)
    (h : M.okD 10 (A.data.toList ++ F.data.toList) = true) (hc : c % 10 ≠ 0) (hv : M.val 10 (A.data.toList ++ F.data.toList) = c * 10 ^ t) :
    Calls Tryd.prog 12 #[.bool neg, .string A, .string F, .string (tx z)] w fun e w' => e = .returned (.tuple #[dV 0 neg (bA (M.dg c)) (tx (z + ((t : Int) - F.size))), .bool true]) ∧ Below w.heap.size w w' := by
  obtain ⟨m, hm⟩ := M.ct_of_val ((M.okD_iff _ _).1 h).2 hc hv
  have := rmake_core neg A F z m t (M.dg c) w hA hF hX h (by rw [hm, List.append_assoc]) (by
    unfold EndsWell
    obtain ⟨r, e⟩ := M.dg_last c
    rw [e, ← List.append_assoc, List.getLast?_append]
    intro k
    exact M.last_ne c hc (Option.some.inj k)) (M.dg_core_head c hc)
  unfold RPost at this
  rwa [if_neg (M.dg_ne c)] at this
/-- Both sides' Make answer the same. -/
theorem make_agree (neg : Bool) (A F X : ByteArray) (hA : A.size ≤ 100) (hF : F.size ≤ 100) (hX : X.size ≤ 100) :
    ∃ (k : Int) (n : Bool) (D E : ByteArray) (ok : Bool), D.size ≤ 1000 ∧ E.size ≤ 1000 ∧ (∀ W, Tab W → Calls Tryd.prog 26 #[.bool neg, .string A, .string F, .string X] W fun e w' => e = .returned (.tuple #[dV k n D E, .bool ok]) ∧ Below W.heap.size W w') ∧ (∀ W, Calls Tryd.prog 12 #[.bool neg, .string A, .string F, .string X] W fun e w' => e = .returned (.tuple #[dV k n D E, .bool ok]) ∧ Below W.heap.size W w') := by
  by_cases h : M.okD 10 (A.data.toList ++ F.data.toList) = false ∨ M.goodB X.data.toList = false
  · exact ⟨_, _, _, _, _, (by decide), (by decide), fun W _ => make_no neg A F X W (by omega) (by omega) (by omega) h, fun W => rmake_no neg A F X W (by omega) (by omega) (by omega) h⟩
  · have h1 : M.okD 10 (A.data.toList ++ F.data.toList) = true := by
      cases hh : M.okD 10 (A.data.toList ++ F.data.toList)
      · exact absurd (Or.inl hh) h
      · rfl
    have h2 : M.goodB X.data.toList = true := by
      cases hh : M.goodB X.data.toList
      · exact absurd (Or.inr hh) h
      · rfl
    obtain ⟨z, hz⟩ := M.txt_of_good h2
    obtain rfl : X = tx z := eq_bA hz
    by_cases hv : M.val 10 (A.data.toList ++ F.data.toList) = 0
    · exact ⟨_, _, _, _, _, (by decide), (by decide), fun W _ => make_zero neg A F z W (by omega) (by omega) (by omega) h1 hv, fun W => rmake_zero neg A F z W (by omega) (by omega) (by omega) h1 hv⟩
    · obtain ⟨c, t, hc, hct⟩ := M.exists_ct _ (Nat.pos_of_ne_zero hv)
      obtain ⟨m, hm⟩ := M.ct_of_val ((M.okD_iff _ _).1 h1).2 hc hct
      have h3 := congrArg List.length hm
      simp only [List.length_append, List.length_replicate, ← sz_list] at h3
      have h4 := M.txt_abs z
      rw [← tx_size] at h4
      have h5 : 10 ^ (tx z).size ≤ 10 ^ 100 := Nat.pow_le_pow_right (by omega) hX
      have h6 : (10 : Nat) ^ 101 = 10 ^ 100 * 10 := Nat.pow_succ ..
      have h7 : 1000 ≤ 10 ^ 100 := Nat.le_trans (show 1000 ≤ 10 ^ 3 by decide) (Nat.pow_le_pow_right (by omega) (by omega))
      have h8 := tx_len (z + ((t : Int) - F.size)) 101 (by omega) (by generalize (10 : Nat) ^ 101 = P at *; generalize (10 : Nat) ^ 100 = Q at *; omega)
      exact ⟨_, _, _, _, _, by rw [bA_size]; omega, by omega, fun W hW => make_yes neg A F z c t W hW (by omega) (by omega) (by omega) h1 hc hct, fun W => rmake_yes neg A F z c t W (by omega) (by omega) (by omega) h1 hc hct⟩

end Go.Proofs.YtocegiffbgnogaaDoor
