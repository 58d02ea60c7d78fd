/- Walks: TrimRight. Walks: dec.Make. -/
import Derived.Test.YtocegiffbgnogaaDoorWl
set_option linter.unusedVariables false
namespace Go.Proofs.YtocegiffbgnogaaDoor
open Go.RowKit

/-- A text that does not end with a nought. -/
def EndsWell (l : List UInt8) : Prop := l.getLast? ≠ some 48
theorem last_list (t : ByteArray) (h : 0 < t.size) : t.data.toList = t.data.toList.take (t.size - 1) ++ [t[t.size - 1]'(by omega)] := by
  have := take_snoc t (t.size - 1) (by omega)
  rw [show t.size - 1 + 1 = t.size by omega, take_all] at this
  exact this
theorem extract_take (t : ByteArray) (n : Nat) : (t.extract 0 n).data.toList = t.data.toList.take n := by
  simp only [ByteArray.data_extract, Array.toList_extract, List.extract_eq_take_drop, List.drop_zero, Nat.sub_zero]

set_option maxRecDepth 100000 in
set_option maxHeartbeats 1000000 in
theorem trimRByte_any (l : List UInt8) (z : Nat) (s : ByteArray) (w : World) (hs : s.size ≤ 1000000) (hl : EndsWell l) (he : s.data.toList = l ++ M.zs z) :
    Calls Tryd.prog 67 #[.string s, .int .u8 48] w fun e w' => e = .returned (.string (bA l)) ∧ w = w' := by
  have HE := Lib.hid he
  have HL := Lib.hid hl
  clear he hl
  go_enter Tryd.func67, Tryd.ntmps67
  go_wp2
  go_loop [0] (fun v => ∃ (t : ByteArray) (k : Nat), v = .string t ∧ t.size ≤ s.size ∧ Hid (t.data.toList = l ++ M.zs k)) (fun v => match v with | .string t => t.size | _ => 0)
  case atStart => exact ⟨s, z, rfl, Nat.le_refl _, HE.out⟩
  case round =>
    obtain ⟨t, k, rfl, ht, hst⟩ := hrel
    by_cases h0 : 0 < t.size
    · have hlast := last_list t h0
      match k, hst with
      | 0, hst =>
        have e1 : t.data.toList = l := by rw [hst.out]; simp
        have h1 : ¬ (t[t.size - 1]'(by omega)).toNat = 48 := by
          intro e
          have e48 : t[t.size - 1]'(by omega) = 48 := UInt8.toNat_inj.1 e
          apply HL.out
          rw [← e1, hlast, e48]; simp
        have hb : (((t[t.size - 1]'(by omega)).toNat : Int) == 48) = false := by simp; omega
        have E1 := Lib.hid e1
        clear hlast e1 h1 hst
        go_wp2
        go_ret
        exact ⟨ret_str (eq_bA E1.out), rfl⟩
      | k + 1, hst =>
        have e0 := hst.out
        rw [← M.zs_snoc, ← List.append_assoc] at e0
        have e1 := hlast.symm.trans e0
        obtain ⟨e2, e3⟩ := List.append_inj' e1 rfl
        have h1 : (t[t.size - 1]'(by omega)).toNat = 48 := by
          have := List.head_eq_of_cons_eq e3
          rw [this]; rfl
        have E2 := Lib.hid e2
        clear hlast e0 e1 e2 e3 hst
        go_wp2
        go_round
        case rel => exact ⟨_, k, rfl, by simp; omega, by show _ = _; rw [extract_take]; exact E2.out⟩
        case measure => simp; omega
    · have hz : t.data.toList = [] := by
        have := sz_list t
        exact List.eq_nil_of_length_eq_zero (by omega)
      have hl0 : l = [] := by
        have := hst.out
        rw [hz] at this
        exact (List.append_eq_nil_iff.1 this.symm).1
      have HZ := Lib.hid hz
      clear hz hst
      go_wp2
      go_ret
      exact ⟨ret_str (eq_bA HZ.out), rfl⟩

set_option maxRecDepth 100000 in
theorem trimRight_any (l : List UInt8) (z : Nat) (s : ByteArray) (w : World) (hs : s.size ≤ 1000000) (h0 : 0 < s.size) (hl : EndsWell l) (he : s.data.toList = l ++ M.zs z) :
    Calls Tryd.prog 50 #[.string s, .string ⟨#[48]⟩] w fun e w' => e = .returned (.string (bA l)) ∧ w = w' := by
  have c1 := fun W => trimRByte_any l z s W hs hl he
  have hne : s.data.toList ≠ [] := by intro h; rw [sz_list, h] at h0; exact absurd h0 (by simp)
  have h1 : (s.toList == []) = false := by rw [ByteArray.toList_eq]; simpa using hne
  have h2 : s.toList.isEmpty = false := by rw [ByteArray.toList_eq]; simpa using hne
  clear hne he hl
  generalize bA l = R at *
  go_enter Tryd.func50, Tryd.ntmps50
  go_wp2_with fail
  refine (c1 _).mono ?_
  rintro r w' ⟨rfl, rfl⟩
  go_wp2
  go_ret
  exact ⟨rfl, rfl⟩
end Go.Proofs.YtocegiffbgnogaaDoor

namespace Go.Proofs.YtocegiffbgnogaaDoor
open Go.RowKit

theorem both_list (a b : ByteArray) : (a ++ b).data.toList = a.data.toList ++ b.data.toList := append_list a b
theorem below_new {w w1 : World} {o : Obj} (h : Below (w.alloc o).heap.size (w.alloc o) w1) : Below w.heap.size w w1 := ((Below.refl _ _).alloc (Nat.le_refl _) _).trans (h.mono (by simp))
set_option maxRecDepth 100000 in
set_option maxHeartbeats 1000000 in
theorem make_no (neg : Bool) (A F X : ByteArray) (w : World) (hA : A.size ≤ 1000) (hF : F.size ≤ 1000) (hX : X.size ≤ 1000)
    (h : M.okD 10 (A.data.toList ++ F.data.toList) = false ∨ M.goodB X.data.toList = false) :
    Calls Tryd.prog 26 #[.bool neg, .string A, .string F, .string X] w fun e w' => e = .returned (.tuple #[dZ, .bool false]) ∧ Below w.heap.size w w' := by
  have hsz : (A ++ F).size ≤ 2000 := by rw [append_sz]; omega
  by_cases h1 : M.okD 10 (A.data.toList ++ F.data.toList) = true
  · have h2 : M.goodB X.data.toList = false := by
      rcases h with h | h
      · rw [h1] at h; cases h
      · exact h
    have c1 := fun W => norm_yes false (A ++ F) W (by omega) (by rw [both_list]; exact h1)
    have c2 := fun W => good_any X W (by omega)
    rw [h2] at c2
    have hne : ((tx (M.sgn false (M.val 10 (A ++ F).data.toList))).toList == []) = false := by
      rw [ByteArray.toList_eq, tx_list]; simpa using M.txt_ne _
    have hne2 : (tx (M.sgn false (M.val 10 (A ++ F).data.toList))).toList.isEmpty = false := by
      rw [ByteArray.toList_eq, tx_list]; simpa using M.txt_ne _
    generalize tx (M.sgn false (M.val 10 (A ++ F).data.toList)) = R at *
    clear h h1 h2 hsz
    go_enter Tryd.func26, Tryd.ntmps26
    go_wp2_with fail
    refine (c1 _).mono ?_
    rintro r w1 ⟨rfl, hb1⟩
    have K1 := (Blk.made w 0 false ⟨#[]⟩ ⟨#[]⟩).next hb1
    have B1 : Below w.heap.size w w1 := below_new hb1
    clear hb1
    obtain ⟨g, hg⟩ : ∃ g, w.heap.size = g := ⟨_, rfl⟩
    rw [hg] at K1 B1 ⊢
    obtain ⟨k0, k1, k2, k3⟩ := K1.cells
    obtain ⟨f0, f1, f2, f3⟩ := K1.fro
    go_wp2_with fail
    refine (c2 _).mono ?_
    rintro r w' ⟨rfl, rfl⟩
    go_wp2
    exact bodyPost_ret (ret_dec Tryd.results26 _ rfl rfl (K1.set 0 false _ _)) rfl ⟨rfl, below_set4 (hg ▸ B1) (by omega) _ _ _ _⟩
  · have h1' : M.okD 10 (A.data.toList ++ F.data.toList) = false := by simpa using h1
    have c1 := fun W => norm_no false (A ++ F) W (by omega) (by rw [both_list]; exact h1')
    clear h h1 h1' hsz
    go_enter Tryd.func26, Tryd.ntmps26
    go_wp2_with fail
    refine (c1 _).mono ?_
    rintro r w' ⟨rfl, rfl⟩
    go_wp2
    exact bodyPost_ret (ret_dec Tryd.results26 _ rfl rfl (Blk.made w 0 false ⟨#[]⟩ ⟨#[]⟩)) rfl ⟨rfl, (Below.refl _ _).alloc (Nat.le_refl _) _⟩
theorem dg_ends (c : Nat) (hc : c % 10 ≠ 0) : EndsWell (M.dg c) := M.dg_core_last c hc
set_option maxRecDepth 100000 in
set_option maxHeartbeats 1000000 in
theorem make_zero (neg : Bool) (A F : ByteArray) (z : Int) (w : World) (hA : A.size ≤ 1000) (hF : F.size ≤ 1000) (hX : (tx z).size ≤ 1000)
    (h : M.okD 10 (A.data.toList ++ F.data.toList) = true) (hv : M.val 10 (A.data.toList ++ F.data.toList) = 0) :
    Calls Tryd.prog 26 #[.bool neg, .string A, .string F, .string (tx z)] w fun e w' => e = .returned (.tuple #[dV 0 neg ⟨#[48]⟩ ⟨#[48]⟩, .bool true]) ∧ Below w.heap.size w w' := by
  have hsz : (A ++ F).size ≤ 2000 := by rw [append_sz]; omega
  have c1 := fun W => norm_yes false (A ++ F) W (by omega) (by rw [both_list]; exact h)
  rw [both_list, hv, M.sgn_zero, tx0] at c1
  have c2 := fun W => good_any (tx z) W (by omega)
  rw [tx_good] at c2
  generalize tx z = X at *
  clear h hv hsz
  go_enter Tryd.func26, Tryd.ntmps26
  go_wp2_with fail
  refine (c1 _).mono ?_
  rintro r w1 ⟨rfl, hb1⟩
  have K1 := (Blk.made w 0 false ⟨#[]⟩ ⟨#[]⟩).next hb1
  have B1 : Below w.heap.size w w1 := below_new hb1
  clear hb1
  obtain ⟨g, hg⟩ : ∃ g, w.heap.size = g := ⟨_, rfl⟩
  rw [hg] at K1 B1 ⊢
  obtain ⟨k0, k1, k2, k3⟩ := K1.cells
  obtain ⟨f0, f1, f2, f3⟩ := K1.fro
  go_wp2_with fail
  refine (c2 _).mono ?_
  rintro r w' ⟨rfl, rfl⟩
  go_wp2
  exact bodyPost_ret (ret_dec Tryd.results26 _ rfl rfl (K1.set 0 neg _ _)) rfl ⟨rfl, below_set4 (hg ▸ B1) (by omega) _ _ _ _⟩
set_option maxRecDepth 100000 in
set_option maxHeartbeats 1000000 in
theorem make_yes (neg : Bool) (A F : ByteArray) (z : Int) (c t : Nat) (w : World) (ht : Tab w) (hA : A.size ≤ 1000) (hF : F.size ≤ 1000) (hX : (tx z).size ≤ 1000)
    (h : M.okD 10 (A.data.toList ++ F.data.toList) = true) (hc : c % 10 ≠ 0) (hv : M.val 10 (A.data.toList ++ F.data.toList) = c * 10 ^ t) :
    Calls Tryd.prog 26 #[.bool neg, .string A, .string F, .string (tx z)] w fun e w' => e = .returned (.tuple #[dV 0 neg (bA (M.dg c)) (tx (z + ((t : Int) - F.size))), .bool true]) ∧ Below w.heap.size w w' := by
  have hsz : (A ++ F).size ≤ 2000 := by rw [append_sz]; omega
  have c1 := fun W => norm_yes false (A ++ F) W (by omega) (by rw [both_list]; exact h)
  have hall := ((M.okD_iff _ _).1 h).2
  have hlt := M.val_lt 10 _ hall
  rw [hv, List.length_append, ← sz_list, ← sz_list] at hlt
  have hdl : (M.dg (c * 10 ^ t)).length ≤ A.size + F.size := M.dg_len_le _ _ (by
    have := ((M.okD_iff _ _).1 h).1
    have h2 := List.length_pos_iff.2 this
    rw [List.length_append, ← sz_list, ← sz_list] at h2; exact h2) hlt
  rw [M.dg_pow c t (M.c_pos hc), List.length_append, List.length_replicate] at hdl
  rw [both_list, hv, show M.sgn false (c * 10 ^ t) = ((c * 10 ^ t : Nat) : Int) from rfl] at c1
  have htl : (tx ((c * 10 ^ t : Nat) : Int)).data.toList = M.dg c ++ M.zs t := by rw [tx_list, M.txt_nat, M.dg_pow c t (M.c_pos hc)]
  have c2 := fun W => good_any (tx z) W (by omega)
  rw [tx_good] at c2
  have hTs : (tx ((c * 10 ^ t : Nat) : Int)).size = (M.dg c).length + t := by rw [sz_list, htl, List.length_append, List.length_replicate]
  have hcl := M.dg_len_pos c
  have hne : ((tx ((c * 10 ^ t : Nat) : Int)).toList == []) = false := by rw [ByteArray.toList_eq, tx_list]; simpa using M.txt_ne _
  have hne2 : (tx ((c * 10 ^ t : Nat) : Int)).toList.isEmpty = false := by rw [ByteArray.toList_eq, tx_list]; simpa using M.txt_ne _
  have hne3 : ((tx ((c * 10 ^ t : Nat) : Int)).toList == [48]) = false := by
    rw [ByteArray.toList_eq, tx_list, M.txt_nat]
    have := M.ct_pos t hc
    simp
    intro e
    have h2 := congrArg (M.val 10) e
    rw [M.dg_val] at h2
    rw [h2] at this
    exact absurd this (by decide)
  have c3 := fun W => trimRight_any (M.dg c) t (tx ((c * 10 ^ t : Nat) : Int)) W (by omega) (by omega) (dg_ends c hc) htl
  have c4 := fun W (hW : Tab W) => add_yes z ((t : Int) - F.size) W hW (by omega) (by omega) (by omega)
  have hds : (bA (M.dg c)).size = (M.dg c).length := bA_size _
  rw [← hds] at hTs hdl hcl
  generalize tx (z + ((t : Int) - F.size)) = R at *
  generalize tx ((c * 10 ^ t : Nat) : Int) = V at *
  generalize bA (M.dg c) = D at *
  generalize tx z = X at *
  rw [show (t : Int) - F.size = (V.size : Int) - D.size - F.size by omega] at c4
  have v1 : D.size ≤ V.size := by omega
  have v2 : V.size ≤ 2000 := by omega
  clear h hv hsz hall hlt htl hds hc hTs hdl hcl
  go_enter Tryd.func26, Tryd.ntmps26
  go_wp2_with fail
  refine (c1 _).mono ?_
  rintro r w1 ⟨rfl, hb1⟩
  have K1 := (Blk.made w 0 false ⟨#[]⟩ ⟨#[]⟩).next hb1
  have B1 : Below w.heap.size w w1 := below_new hb1
  have T1 := ht.next B1
  clear hb1
  obtain ⟨g, hg⟩ : ∃ g, w.heap.size = g := ⟨_, rfl⟩
  rw [hg] at K1 B1 ⊢
  go_wp2_with fail
  refine (c2 _).mono ?_
  rintro r w' ⟨rfl, rfl⟩
  go_wp2_with fail
  refine (c3 _).mono ?_
  rintro r w' ⟨rfl, rfl⟩
  go_wp2_with fail
  refine (c4 _ T1).mono ?_
  rintro r w2 ⟨rfl, hb2⟩
  have K2 := K1.next hb2
  have B2 : Below w.heap.size w w2 := (hg ▸ B1).trans (hb2.mono (hg ▸ B1).size)
  obtain ⟨k0, k1, k2, k3⟩ := K2.cells
  obtain ⟨f0, f1, f2, f3⟩ := K2.fro
  clear K1 B1 hb2
  go_wp2
  exact bodyPost_ret (ret_dec Tryd.results26 _ rfl rfl (K2.set 0 neg _ _)) rfl ⟨rfl, below_set4 B2 (by omega) _ _ _ _⟩
end Go.Proofs.YtocegiffbgnogaaDoor
