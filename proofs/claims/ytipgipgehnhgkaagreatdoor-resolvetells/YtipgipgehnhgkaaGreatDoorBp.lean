/- Walks of targumref4's Dec, Make, Print. Walks of targumref4's Print, Make. -/
import Derived.Test.YtipgipgehnhgkaaGreatDoorBc
import Derived.Test.YtipgipgehnhgkaaGreatDoorBb
set_option linter.unusedVariables false
namespace Go.Proofs.YtipgipgehnhgkaaGreatDoor
open Go.RowKit

theorem head_list (D : ByteArray) (h : 0 < D.size) : D.data.toList.head? = some D[0] := by
  have := drop_cons D 0 h
  rw [List.drop_zero] at this
  rw [this]; rfl
theorem last_opt (D : ByteArray) (h : 0 < D.size) : D.data.toList.getLast? = some (D[D.size - 1]'(by omega)) := by
  have := last_list D h
  rw [this]; simp
theorem some48 (c : UInt8) : (some c ≠ some (48 : UInt8)) ↔ c.toNat ≠ 48 := by
  constructor
  · intro h e; exact h (congrArg some (UInt8.toNat_inj.1 e))
  · intro h e; rw [Option.some.inj e] at h; exact h rfl
theorem decB_parts (n : Bool) (D E : ByteArray) (h0 : ¬ D.data.toList = [48]) : M.decB 0 n D.data.toList E.data.toList = (M.okD 10 D.data.toList && decide (D.data.toList.head? ≠ some 48) && decide (D.data.toList.getLast? ≠ some 48) && M.goodB E.data.toList) := by
  unfold M.decB
  rw [if_pos rfl, if_neg h0]
set_option maxRecDepth 100000 in
set_option maxHeartbeats 1000000 in
theorem rdec_fin (n : Bool) (D E : ByteArray) (w : World) (hD : D.size ≤ 1000) (hE : E.size ≤ 1000) :
    Calls Tryz.prog 73 #[dV 0 n D E] w fun e w' => e = .returned (.bool (M.decB 0 n D.data.toList E.data.toList)) ∧ Below w.heap.size w w' := by
  have c1 := fun W => rdigits_any D W (by omega)
  have c2 := fun W => rgood_any E W (by omega)
  have BA := (Below.refl w.heap.size w).alloc (Nat.le_refl _) (.cells #[.int .i64 0, .bool n, .string D, .string E] 46)
  by_cases h0 : D.data.toList = [48]
  · have hb : (D.toList == [48]) = true := by rw [ByteArray.toList_eq, h0]; rfl
    have hR : M.decB 0 n D.data.toList E.data.toList = (E.toList == [48]) := by
      unfold M.decB
      rw [if_pos rfl, if_pos h0, ByteArray.toList_eq, Bool.eq_iff_iff]; simp
    rw [hR]
    clear h0 hR
    go_enter Tryz.func73, Tryz.ntmps73
    go_wp2
    go_ret
    exact ⟨rfl, BA⟩
  · have hb : (D.toList == [48]) = false := by rw [ByteArray.toList_eq]; simpa using h0
    rw [decB_parts n D E h0]
    by_cases ho : M.okD 10 D.data.toList = true
    · have hp : 0 < D.size := by rw [sz_list]; exact List.length_pos_iff.2 ((M.okD_iff _ _).1 ho).1
      rw [ho] at c1 ⊢
      rw [head_list D hp, last_opt D hp]
      by_cases h1 : D[0].toNat = 48
      · rw [show decide (some D[0] ≠ some (48 : UInt8)) = false from decide_eq_false (by rw [some48]; omega)]
        rw [Bool.and_false, Bool.false_and, Bool.false_and]
        clear ho h0
        go_enter Tryz.func73, Tryz.ntmps73
        go_wp2_with fail
        refine (c1 _).mono ?_
        rintro r w' ⟨rfl, rfl⟩
        go_wp2
        go_ret
        exact ⟨rfl, BA⟩
      · have b1 : ((D[0].toNat : Int) != 48) = true := by simp; omega
        rw [show decide (some D[0] ≠ some (48 : UInt8)) = true from decide_eq_true (by rw [some48]; omega), Bool.and_true, Bool.true_and]
        by_cases h2 : (D[D.size - 1]'(by omega)).toNat = 48
        · rw [show decide (some (D[D.size - 1]'(by omega)) ≠ some (48 : UInt8)) = false from decide_eq_false (by rw [some48]; omega), Bool.false_and]
          clear ho h0 h1
          go_enter Tryz.func73, Tryz.ntmps73
          go_wp2_with fail
          refine (c1 _).mono ?_
          rintro r w' ⟨rfl, rfl⟩
          go_wp2
          go_ret
          exact ⟨rfl, BA⟩
        · have b2 : (((D[D.size - 1]'(by omega)).toNat : Int) != 48) = true := by simp; omega
          rw [show decide (some (D[D.size - 1]'(by omega)) ≠ some (48 : UInt8)) = true from decide_eq_true (by rw [some48]; omega), Bool.true_and]
          generalize M.goodB E.data.toList = q at *
          clear ho h0 h1 h2
          go_enter Tryz.func73, Tryz.ntmps73
          go_wp2_with fail
          refine (c1 _).mono ?_
          rintro r w' ⟨rfl, rfl⟩
          go_wp2_with fail
          refine (c2 _).mono ?_
          rintro r w' ⟨rfl, rfl⟩
          go_wp2
          go_ret
          exact ⟨rfl, BA⟩
    · have ho' : M.okD 10 D.data.toList = false := by simpa using ho
      rw [ho'] at c1 ⊢
      rw [Bool.false_and, Bool.false_and, Bool.false_and]
      clear ho ho' h0
      go_enter Tryz.func73, Tryz.ntmps73
      go_wp2_with fail
      refine (c1 _).mono ?_
      rintro r w' ⟨rfl, rfl⟩
      go_wp2
      go_ret
      exact ⟨rfl, BA⟩
set_option maxRecDepth 100000 in
set_option maxHeartbeats 1000000 in
theorem rdec_rest (k : Int) (n : Bool) (D E : ByteArray) (w : World) (hk : ¬ k = 0) :
    Calls Tryz.prog 73 #[dV k n D E] w fun e w' => e = .returned (.bool (M.decB k n D.data.toList E.data.toList)) ∧ Below w.heap.size w w' := by
  have BA := (Below.refl w.heap.size w).alloc (Nat.le_refl _) (.cells #[.int .i64 k, .bool n, .string D, .string E] 46)
  have hb0 : (k == 0) = false := by simpa using hk
  have hDe : decide (D.data.toList = []) = (D.toList == []) := by rw [ByteArray.toList_eq, Bool.eq_iff_iff]; simp
  have hEe : decide (E.data.toList = []) = (E.toList == []) := by rw [ByteArray.toList_eq, Bool.eq_iff_iff]; simp
  have hDi : (D.toList == []) = D.toList.isEmpty := by cases D.toList <;> rfl
  have hEi : (E.toList == []) = E.toList.isEmpty := by cases E.toList <;> rfl
  unfold M.decB
  rw [if_neg hk, hDe, hEe]
  obtain ⟨p, hp⟩ : ∃ p, (D.toList == []) = p := ⟨_, rfl⟩
  obtain ⟨q, hq⟩ : ∃ q, (E.toList == []) = q := ⟨_, rfl⟩
  rw [hp] at hDi ⊢
  rw [hq] at hEi ⊢
  have hDi' := hDi.symm
  have hEi' := hEi.symm
  clear hDe hEe hDi hEi
  by_cases h1 : k = 1
  · subst h1
    rw [if_pos rfl]
    clear hk hb0
    cases p
    · go_enter Tryz.func73, Tryz.ntmps73
      go_wp2
      go_ret
      exact ⟨rfl, BA⟩
    · go_enter Tryz.func73, Tryz.ntmps73
      go_wp2
      go_ret
      exact ⟨rfl, BA⟩
  · have hb1 : (k == 1) = false := by simpa using h1
    rw [if_neg h1]
    by_cases h2 : k = 2
    · subst h2
      rw [if_pos rfl]
      clear hk hb0 h1 hb1
      cases p
      · go_enter Tryz.func73, Tryz.ntmps73
        go_wp2
        go_ret
        exact ⟨rfl, BA⟩
      · cases q
        · go_enter Tryz.func73, Tryz.ntmps73
          go_wp2
          go_ret
          exact ⟨rfl, BA⟩
        · go_enter Tryz.func73, Tryz.ntmps73
          go_wp2
          go_ret
          exact ⟨ret_bool (by simp), BA⟩
    · have hb2 : (k == 2) = false := by simpa using h2
      rw [if_neg h2]
      clear hk h1 h2
      go_enter Tryz.func73, Tryz.ntmps73
      go_wp2
      go_ret
      exact ⟨rfl, BA⟩
theorem rdec_any (k : Int) (n : Bool) (D E : ByteArray) (w : World) (hD : D.size ≤ 1000) (hE : E.size ≤ 1000) :
    Calls Tryz.prog 73 #[dV k n D E] w fun e w' => e = .returned (.bool (M.decB k n D.data.toList E.data.toList)) ∧ Below w.heap.size w w' := by
  by_cases hk : k = 0
  · subst hk; exact rdec_fin n D E w hD hE
  · exact rdec_rest k n D E w hk
end Go.Proofs.YtipgipgehnhgkaaGreatDoor

namespace Go.Proofs.YtipgipgehnhgkaaGreatDoor
open Go.RowKit

set_option maxRecDepth 100000 in
set_option maxHeartbeats 1000000 in
theorem rprint_no (k : Int) (n : Bool) (D E : ByteArray) (w : World) (hD : D.size ≤ 1000) (hE : E.size ≤ 1000) (hd : M.decB k n D.data.toList E.data.toList = false) :
    Calls Tryz.prog 34 #[dV k n D E] w fun e w' => e = .returned (.string ⟨#[]⟩) ∧ Below w.heap.size w w' := by
  have c1 := fun W => rdec_any k n D E W hD hE
  rw [hd] at c1
  clear hd
  cases n
  · go_enter Tryz.func34, Tryz.ntmps34
    go_wp2_with fail
    refine (c1 _).mono ?_
    rintro r w1 ⟨rfl, hb1⟩
    have B1 : Below w.heap.size w w1 := below_new hb1
    clear hb1 c1
    go_wp2
    go_ret
    exact ⟨rfl, B1⟩
  · go_enter Tryz.func34, Tryz.ntmps34
    go_wp2_with fail
    refine (c1 _).mono ?_
    rintro r w1 ⟨rfl, hb1⟩
    have B1 : Below w.heap.size w w1 := below_new hb1
    clear hb1 c1
    go_wp2
    go_ret
    exact ⟨rfl, B1⟩
set_option maxRecDepth 100000 in
set_option maxHeartbeats 1000000 in
theorem rprint_inf (n : Bool) (w : World) :
    Calls Tryz.prog 34 #[dV 1 n ⟨#[]⟩ ⟨#[]⟩] w fun e w' => e = .returned (.string (bA (M.prt 1 n [] []))) ∧ Below w.heap.size w w' := by
  have c1 := fun W => rdec_any 1 n ⟨#[]⟩ ⟨#[]⟩ W (by decide) (by decide)
  rw [show M.decB 1 n (⟨#[]⟩ : ByteArray).data.toList (⟨#[]⟩ : ByteArray).data.toList = true from M.decB_inf n] at c1
  cases n
  · go_enter Tryz.func34, Tryz.ntmps34
    go_wp2_with fail
    refine (c1 _).mono ?_
    rintro r w1 ⟨rfl, hb1⟩
    have K1 := (Blk.made w 1 false ⟨#[]⟩ ⟨#[]⟩).next hb1
    have B1 : Below w.heap.size w w1 := below_new hb1
    clear hb1 c1
    obtain ⟨g, hg⟩ : ∃ g, w.heap.size = g := ⟨_, rfl⟩
    rw [hg] at K1 B1 ⊢
    have hlt := K1.lt
    obtain ⟨k0, k1, k2, k3⟩ := K1.cells
    go_wp2
    go_ret
    exact ⟨ret_str (rfl), hg ▸ B1⟩
  · go_enter Tryz.func34, Tryz.ntmps34
    go_wp2_with fail
    refine (c1 _).mono ?_
    rintro r w1 ⟨rfl, hb1⟩
    have K1 := (Blk.made w 1 true ⟨#[]⟩ ⟨#[]⟩).next hb1
    have B1 : Below w.heap.size w w1 := below_new hb1
    clear hb1 c1
    obtain ⟨g, hg⟩ : ∃ g, w.heap.size = g := ⟨_, rfl⟩
    rw [hg] at K1 B1 ⊢
    have hlt := K1.lt
    obtain ⟨k0, k1, k2, k3⟩ := K1.cells
    go_wp2
    go_ret
    exact ⟨ret_str (rfl), hg ▸ B1⟩
set_option maxRecDepth 100000 in
set_option maxHeartbeats 1000000 in
theorem rprint_nan (w : World) :
    Calls Tryz.prog 34 #[dV 2 false ⟨#[]⟩ ⟨#[]⟩] w fun e w' => e = .returned (.string (bA (M.prt 2 false [] []))) ∧ Below w.heap.size w w' := by
  have c1 := fun W => rdec_any 2 false ⟨#[]⟩ ⟨#[]⟩ W (by decide) (by decide)
  rw [show M.decB 2 false (⟨#[]⟩ : ByteArray).data.toList (⟨#[]⟩ : ByteArray).data.toList = true from M.decB_nan] at c1
  go_enter Tryz.func34, Tryz.ntmps34
  go_wp2_with fail
  refine (c1 _).mono ?_
  rintro r w1 ⟨rfl, hb1⟩
  have K1 := (Blk.made w 2 false ⟨#[]⟩ ⟨#[]⟩).next hb1
  have B1 : Below w.heap.size w w1 := below_new hb1
  clear hb1 c1
  obtain ⟨g, hg⟩ : ∃ g, w.heap.size = g := ⟨_, rfl⟩
  rw [hg] at K1 B1 ⊢
  have hlt := K1.lt
  obtain ⟨k0, k1, k2, k3⟩ := K1.cells
  go_wp2
  go_ret
  exact ⟨ret_str (rfl), hg ▸ B1⟩
theorem prt_fin (n : Bool) (D E : ByteArray) : (bA (M.mns n) ++ D ++ bA (46 :: 101 :: M.pls E.data.toList) ++ E = bA (M.prt 0 n D.data.toList E.data.toList)) := by
  apply eq_bA
  unfold M.prt
  rw [if_neg (by decide), if_neg (by decide)]
  simp [bA]
set_option maxRecDepth 100000 in
set_option maxHeartbeats 1000000 in
theorem rprint_fin (n : Bool) (D E : ByteArray) (w : World) (hD : D.size ≤ 1000) (hE : E.size ≤ 1000) (hE0 : 0 < E.size) (hd : M.decB 0 n D.data.toList E.data.toList = true) :
    Calls Tryz.prog 34 #[dV 0 n D E] w fun e w' => e = .returned (.string (bA (M.prt 0 n D.data.toList E.data.toList))) ∧ Below w.heap.size w w' := by
  have c1 := fun W => rdec_any 0 n D E W hD hE
  rw [hd] at c1
  have hR := prt_fin n D E
  by_cases hn : M.isNeg E.data.toList = true
  · have hh := head_is E hE0 hn
    rw [show M.pls E.data.toList = [] by unfold M.pls; rw [if_pos hn]] at hR
    have HR := Lib.hid hR
    clear hR hd hn
    generalize bA (M.prt 0 n D.data.toList E.data.toList) = R at *
    cases n
    · go_enter Tryz.func34, Tryz.ntmps34
      go_wp2_with fail
      refine (c1 _).mono ?_
      rintro r w1 ⟨rfl, hb1⟩
      have K1 := (Blk.made w 0 false D E).next hb1
      have B1 : Below w.heap.size w w1 := below_new hb1
      clear hb1 c1
      obtain ⟨g, hg⟩ : ∃ g, w.heap.size = g := ⟨_, rfl⟩
      rw [hg] at K1 B1 ⊢
      have hlt := K1.lt
      obtain ⟨k0, k1, k2, k3⟩ := K1.cells
      go_wp2
      go_ret
      exact ⟨ret_str (HR.out), hg ▸ B1⟩
    · go_enter Tryz.func34, Tryz.ntmps34
      go_wp2_with fail
      refine (c1 _).mono ?_
      rintro r w1 ⟨rfl, hb1⟩
      have K1 := (Blk.made w 0 true D E).next hb1
      have B1 : Below w.heap.size w w1 := below_new hb1
      clear hb1 c1
      obtain ⟨g, hg⟩ : ∃ g, w.heap.size = g := ⟨_, rfl⟩
      rw [hg] at K1 B1 ⊢
      have hlt := K1.lt
      obtain ⟨k0, k1, k2, k3⟩ := K1.cells
      go_wp2
      go_ret
      exact ⟨ret_str (HR.out), hg ▸ B1⟩
  · have hh : (((E[0].toNat : Nat) : Int) == 45) = false := head_not E hE0 (by simpa using hn)
    have hh2 : (((E[0].toNat : Nat) : Int) != 45) = true := by rw [bne, hh]; rfl
    rw [show M.pls E.data.toList = [43] by unfold M.pls; rw [if_neg hn]] at hR
    have HR := Lib.hid hR
    clear hR hd hn
    generalize bA (M.prt 0 n D.data.toList E.data.toList) = R at *
    cases n
    · go_enter Tryz.func34, Tryz.ntmps34
      go_wp2_with fail
      refine (c1 _).mono ?_
      rintro r w1 ⟨rfl, hb1⟩
      have K1 := (Blk.made w 0 false D E).next hb1
      have B1 : Below w.heap.size w w1 := below_new hb1
      clear hb1 c1
      obtain ⟨g, hg⟩ : ∃ g, w.heap.size = g := ⟨_, rfl⟩
      rw [hg] at K1 B1 ⊢
      have hlt := K1.lt
      obtain ⟨k0, k1, k2, k3⟩ := K1.cells
      go_wp2
      go_ret
      exact ⟨ret_str (HR.out), hg ▸ B1⟩
    · go_enter Tryz.func34, Tryz.ntmps34
      go_wp2_with fail
      refine (c1 _).mono ?_
      rintro r w1 ⟨rfl, hb1⟩
      have K1 := (Blk.made w 0 true D E).next hb1
      have B1 : Below w.heap.size w w1 := below_new hb1
      clear hb1 c1
      obtain ⟨g, hg⟩ : ∃ g, w.heap.size = g := ⟨_, rfl⟩
      rw [hg] at K1 B1 ⊢
      have hlt := K1.lt
      obtain ⟨k0, k1, k2, k3⟩ := K1.cells
      go_wp2
      go_ret
      exact ⟨ret_str (HR.out), hg ▸ B1⟩
theorem rprint_any (k : Int) (n : Bool) (D E : ByteArray) (w : World) (hD : D.size ≤ 1000) (hE : E.size ≤ 1000) :
    Calls Tryz.prog 34 #[dV k n D E] w fun e w' => e = .returned (.string (bA (M.out k n D.data.toList E.data.toList))) ∧ Below w.heap.size w w' := by
  cases hg : M.decB k n D.data.toList E.data.toList
  · rw [M.out_no hg]
    exact rprint_no k n D E w hD hE hg
  · rw [M.out_yes hg]
    rcases M.decB_cases hg with ⟨rfl, h1, h2⟩ | ⟨rfl, c, z, hc, h1, h2⟩ | ⟨rfl, h1, h2⟩ | ⟨rfl, rfl, h1, h2⟩
    · exact rprint_fin n D E w hD hE (by rw [sz_list, h2]; decide) hg
    · exact rprint_fin n D E w hD hE (by rw [sz_list, h2]; exact List.length_pos_iff.2 (M.txt_ne z)) hg
    · obtain rfl : D = ⟨#[]⟩ := eq_bA h1
      obtain rfl : E = ⟨#[]⟩ := eq_bA h2
      exact rprint_inf n w
    · obtain rfl : D = ⟨#[]⟩ := eq_bA h1
      obtain rfl : E = ⟨#[]⟩ := eq_bA h2
      exact rprint_nan w
end Go.Proofs.YtipgipgehnhgkaaGreatDoor
