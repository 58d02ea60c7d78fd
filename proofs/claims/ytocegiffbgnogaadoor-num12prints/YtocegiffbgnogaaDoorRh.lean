/- Walks of targumref4's Dec, Make, Print. -/
import Derived.Test.YtocegiffbgnogaaDoorRg
import Derived.Test.YtocegiffbgnogaaDoorWo
set_option linter.unusedVariables false
namespace Go.Proofs.YtocegiffbgnogaaDoor
open Go.RowKit

theorem head_list (D : ByteArray) (h : 0 < D.size) : D.data.toList.head? = some D[0] := by
  have := drop_cons D 0 h
  rw [List.drop_zero] at this
  rw [this]; rfl
theorem last_opt (D : ByteArray) (h : 0 < D.size) : D.data.toList.getLast? = some (D[D.size - 1]'(by omega)) := by
  have := last_list D h
  rw [this]; simp
theorem some48 (c : UInt8) : (some c ≠ some (48 : UInt8)) ↔ c.toNat ≠ 48 := by
  constructor
  · intro h e; exact h (congrArg some (UInt8.toNat_inj.1 e))
  · intro h e; rw [Option.some.inj e] at h; exact h rfl
theorem decB_parts (n : Bool) (D E : ByteArray) (h0 : ¬ D.data.toList = [48]) : M.decB 0 n D.data.toList E.data.toList = (M.okD 10 D.data.toList && decide (D.data.toList.head? ≠ some 48) && decide (D.data.toList.getLast? ≠ some 48) && M.goodB E.data.toList) := by
  unfold M.decB
  rw [if_pos rfl, if_neg h0]
set_option maxRecDepth 100000 in
set_option maxHeartbeats 1000000 in
theorem rdec_fin (n : Bool) (D E : ByteArray) (w : World) (hD : D.size ≤ 1000) (hE : E.size ≤ 1000) :
    Calls Tryd.prog 35 #[dV 0 n D E] w fun e w' => e = .returned (.bool (M.decB 0 n D.data.toList E.data.toList)) ∧ Below w.heap.size w w' := by
  have c1 := fun W => rdigits_any D W (by omega)
  have c2 := fun W => rgood_any E W (by omega)
  have BA := (Below.refl w.heap.size w).alloc (Nat.le_refl _) (.cells #[.int .i64 0, .bool n, .string D, .string E] 28)
  by_cases h0 : D.data.toList = [48]
  · have hb : (D.toList == [48]) = true := by rw [ByteArray.toList_eq, h0]; rfl
    have hR : M.decB 0 n D.data.toList E.data.toList = (E.toList == [48]) := by
      unfold M.decB
      rw [if_pos rfl, if_pos h0, ByteArray.toList_eq, Bool.eq_iff_iff]; simp
    rw [hR]
    clear h0 hR
    go_enter Tryd.func35, Tryd.ntmps35
    go_wp2
    go_ret
    exact ⟨rfl, BA⟩
  · have hb : (D.toList == [48]) = false := by rw [ByteArray.toList_eq]; simpa using h0
    rw [decB_parts n D E h0]
    by_cases ho : M.okD 10 D.data.toList = true
    · have hp : 0 < D.size := by rw [sz_list]; exact List.length_pos_iff.2 ((M.okD_iff _ _).1 ho).1
      rw [ho] at c1 ⊢
      rw [head_list D hp, last_opt D hp]
      by_cases h1 : D[0].toNat = 48
      · rw [show decide (some D[0] ≠ some (48 : UInt8)) = false from decide_eq_false (by rw [some48]; omega)]
        rw [Bool.and_false, Bool.false_and, Bool.false_and]
        clear ho h0
        go_enter Tryd.func35, Tryd.ntmps35
        go_wp2_with fail
        refine (c1 _).mono ?_
        rintro r w' ⟨rfl, rfl⟩
        go_wp2
        go_ret
        exact ⟨rfl, BA⟩
      · have b1 : ((D[0].toNat : Int) != 48) = true := by simp; omega
        rw [show decide (some D[0] ≠ some (48 : UInt8)) = true from decide_eq_true (by rw [some48]; omega), Bool.and_true, Bool.true_and]
        by_cases h2 : (D[D.size - 1]'(by omega)).toNat = 48
        · rw [show decide (some (D[D.size - 1]'(by omega)) ≠ some (48 : UInt8)) = false from decide_eq_false (by rw [some48]; omega), Bool.false_and]
          clear ho h0 h1
          go_enter Tryd.func35, Tryd.ntmps35
          go_wp2_with fail
          refine (c1 _).mono ?_
          rintro r w' ⟨rfl, rfl⟩
          go_wp2
          go_ret
          exact ⟨rfl, BA⟩
        · have b2 : (((D[D.size - 1]'(by omega)).toNat : Int) != 48) = true := by simp; omega
          rw [show decide (some (D[D.size - 1]'(by omega)) ≠ some (48 : UInt8)) = true from decide_eq_true (by rw [some48]; omega), Bool.true_and]
          generalize M.goodB E.data.toList = q at *
          clear ho h0 h1 h2
          go_enter Tryd.func35, Tryd.ntmps35
          go_wp2_with fail
          refine (c1 _).mono ?_
          rintro r w' ⟨rfl, rfl⟩
          go_wp2_with fail
          refine (c2 _).mono ?_
          rintro r w' ⟨rfl, rfl⟩
          go_wp2
          go_ret
          exact ⟨rfl, BA⟩
    · have ho' : M.okD 10 D.data.toList = false := by simpa using ho
      rw [ho'] at c1 ⊢
      rw [Bool.false_and, Bool.false_and, Bool.false_and]
      clear ho ho' h0
      go_enter Tryd.func35, Tryd.ntmps35
      go_wp2_with fail
      refine (c1 _).mono ?_
      rintro r w' ⟨rfl, rfl⟩
      go_wp2
      go_ret
      exact ⟨rfl, BA⟩
set_option maxRecDepth 100000 in
set_option maxHeartbeats 1000000 in
theorem rdec_rest (k : Int) (n : Bool) (D E : ByteArray) (w : World) (hk : ¬ k = 0) :
    Calls Tryd.prog 35 #[dV k n D E] w fun e w' => e = .returned (.bool (M.decB k n D.data.toList E.data.toList)) ∧ Below w.heap.size w w' := by
  have BA := (Below.refl w.heap.size w).alloc (Nat.le_refl _) (.cells #[.int .i64 k, .bool n, .string D, .string E] 28)
  have hb0 : (k == 0) = false := by simpa using hk
  have hDe : decide (D.data.toList = []) = (D.toList == []) := by rw [ByteArray.toList_eq, Bool.eq_iff_iff]; simp
  have hEe : decide (E.data.toList = []) = (E.toList == []) := by rw [ByteArray.toList_eq, Bool.eq_iff_iff]; simp
  have hDi : (D.toList == []) = D.toList.isEmpty := by cases D.toList <;> rfl
  have hEi : (E.toList == []) = E.toList.isEmpty := by cases E.toList <;> rfl
  unfold M.decB
  rw [if_neg hk, hDe, hEe]
  obtain ⟨p, hp⟩ : ∃ p, (D.toList == []) = p := ⟨_, rfl⟩
  obtain ⟨q, hq⟩ : ∃ q, (E.toList == []) = q := ⟨_, rfl⟩
  rw [hp] at hDi ⊢
  rw [hq] at hEi ⊢
  have hDi' := hDi.symm
  have hEi' := hEi.symm
  clear hDe hEe hDi hEi
  by_cases h1 : k = 1
  · subst h1
    rw [if_pos rfl]
    clear hk hb0
    cases p
    · go_enter Tryd.func35, Tryd.ntmps35
      go_wp2
      go_ret
      exact ⟨rfl, BA⟩
    · go_enter Tryd.func35, Tryd.ntmps35
      go_wp2
      go_ret
      exact ⟨rfl, BA⟩
  · have hb1 : (k == 1) = false := by simpa using h1
    rw [if_neg h1]
    by_cases h2 : k = 2
    · subst h2
      rw [if_pos rfl]
      clear hk hb0 h1 hb1
      cases p
      · go_enter Tryd.func35, Tryd.ntmps35
        go_wp2
        go_ret
        exact ⟨rfl, BA⟩
      · cases q
        · go_enter Tryd.func35, Tryd.ntmps35
          go_wp2
          go_ret
          exact ⟨rfl, BA⟩
        · go_enter Tryd.func35, Tryd.ntmps35
          go_wp2
          go_ret
          exact ⟨ret_bool (by simp), BA⟩
    · have hb2 : (k == 2) = false := by simpa using h2
      rw [if_neg h2]
      clear hk h1 h2
      go_enter Tryd.func35, Tryd.ntmps35
      go_wp2
      go_ret
      exact ⟨rfl, BA⟩
theorem rdec_any (k : Int) (n : Bool) (D E : ByteArray) (w : World) (hD : D.size ≤ 1000) (hE : E.size ≤ 1000) :
    Calls Tryd.prog 35 #[dV k n D E] w fun e w' => e = .returned (.bool (M.decB k n D.data.toList E.data.toList)) ∧ Below w.heap.size w w' := by
  by_cases hk : k = 0
  · subst hk; exact rdec_fin n D E w hD hE
  · exact rdec_rest k n D E w hk
end Go.Proofs.YtocegiffbgnogaaDoor
