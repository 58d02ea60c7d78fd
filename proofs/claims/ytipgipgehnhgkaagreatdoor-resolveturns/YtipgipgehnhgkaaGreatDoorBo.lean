/- Walks: dec.Good. Walks: dec.minus, dec.plus, dec.Print. -/
import Derived.Test.YtipgipgehnhgkaaGreatDoorBb
import Derived.Test.YtipgipgehnhgkaaGreatDoorBj
set_option linter.unusedVariables false
namespace Go.Proofs.YtipgipgehnhgkaaGreatDoor
open Go.RowKit

theorem eqG (op : BinOp) (x y : Operand) (xs ys : Array Value) (w : World) : (eqGuard op 46 x y (.agg xs) (.agg ys)).run Tryz.prog w = .ok () w := run_eqGuard_agg w op 46 x y xs ys (by kernel_rfl)
theorem beq_bytes (a b : ByteArray) : (a.toList == b.toList) = decide (a = b) := by
  rw [Bool.eq_iff_iff, decide_eq_true_eq, beq_iff_eq, ByteArray.toList_eq, ByteArray.toList_eq]
  constructor
  · intro h; rw [← bA_of a, ← bA_of b, h]
  · intro h; rw [h]
theorem toList_iff (a b : ByteArray) : a.toList = b.toList ↔ a = b := by
  have := beq_bytes a b
  rw [Bool.eq_iff_iff, decide_eq_true_eq, beq_iff_eq] at this
  exact this
theorem eqIn4 (k k' : Int) (n n' : Bool) (D D' E E' : ByteArray) (w : World) : (Op.equalIn 10000 46 (dV k n D E) (dV k' n' D' E')).run Tryz.prog w = .ok (decide (k = k' ∧ n = n' ∧ D = D' ∧ E = E')) w := by
  have u3 := Tryz.underlying3
  have a3 := Tryz.isAgg3
  have z3 := Tryz.sizeOf3
  have u4 := Tryz.underlying4
  have a4 := Tryz.isAgg4
  have z4 := Tryz.sizeOf4
  have u9 := Tryz.underlying9
  have a9 := Tryz.isAgg9
  have z9 := Tryz.sizeOf9
  have hS : Tryz.prog.underlying 46 = some (.struct (Tryz.prog.fieldsOf 46)) := by kernel_rfl
  have hp : Tryz.prog.stoodInHeld 46 = false := by kernel_rfl
  rw [show (10000 : Nat) = 9999 + 1 from rfl, run_equalIn_agg w 9999 46 _ _ hS hp]
  simp only [Program.fieldsOf, Tryz.underlying46]
  go_simp
  simp only [toList_iff]
  by_cases h1 : k = k' <;> by_cases h2 : n = n' <;> by_cases h3 : D = D' <;> by_cases h4 : E = E' <;> simp [h1, h2, h3, h4]
theorem eql4 (k k' : Int) (n n' : Bool) (D D' E E' : ByteArray) (w : World) : (binOp .eql 46 (dV k n D E) (dV k' n' D' E')).run Tryz.prog w = .ok (.bool (decide (k = k' ∧ n = n' ∧ D = D' ∧ E = E'))) w := by
  rw [run_eql_struct, eqIn4]; rfl
theorem neq4 (k k' : Int) (n n' : Bool) (D D' E E' : ByteArray) (w : World) : (binOp .neq 46 (dV k n D E) (dV k' n' D' E')).run Tryz.prog w = .ok (.bool (!decide (k = k' ∧ n = n' ∧ D = D' ∧ E = E'))) w := by
  rw [run_neq_struct, eqIn4]; rfl

theorem eq_bA_iff (D : ByteArray) (l : List UInt8) : D = bA l ↔ D.data.toList = l := ⟨fun h => by rw [h, bA_toList], eq_bA⟩
theorem decB_no (n : Bool) (D E : List UInt8) (h : M.okD 10 D = false ∨ M.goodB E = false) : M.decB 0 n D E = false := by
  cases hb : M.decB 0 n D E
  · rfl
  · rcases M.decB_cases hb with ⟨_, rfl, rfl⟩ | ⟨_, c, z, hc, rfl, rfl⟩ | ⟨h0, _⟩ | ⟨h0, _⟩
    · rcases h with h | h <;> exact absurd h (by decide)
    · rcases h with h | h
      · rw [M.dg_ok] at h; cases h
      · rw [M.good_txt] at h; cases h
    · exact absurd h0 (by decide)
    · exact absurd h0 (by decide)
theorem decB_of_zero (n : Bool) (D E : ByteArray) (hv : M.val 10 D.data.toList = 0) : decide ((0 : Int) = 0 ∧ n = n ∧ (⟨#[48]⟩ : ByteArray) = D ∧ (⟨#[48]⟩ : ByteArray) = E) = M.decB 0 n D.data.toList E.data.toList := by
  rw [Bool.eq_iff_iff, decide_eq_true_eq]
  constructor
  · rintro ⟨_, _, rfl, rfl⟩; exact M.decB_zero n
  · intro h
    rcases M.decB_cases h with ⟨_, h1, h2⟩ | ⟨_, c, z, hc, h1, _⟩ | ⟨h0, _⟩ | ⟨h0, _⟩
    · exact ⟨rfl, rfl, (eq_bA h1).symm, (eq_bA h2).symm⟩
    · rw [h1, M.dg_val] at hv
      exact absurd (M.c_pos hc) (by omega)
    · exact absurd h0 (by decide)
    · exact absurd h0 (by decide)
theorem decB_of_yes (n : Bool) (D : ByteArray) (z : Int) (c t : Nat) (hc : c % 10 ≠ 0) (hv : M.val 10 D.data.toList = c * 10 ^ t) (hall : M.okD 10 D.data.toList = true) :
    decide ((0 : Int) = 0 ∧ n = n ∧ bA (M.dg c) = D ∧ tx (z + ((t : Int) - ((⟨#[]⟩ : ByteArray).size : Int))) = tx z) = M.decB 0 n D.data.toList (tx z).data.toList := by
  rw [Bool.eq_iff_iff, decide_eq_true_eq, tx_list]
  constructor
  · rintro ⟨_, _, h1, h2⟩
    rw [← h1, bA_toList]; exact M.decB_fin n c z hc
  · intro h
    rcases M.decB_cases h with ⟨_, h1, h2⟩ | ⟨_, c', z', hc', h1, h2⟩ | ⟨h0, _⟩ | ⟨h0, _⟩
    · rw [h1] at hv
      have := M.ct_pos t hc
      rw [← hv] at this; exact absurd this (by decide)
    · rw [h1, M.dg_val] at hv
      obtain ⟨rfl, h0⟩ := M.ct_uniq (t := 0) hc' hc (by simpa using hv)
      subst h0
      exact ⟨rfl, rfl, (eq_bA h1).symm, by show tx (z + 0) = tx z; rw [Int.add_zero]⟩
    · exact absurd h0 (by decide)
    · exact absurd h0 (by decide)
theorem app_nil (D : ByteArray) : D.data.toList ++ (⟨#[]⟩ : ByteArray).data.toList = D.data.toList := by simp

/-- What dec.Good does with what is made: at any Make's answer. -/
theorem goodD_make (n : Bool) (D E : ByteArray) (k' : Int) (n' : Bool) (D' E' : ByteArray) (ok : Bool) (R : Bool) (w : World)
    (c1 : ∀ W, Tab W → Calls Tryz.prog 52 #[.bool n, .string D, .string ⟨#[]⟩, .string E] W fun e w' => e = .returned (.tuple #[dV k' n' D' E', .bool ok]) ∧ Below W.heap.size W w') (ht : Tab w)
    (hR : (ok && decide (k' = 0 ∧ n' = n ∧ D' = D ∧ E' = E)) = R) :
    Calls Tryz.prog 53 #[dV 0 n D E] w fun e w' => e = .returned (.bool R) ∧ Below w.heap.size w w' := by
  have e1 := eqG
  have e2 := eql4 k' 0 n' n D' D E' E
  obtain ⟨b, hb⟩ : ∃ b, decide (k' = 0 ∧ n' = n ∧ D' = D ∧ E' = E) = b := ⟨_, rfl⟩
  rw [hb] at e2 hR
  clear hb
  have HR := Lib.hid hR
  clear hR
  go_enter Tryz.func53, Tryz.ntmps53
  go_wp2_with fail
  refine (c1 _ (ht.next ((Below.refl _ _).alloc (Nat.le_refl _) _))).mono ?_
  rintro r w1 ⟨rfl, hb1⟩
  have K1 := (Blk.made w 0 n D E).next hb1
  have B1 : Below w.heap.size w w1 := below_new hb1
  clear hb1 c1
  obtain ⟨g, hg⟩ : ∃ g, w.heap.size = g := ⟨_, rfl⟩
  rw [hg] at K1 B1 ⊢
  have hlt := K1.lt
  obtain ⟨k0, k1, k2, k3⟩ := K1.cells
  cases ok
  · go_wp2
    go_ret
    exact ⟨ret_bool HR.out, ((hg ▸ B1).alloc (hg ▸ B1).size _)⟩
  · go_wp2
    go_ret
    exact ⟨ret_bool HR.out, ((hg ▸ B1).alloc (hg ▸ B1).size _)⟩
theorem goodD_fin (n : Bool) (D E : ByteArray) (w : World) (ht : Tab w) (hD : D.size ≤ 1000) (hE : E.size ≤ 1000) :
    Calls Tryz.prog 53 #[dV 0 n D E] w fun e w' => e = .returned (.bool (M.decB 0 n D.data.toList E.data.toList)) ∧ Below w.heap.size w w' := by
  have h0 : (⟨#[]⟩ : ByteArray).size ≤ 1000 := by decide
  by_cases h : M.okD 10 D.data.toList = false ∨ M.goodB E.data.toList = false
  · refine goodD_make n D E 0 false ⟨#[]⟩ ⟨#[]⟩ false _ w (fun W _ => make_no n D ⟨#[]⟩ E W hD h0 hE (by rw [app_nil]; exact h)) ht ?_
    rw [decB_no n _ _ h]; rfl
  · have h1 : M.okD 10 D.data.toList = true := by
      cases hh : M.okD 10 D.data.toList
      · exact absurd (Or.inl hh) h
      · rfl
    have h2 : M.goodB E.data.toList = true := by
      cases hh : M.goodB E.data.toList
      · exact absurd (Or.inr hh) h
      · rfl
    obtain ⟨z, hz⟩ := M.txt_of_good h2
    obtain rfl : E = tx z := eq_bA hz
    by_cases hv : M.val 10 D.data.toList = 0
    · refine goodD_make n D (tx z) 0 n ⟨#[48]⟩ ⟨#[48]⟩ true _ w (fun W _ => make_zero n D ⟨#[]⟩ z W hD h0 hE (by rw [app_nil]; exact h1) (by rw [app_nil]; exact hv)) ht ?_
      rw [Bool.true_and]; exact decB_of_zero n D (tx z) hv
    · obtain ⟨c, t, hc, hct⟩ := M.exists_ct _ (Nat.pos_of_ne_zero hv)
      refine goodD_make n D (tx z) 0 n (bA (M.dg c)) _ true _ w (fun W hW => make_yes n D ⟨#[]⟩ z c t W hW hD h0 hE (by rw [app_nil]; exact h1) hc (by rw [app_nil]; exact hct)) ht ?_
      rw [Bool.true_and]; exact decB_of_yes n D z c t hc hct h1
set_option maxRecDepth 100000 in
set_option maxHeartbeats 1000000 in
theorem goodD_rest (k : Int) (n : Bool) (D E : ByteArray) (w : World) (hk : ¬ k = 0) :
    Calls Tryz.prog 53 #[dV k n D E] w fun e w' => e = .returned (.bool (M.decB k n D.data.toList E.data.toList)) ∧ Below w.heap.size w w' := by
  have e1 := eqG
  have hb0 : (k == 0) = false := by simpa using hk
  by_cases h1 : k = 1
  · subst h1
    have e2 := eql4 1 1 n n D ⟨#[]⟩ E ⟨#[]⟩
    obtain ⟨R, hR⟩ : ∃ R, M.decB 1 n D.data.toList E.data.toList = R := ⟨_, rfl⟩
    rw [show decide ((1 : Int) = 1 ∧ n = n ∧ D = ⟨#[]⟩ ∧ E = ⟨#[]⟩) = M.decB 1 n D.data.toList E.data.toList by
      unfold M.decB
      rw [if_neg (by decide), if_pos rfl, ← Bool.decide_and, decide_eq_decide, show (⟨#[]⟩ : ByteArray) = bA [] from rfl, eq_bA_iff, eq_bA_iff]
      simp, hR] at e2
    rw [hR]
    clear hR hk hb0
    go_enter Tryz.func53, Tryz.ntmps53
    go_wp2
    go_ret
    exact ⟨rfl, (Below.refl _ _).alloc (Nat.le_refl _) _⟩
  · have hb1 : (k == 1) = false := by simpa using h1
    by_cases h2 : k = 2
    · subst h2
      have e2 := eql4 2 2 n false D ⟨#[]⟩ E ⟨#[]⟩
      obtain ⟨R, hR⟩ : ∃ R, M.decB 2 n D.data.toList E.data.toList = R := ⟨_, rfl⟩
      rw [show decide ((2 : Int) = 2 ∧ n = false ∧ D = ⟨#[]⟩ ∧ E = ⟨#[]⟩) = M.decB 2 n D.data.toList E.data.toList by
        unfold M.decB
        rw [if_neg (by decide), if_neg (by decide), if_pos rfl, ← Bool.decide_and, show (⟨#[]⟩ : ByteArray) = bA [] from rfl]
        simp only [eq_bA_iff]
        cases n <;> simp, hR] at e2
      rw [hR]
      clear hR hk hb0 h1 hb1
      go_enter Tryz.func53, Tryz.ntmps53
      go_wp2
      go_ret
      exact ⟨rfl, (Below.refl _ _).alloc (Nat.le_refl _) _⟩
    · have hb2 : (k == 2) = false := by simpa using h2
      rw [show M.decB k n D.data.toList E.data.toList = false by unfold M.decB; rw [if_neg hk, if_neg h1, if_neg h2]]
      clear hk h1 h2
      go_enter Tryz.func53, Tryz.ntmps53
      go_wp2
      go_ret
      exact ⟨rfl, (Below.refl _ _).alloc (Nat.le_refl _) _⟩
theorem goodD_any (k : Int) (n : Bool) (D E : ByteArray) (w : World) (ht : Tab w) (hD : D.size ≤ 1000) (hE : E.size ≤ 1000) :
    Calls Tryz.prog 53 #[dV k n D E] w fun e w' => e = .returned (.bool (M.decB k n D.data.toList E.data.toList)) ∧ Below w.heap.size w w' := by
  by_cases hk : k = 0
  · subst hk; exact goodD_fin n D E w ht hD hE
  · exact goodD_rest k n D E w hk
end Go.Proofs.YtipgipgehnhgkaaGreatDoor

namespace Go.Proofs.YtipgipgehnhgkaaGreatDoor
open Go.RowKit

theorem mns_any (n : Bool) (w : World) : Calls Tryz.prog 54 #[.bool n] w fun e w' => e = .returned (.string (bA (M.mns n))) ∧ w = w' := by
  cases n
  · go_enter Tryz.func54, Tryz.ntmps54
    go_wp2
    go_ret
    exact ⟨rfl, rfl⟩
  · go_enter Tryz.func54, Tryz.ntmps54
    go_wp2
    go_ret
    exact ⟨rfl, rfl⟩
theorem pls_any (E : ByteArray) (w : World) (h0 : 0 < E.size) : Calls Tryz.prog 55 #[.string E] w fun e w' => e = .returned (.string (bA (M.pls E.data.toList))) ∧ w = w' := by
  by_cases h : M.isNeg E.data.toList = true
  · have hh := head_is E h0 h
    rw [show M.pls E.data.toList = [] by unfold M.pls; rw [if_pos h]]
    clear h
    go_enter Tryz.func55, Tryz.ntmps55
    go_wp2
    go_ret
    exact ⟨rfl, rfl⟩
  · have hh := head_not E h0 (by simpa using h)
    rw [show M.pls E.data.toList = [43] by unfold M.pls; rw [if_neg h]]
    clear h
    go_enter Tryz.func55, Tryz.ntmps55
    go_wp2
    go_ret
    exact ⟨rfl, rfl⟩
theorem mns_len (n : Bool) : (bA (M.mns n)).size ≤ 1 := by cases n <;> decide
theorem pls_len (l : List UInt8) : (bA (M.pls l)).size ≤ 1 := by rw [bA_size]; unfold M.pls; split <;> simp

theorem tab_new {w : World} (ht : Tab w) (o : Obj) : Tab (w.alloc o) := ht.next ((Below.refl w.heap.size w).alloc (Nat.le_refl _) o)
set_option maxRecDepth 100000 in
set_option maxHeartbeats 1000000 in
theorem print_fin (n : Bool) (D E : ByteArray) (w : World) (ht : Tab w) (hD : D.size ≤ 1000) (hE : E.size ≤ 1000) (hE0 : 0 < E.size) (hd : M.decB 0 n D.data.toList E.data.toList = true) :
    Calls Tryz.prog 24 #[dV 0 n D E] w fun e w' => e = .returned (.string (bA (M.prt 0 n D.data.toList E.data.toList))) ∧ Below w.heap.size w w' := by
  have c1 := fun W (hW : Tab W) => goodD_any 0 n D E W hW hD hE
  rw [hd] at c1
  have ht0 := tab_new ht (.cells #[.int .i64 0, .bool n, .string D, .string E] 46)
  have c2 := mns_any n
  have hm := mns_len n
  have c3 := fun W => pls_any E W hE0
  have hp := pls_len E.data.toList
  have HR : Hid (bA (M.mns n) ++ D ++ ⟨#[46, 101]⟩ ++ bA (M.pls E.data.toList) ++ E = bA (M.prt 0 n D.data.toList E.data.toList)) := Lib.hid (by
    apply eq_bA
    unfold M.prt
    rw [if_neg (by decide), if_neg (by decide)]
    simp [bA])
  generalize bA (M.prt 0 n D.data.toList E.data.toList) = R at *
  generalize bA (M.mns n) = P at *
  generalize bA (M.pls E.data.toList) = Q at *
  clear hd
  go_enter Tryz.func24, Tryz.ntmps24
  go_wp2_with fail
  refine (c1 _ ht0).mono ?_
  rintro r w1 ⟨rfl, hb1⟩
  have K1 := (Blk.made w 0 n D E).next hb1
  have B1 : Below w.heap.size w w1 := below_new hb1
  clear hb1 c1
  obtain ⟨g, hg⟩ : ∃ g, w.heap.size = g := ⟨_, rfl⟩
  rw [hg] at K1 B1 ⊢
  have hlt := K1.lt
  obtain ⟨k0, k1, k2, k3⟩ := K1.cells
  go_wp2_with fail
  go_quiet ((first | (go_at_call 54; exact Calls.quiet_of_same ((c2 _).mono fun _ _ h => ⟨h.1, h.2.symm⟩)) | (go_at_call 55; exact Calls.quiet_of_same ((c3 _).mono fun _ _ h => ⟨h.1, h.2.symm⟩))))
  go_wp2
  go_ret
  exact ⟨ret_str HR.out, below_dN (hg ▸ B1) _⟩
set_option maxRecDepth 100000 in
set_option maxHeartbeats 1000000 in
theorem print_inf (n : Bool) (w : World) (ht : Tab w) :
    Calls Tryz.prog 24 #[dV 1 n ⟨#[]⟩ ⟨#[]⟩] w fun e w' => e = .returned (.string (bA (M.prt 1 n [] []))) ∧ Below w.heap.size w w' := by
  have c1 := fun W (hW : Tab W) => goodD_any 1 n ⟨#[]⟩ ⟨#[]⟩ W hW (by decide) (by decide)
  rw [show M.decB 1 n (⟨#[]⟩ : ByteArray).data.toList (⟨#[]⟩ : ByteArray).data.toList = true from M.decB_inf n] at c1
  have ht0 := tab_new ht (.cells #[.int .i64 1, .bool n, .string ⟨#[]⟩, .string ⟨#[]⟩] 46)
  have c2 := mns_any n
  have hm := mns_len n
  have HR : Hid (bA (M.mns n) ++ ⟨#[46, 105, 110, 102]⟩ = bA (M.prt 1 n [] [])) := Lib.hid (by cases n <;> rfl)
  generalize bA (M.prt 1 n [] []) = R at *
  generalize bA (M.mns n) = P at *
  go_enter Tryz.func24, Tryz.ntmps24
  go_wp2_with fail
  refine (c1 _ ht0).mono ?_
  rintro r w1 ⟨rfl, hb1⟩
  have K1 := (Blk.made w 1 n ⟨#[]⟩ ⟨#[]⟩).next hb1
  have B1 : Below w.heap.size w w1 := below_new hb1
  clear hb1 c1
  obtain ⟨g, hg⟩ : ∃ g, w.heap.size = g := ⟨_, rfl⟩
  rw [hg] at K1 B1 ⊢
  have hlt := K1.lt
  obtain ⟨k0, k1, k2, k3⟩ := K1.cells
  go_wp2_with fail
  refine (c2 _).mono ?_
  rintro r w' ⟨rfl, rfl⟩
  go_wp2
  go_ret
  exact ⟨ret_str HR.out, hg ▸ B1⟩
set_option maxRecDepth 100000 in
set_option maxHeartbeats 1000000 in
theorem print_nan (w : World) (ht : Tab w) :
    Calls Tryz.prog 24 #[dV 2 false ⟨#[]⟩ ⟨#[]⟩] w fun e w' => e = .returned (.string (bA (M.prt 2 false [] []))) ∧ Below w.heap.size w w' := by
  have c1 := fun W (hW : Tab W) => goodD_any 2 false ⟨#[]⟩ ⟨#[]⟩ W hW (by decide) (by decide)
  rw [show M.decB 2 false (⟨#[]⟩ : ByteArray).data.toList (⟨#[]⟩ : ByteArray).data.toList = true from M.decB_nan] at c1
  have ht0 := tab_new ht (.cells #[.int .i64 2, .bool false, .string ⟨#[]⟩, .string ⟨#[]⟩] 46)
  go_enter Tryz.func24, Tryz.ntmps24
  go_wp2_with fail
  refine (c1 _ ht0).mono ?_
  rintro r w1 ⟨rfl, hb1⟩
  have K1 := (Blk.made w 2 false ⟨#[]⟩ ⟨#[]⟩).next hb1
  have B1 : Below w.heap.size w w1 := below_new hb1
  clear hb1 c1
  obtain ⟨g, hg⟩ : ∃ g, w.heap.size = g := ⟨_, rfl⟩
  rw [hg] at K1 B1 ⊢
  have hlt := K1.lt
  obtain ⟨k0, k1, k2, k3⟩ := K1.cells
  go_wp2
  go_ret
  exact ⟨rfl, hg ▸ B1⟩
set_option maxRecDepth 100000 in
set_option maxHeartbeats 1000000 in
theorem print_no (k : Int) (n : Bool) (D E : ByteArray) (w : World) (ht : Tab w) (hD : D.size ≤ 1000) (hE : E.size ≤ 1000) (hd : M.decB k n D.data.toList E.data.toList = false) :
    Calls Tryz.prog 24 #[dV k n D E] w fun e w' => e = .returned (.string ⟨#[]⟩) ∧ Below w.heap.size w w' := by
  have c1 := fun W (hW : Tab W) => goodD_any k n D E W hW hD hE
  rw [hd] at c1
  have ht0 := tab_new ht (.cells #[.int .i64 k, .bool n, .string D, .string E] 46)
  clear hd
  go_enter Tryz.func24, Tryz.ntmps24
  go_wp2_with fail
  refine (c1 _ ht0).mono ?_
  rintro r w1 ⟨rfl, hb1⟩
  have B1 : Below w.heap.size w w1 := below_new hb1
  clear hb1 c1
  go_wp2
  go_ret
  exact ⟨rfl, B1⟩
theorem print_any (k : Int) (n : Bool) (D E : ByteArray) (w : World) (ht : Tab w) (hD : D.size ≤ 1000) (hE : E.size ≤ 1000) :
    Calls Tryz.prog 24 #[dV k n D E] w fun e w' => e = .returned (.string (bA (M.out k n D.data.toList E.data.toList))) ∧ Below w.heap.size w w' := by
  cases hg : M.decB k n D.data.toList E.data.toList
  · rw [M.out_no hg]
    exact print_no k n D E w ht hD hE hg
  · rw [M.out_yes hg]
    rcases M.decB_cases hg with ⟨rfl, h1, h2⟩ | ⟨rfl, c, z, hc, h1, h2⟩ | ⟨rfl, h1, h2⟩ | ⟨rfl, rfl, h1, h2⟩
    · exact print_fin n D E w ht hD hE (by rw [sz_list, h2]; decide) hg
    · exact print_fin n D E w ht hD hE (by rw [sz_list, h2]; exact List.length_pos_iff.2 (M.txt_ne z)) hg
    · obtain rfl : D = ⟨#[]⟩ := eq_bA h1
      obtain rfl : E = ⟨#[]⟩ := eq_bA h2
      exact print_inf n w ht
    · obtain rfl : D = ⟨#[]⟩ := eq_bA h1
      obtain rfl : E = ⟨#[]⟩ := eq_bA h2
      exact print_nan w ht
end Go.Proofs.YtipgipgehnhgkaaGreatDoor
