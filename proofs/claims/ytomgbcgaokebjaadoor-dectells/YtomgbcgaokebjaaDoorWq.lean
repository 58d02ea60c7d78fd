/- Walks: dec.Good. -/
import Derived.Test.YtomgbcgaokebjaaDoorWp
set_option linter.unusedVariables false
namespace Go.Proofs.YtomgbcgaokebjaaDoor
open Go.RowKit

theorem eqG (op : BinOp) (x y : Operand) (xs ys : Array Value) (w : World) : (eqGuard op 23 x y (.agg xs) (.agg ys)).run Tryd.prog w = .ok () w := run_eqGuard_agg w op 23 x y xs ys (by kernel_rfl)
theorem beq_bytes (a b : ByteArray) : (a.toList == b.toList) = decide (a = b) := by
  rw [Bool.eq_iff_iff, decide_eq_true_eq, beq_iff_eq, ByteArray.toList_eq, ByteArray.toList_eq]
  constructor
  · intro h; rw [← bA_of a, ← bA_of b, h]
  · intro h; rw [h]
theorem toList_iff (a b : ByteArray) : a.toList = b.toList ↔ a = b := by
  have := beq_bytes a b
  rw [Bool.eq_iff_iff, decide_eq_true_eq, beq_iff_eq] at this
  exact this
theorem eqIn4 (k k' : Int) (n n' : Bool) (D D' E E' : ByteArray) (w : World) : (Op.equalIn 10000 23 (dV k n D E) (dV k' n' D' E')).run Tryd.prog w = .ok (decide (k = k' ∧ n = n' ∧ D = D' ∧ E = E')) w := by
  have u3 := Tryd.underlying3
  have a3 := Tryd.isAgg3
  have z3 := Tryd.sizeOf3
  have u4 := Tryd.underlying4
  have a4 := Tryd.isAgg4
  have z4 := Tryd.sizeOf4
  have u9 := Tryd.underlying9
  have a9 := Tryd.isAgg9
  have z9 := Tryd.sizeOf9
  have hS : Tryd.prog.underlying 23 = some (.struct (Tryd.prog.fieldsOf 23)) := by kernel_rfl
  have hp : Tryd.prog.stoodInHeld 23 = false := by kernel_rfl
  rw [show (10000 : Nat) = 9999 + 1 from rfl, run_equalIn_agg w 9999 23 _ _ hS hp]
  simp only [Program.fieldsOf, Tryd.underlying23]
  go_simp
  simp only [toList_iff]
  by_cases h1 : k = k' <;> by_cases h2 : n = n' <;> by_cases h3 : D = D' <;> by_cases h4 : E = E' <;> simp [h1, h2, h3, h4]
theorem eql4 (k k' : Int) (n n' : Bool) (D D' E E' : ByteArray) (w : World) : (binOp .eql 23 (dV k n D E) (dV k' n' D' E')).run Tryd.prog w = .ok (.bool (decide (k = k' ∧ n = n' ∧ D = D' ∧ E = E'))) w := by
  rw [run_eql_struct, eqIn4]; rfl
theorem neq4 (k k' : Int) (n n' : Bool) (D D' E E' : ByteArray) (w : World) : (binOp .neq 23 (dV k n D E) (dV k' n' D' E')).run Tryd.prog w = .ok (.bool (!decide (k = k' ∧ n = n' ∧ D = D' ∧ E = E'))) w := by
  rw [run_neq_struct, eqIn4]; rfl

theorem eq_bA_iff (D : ByteArray) (l : List UInt8) : D = bA l ↔ D.data.toList = l := ⟨fun h => by rw [h, bA_toList], eq_bA⟩
theorem decB_no (n : Bool) (D E : List UInt8) (h : M.okD 10 D = false ∨ M.goodB E = false) : M.decB 0 n D E = false := by
  cases hb : M.decB 0 n D E
  · rfl
  · rcases M.decB_cases hb with ⟨_, rfl, rfl⟩ | ⟨_, c, z, hc, rfl, rfl⟩ | ⟨h0, _⟩ | ⟨h0, _⟩
    · rcases h with h | h <;> exact absurd h (by decide)
    · rcases h with h | h
      · rw [M.dg_ok] at h; cases h
      · rw [M.good_txt] at h; cases h
    · exact absurd h0 (by decide)
    · exact absurd h0 (by decide)
theorem decB_of_zero (n : Bool) (D E : ByteArray) (hv : M.val 10 D.data.toList = 0) : decide ((0 : Int) = 0 ∧ n = n ∧ (⟨#[48]⟩ : ByteArray) = D ∧ (⟨#[48]⟩ : ByteArray) = E) = M.decB 0 n D.data.toList E.data.toList := by
  rw [Bool.eq_iff_iff, decide_eq_true_eq]
  constructor
  · rintro ⟨_, _, rfl, rfl⟩; exact M.decB_zero n
  · intro h
    rcases M.decB_cases h with ⟨_, h1, h2⟩ | ⟨_, c, z, hc, h1, _⟩ | ⟨h0, _⟩ | ⟨h0, _⟩
    · exact ⟨rfl, rfl, (eq_bA h1).symm, (eq_bA h2).symm⟩
    · rw [h1, M.dg_val] at hv
      exact absurd (M.c_pos hc) (by omega)
    · exact absurd h0 (by decide)
    · exact absurd h0 (by decide)
theorem decB_of_yes (n : Bool) (D : ByteArray) (z : Int) (c t : Nat) (hc : c % 10 ≠ 0) (hv : M.val 10 D.data.toList = c * 10 ^ t) (hall : M.okD 10 D.data.toList = true) :
    decide ((0 : Int) = 0 ∧ n = n ∧ bA (M.dg c) = D ∧ tx (z + ((t : Int) - ((⟨#[]⟩ : ByteArray).size : Int))) = tx z) = M.decB 0 n D.data.toList (tx z).data.toList := by
  rw [Bool.eq_iff_iff, decide_eq_true_eq, tx_list]
  constructor
  · rintro ⟨_, _, h1, h2⟩
    rw [← h1, bA_toList]; exact M.decB_fin n c z hc
  · intro h
    rcases M.decB_cases h with ⟨_, h1, h2⟩ | ⟨_, c', z', hc', h1, h2⟩ | ⟨h0, _⟩ | ⟨h0, _⟩
    · rw [h1] at hv
      have := M.ct_pos t hc
      rw [← hv] at this; exact absurd this (by decide)
    · rw [h1, M.dg_val] at hv
      obtain ⟨rfl, h0⟩ := M.ct_uniq (t := 0) hc' hc (by simpa using hv)
      subst h0
      exact ⟨rfl, rfl, (eq_bA h1).symm, by show tx (z + 0) = tx z; rw [Int.add_zero]⟩
    · exact absurd h0 (by decide)
    · exact absurd h0 (by decide)
theorem app_nil (D : ByteArray) : D.data.toList ++ (⟨#[]⟩ : ByteArray).data.toList = D.data.toList := by simp

/-- What dec.Good does with what is made: at any Make's answer. -/
theorem goodD_make (n : Bool) (D E : ByteArray) (k' : Int) (n' : Bool) (D' E' : ByteArray) (ok : Bool) (R : Bool) (w : World)
    (c1 : ∀ W, Tab W → Calls Tryd.prog 9 #[.bool n, .string D, .string ⟨#[]⟩, .string E] W fun e w' => e = .returned (.tuple #[dV k' n' D' E', .bool ok]) ∧ Below W.heap.size W w') (ht : Tab w)
    (hR : (ok && decide (k' = 0 ∧ n' = n ∧ D' = D ∧ E' = E)) = R) :
    Calls Tryd.prog 13 #[dV 0 n D E] w fun e w' => e = .returned (.bool R) ∧ Below w.heap.size w w' := by
  have e1 := eqG
  have e2 := eql4 k' 0 n' n D' D E' E
  obtain ⟨b, hb⟩ : ∃ b, decide (k' = 0 ∧ n' = n ∧ D' = D ∧ E' = E) = b := ⟨_, rfl⟩
  rw [hb] at e2 hR
  clear hb
  have HR := Lib.hid hR
  clear hR
  go_enter Tryd.func13, Tryd.ntmps13
  go_wp2_with fail
  refine (c1 _ (ht.next ((Below.refl _ _).alloc (Nat.le_refl _) _))).mono ?_
  rintro r w1 ⟨rfl, hb1⟩
  have K1 := (Blk.made w 0 n D E).next hb1
  have B1 : Below w.heap.size w w1 := below_new hb1
  clear hb1 c1
  obtain ⟨g, hg⟩ : ∃ g, w.heap.size = g := ⟨_, rfl⟩
  rw [hg] at K1 B1 ⊢
  have hlt := K1.lt
  obtain ⟨k0, k1, k2, k3⟩ := K1.cells
  cases ok
  · go_wp2
    go_ret
    exact ⟨ret_bool HR.out, ((hg ▸ B1).alloc (hg ▸ B1).size _)⟩
  · go_wp2
    go_ret
    exact ⟨ret_bool HR.out, ((hg ▸ B1).alloc (hg ▸ B1).size _)⟩
theorem goodD_fin (n : Bool) (D E : ByteArray) (w : World) (ht : Tab w) (hD : D.size ≤ 1000) (hE : E.size ≤ 1000) :
    Calls Tryd.prog 13 #[dV 0 n D E] w fun e w' => e = .returned (.bool (M.decB 0 n D.data.toList E.data.toList)) ∧ Below w.heap.size w w' := by
  have h0 : (⟨#[]⟩ : ByteArray).size ≤ 1000 := by decide
  by_cases h : M.okD 10 D.data.toList = false ∨ M.goodB E.data.toList = false
  · refine goodD_make n D E 0 false ⟨#[]⟩ ⟨#[]⟩ false _ w (fun W _ => make_no n D ⟨#[]⟩ E W hD h0 hE (by rw [app_nil]; exact h)) ht ?_
    rw [decB_no n _ _ h]; rfl
  · have h1 : M.okD 10 D.data.toList = true := by
      cases hh : M.okD 10 D.data.toList
      · exact absurd (Or.inl hh) h
      · rfl
    have h2 : M.goodB E.data.toList = true := by
      cases hh : M.goodB E.data.toList
      · exact absurd (Or.inr hh) h
      · rfl
    obtain ⟨z, hz⟩ := M.txt_of_good h2
    obtain rfl : E = tx z := eq_bA hz
    by_cases hv : M.val 10 D.data.toList = 0
    · refine goodD_make n D (tx z) 0 n ⟨#[48]⟩ ⟨#[48]⟩ true _ w (fun W _ => make_zero n D ⟨#[]⟩ z W hD h0 hE (by rw [app_nil]; exact h1) (by rw [app_nil]; exact hv)) ht ?_
      rw [Bool.true_and]; exact decB_of_zero n D (tx z) hv
    · obtain ⟨c, t, hc, hct⟩ := M.exists_ct _ (Nat.pos_of_ne_zero hv)
      refine goodD_make n D (tx z) 0 n (bA (M.dg c)) _ true _ w (fun W hW => make_yes n D ⟨#[]⟩ z c t W hW hD h0 hE (by rw [app_nil]; exact h1) hc (by rw [app_nil]; exact hct)) ht ?_
      rw [Bool.true_and]; exact decB_of_yes n D z c t hc hct h1
set_option maxRecDepth 100000 in
set_option maxHeartbeats 1000000 in
theorem goodD_rest (k : Int) (n : Bool) (D E : ByteArray) (w : World) (hk : ¬ k = 0) :
    Calls Tryd.prog 13 #[dV k n D E] w fun e w' => e = .returned (.bool (M.decB k n D.data.toList E.data.toList)) ∧ Below w.heap.size w w' := by
  have e1 := eqG
  have hb0 : (k == 0) = false := by simpa using hk
  by_cases h1 : k = 1
  · subst h1
    have e2 := eql4 1 1 n n D ⟨#[]⟩ E ⟨#[]⟩
    obtain ⟨R, hR⟩ : ∃ R, M.decB 1 n D.data.toList E.data.toList = R := ⟨_, rfl⟩
    rw [show decide ((1 : Int) = 1 ∧ n = n ∧ D = ⟨#[]⟩ ∧ E = ⟨#[]⟩) = M.decB 1 n D.data.toList E.data.toList by
      unfold M.decB
      rw [if_neg (by decide), if_pos rfl, ← Bool.decide_and, decide_eq_decide, show (⟨#[]⟩ : ByteArray) = bA [] from rfl, eq_bA_iff, eq_bA_iff]
      simp, hR] at e2
    rw [hR]
    clear hR hk hb0
    go_enter Tryd.func13, Tryd.ntmps13
    go_wp2
    go_ret
    exact ⟨rfl, (Below.refl _ _).alloc (Nat.le_refl _) _⟩
  · have hb1 : (k == 1) = false := by simpa using h1
    by_cases h2 : k = 2
    · subst h2
      have e2 := eql4 2 2 n false D ⟨#[]⟩ E ⟨#[]⟩
      obtain ⟨R, hR⟩ : ∃ R, M.decB 2 n D.data.toList E.data.toList = R := ⟨_, rfl⟩
      rw [show decide ((2 : Int) = 2 ∧ n = false ∧ D = ⟨#[]⟩ ∧ E = ⟨#[]⟩) = M.decB 2 n D.data.toList E.data.toList by
        unfold M.decB
        rw [if_neg (by decide), if_neg (by decide), if_pos rfl, ← Bool.decide_and, show (⟨#[]⟩ : ByteArray) = bA [] from rfl]
        simp only [eq_bA_iff]
        cases n <;> simp, hR] at e2
      rw [hR]
      clear hR hk hb0 h1 hb1
      go_enter Tryd.func13, Tryd.ntmps13
      go_wp2
      go_ret
      exact ⟨rfl, (Below.refl _ _).alloc (Nat.le_refl _) _⟩
    · have hb2 : (k == 2) = false := by simpa using h2
      rw [show M.decB k n D.data.toList E.data.toList = false by unfold M.decB; rw [if_neg hk, if_neg h1, if_neg h2]]
      clear hk h1 h2
      go_enter Tryd.func13, Tryd.ntmps13
      go_wp2
      go_ret
      exact ⟨rfl, (Below.refl _ _).alloc (Nat.le_refl _) _⟩
theorem goodD_any (k : Int) (n : Bool) (D E : ByteArray) (w : World) (ht : Tab w) (hD : D.size ≤ 1000) (hE : E.size ≤ 1000) :
    Calls Tryd.prog 13 #[dV k n D E] w fun e w' => e = .returned (.bool (M.decB k n D.data.toList E.data.toList)) ∧ Below w.heap.size w w' := by
  by_cases hk : k = 0
  · subst hk; exact goodD_fin n D E w ht hD hE
  · exact goodD_rest k n D E w hk
end Go.Proofs.YtomgbcgaokebjaaDoor
