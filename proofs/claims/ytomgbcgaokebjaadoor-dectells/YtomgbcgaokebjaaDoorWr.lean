/- Walks: dec.minus, dec.plus, dec.Print. -/
import Derived.Test.YtomgbcgaokebjaaDoorWq
set_option linter.unusedVariables false
namespace Go.Proofs.YtomgbcgaokebjaaDoor
open Go.RowKit

theorem mns_any (n : Bool) (w : World) : Calls Tryd.prog 28 #[.bool n] w fun e w' => e = .returned (.string (bA (M.mns n))) ∧ w = w' := by
  cases n
  · go_enter Tryd.func28, Tryd.ntmps28
    go_wp2
    go_ret
    exact ⟨rfl, rfl⟩
  · go_enter Tryd.func28, Tryd.ntmps28
    go_wp2
    go_ret
    exact ⟨rfl, rfl⟩
theorem pls_any (E : ByteArray) (w : World) (h0 : 0 < E.size) : Calls Tryd.prog 29 #[.string E] w fun e w' => e = .returned (.string (bA (M.pls E.data.toList))) ∧ w = w' := by
  by_cases h : M.isNeg E.data.toList = true
  · have hh := head_is E h0 h
    rw [show M.pls E.data.toList = [] by unfold M.pls; rw [if_pos h]]
    clear h
    go_enter Tryd.func29, Tryd.ntmps29
    go_wp2
    go_ret
    exact ⟨rfl, rfl⟩
  · have hh := head_not E h0 (by simpa using h)
    rw [show M.pls E.data.toList = [43] by unfold M.pls; rw [if_neg h]]
    clear h
    go_enter Tryd.func29, Tryd.ntmps29
    go_wp2
    go_ret
    exact ⟨rfl, rfl⟩
theorem mns_len (n : Bool) : (bA (M.mns n)).size ≤ 1 := by cases n <;> decide
theorem pls_len (l : List UInt8) : (bA (M.pls l)).size ≤ 1 := by rw [bA_size]; unfold M.pls; split <;> simp

theorem tab_new {w : World} (ht : Tab w) (o : Obj) : Tab (w.alloc o) := ht.next ((Below.refl w.heap.size w).alloc (Nat.le_refl _) o)
set_option maxRecDepth 100000 in
set_option maxHeartbeats 1000000 in
theorem print_fin (n : Bool) (D E : ByteArray) (w : World) (ht : Tab w) (hD : D.size ≤ 1000) (hE : E.size ≤ 1000) (hE0 : 0 < E.size) (hd : M.decB 0 n D.data.toList E.data.toList = true) :
    Calls Tryd.prog 15 #[dV 0 n D E] w fun e w' => e = .returned (.string (bA (M.prt 0 n D.data.toList E.data.toList))) ∧ Below w.heap.size w w' := by
  have c1 := fun W (hW : Tab W) => goodD_any 0 n D E W hW hD hE
  rw [hd] at c1
  have ht0 := tab_new ht (.cells #[.int .i64 0, .bool n, .string D, .string E] 23)
  have c2 := mns_any n
  have hm := mns_len n
  have c3 := fun W => pls_any E W hE0
  have hp := pls_len E.data.toList
  have HR : Hid (bA (M.mns n) ++ D ++ ⟨#[46, 101]⟩ ++ bA (M.pls E.data.toList) ++ E = bA (M.prt 0 n D.data.toList E.data.toList)) := Lib.hid (by
    apply eq_bA
    unfold M.prt
    rw [if_neg (by decide), if_neg (by decide)]
    simp [bA])
  generalize bA (M.prt 0 n D.data.toList E.data.toList) = R at *
  generalize bA (M.mns n) = P at *
  generalize bA (M.pls E.data.toList) = Q at *
  clear hd
  go_enter Tryd.func15, Tryd.ntmps15
  go_wp2_with fail
  refine (c1 _ ht0).mono ?_
  rintro r w1 ⟨rfl, hb1⟩
  have K1 := (Blk.made w 0 n D E).next hb1
  have B1 : Below w.heap.size w w1 := below_new hb1
  clear hb1 c1
  obtain ⟨g, hg⟩ : ∃ g, w.heap.size = g := ⟨_, rfl⟩
  rw [hg] at K1 B1 ⊢
  have hlt := K1.lt
  obtain ⟨k0, k1, k2, k3⟩ := K1.cells
  go_wp2_with fail
  go_quiet ((first | (go_at_call 28; exact Calls.quiet_of_same ((c2 _).mono fun _ _ h => ⟨h.1, h.2.symm⟩)) | (go_at_call 29; exact Calls.quiet_of_same ((c3 _).mono fun _ _ h => ⟨h.1, h.2.symm⟩))))
  go_wp2
  go_ret
  exact ⟨ret_str HR.out, below_dN (hg ▸ B1) _⟩
set_option maxRecDepth 100000 in
set_option maxHeartbeats 1000000 in
theorem print_inf (n : Bool) (w : World) (ht : Tab w) :
    Calls Tryd.prog 15 #[dV 1 n ⟨#[]⟩ ⟨#[]⟩] w fun e w' => e = .returned (.string (bA (M.prt 1 n [] []))) ∧ Below w.heap.size w w' := by
  have c1 := fun W (hW : Tab W) => goodD_any 1 n ⟨#[]⟩ ⟨#[]⟩ W hW (by decide) (by decide)
  rw [show M.decB 1 n (⟨#[]⟩ : ByteArray).data.toList (⟨#[]⟩ : ByteArray).data.toList = true from M.decB_inf n] at c1
  have ht0 := tab_new ht (.cells #[.int .i64 1, .bool n, .string ⟨#[]⟩, .string ⟨#[]⟩] 23)
  have c2 := mns_any n
  have hm := mns_len n
  have HR : Hid (bA (M.mns n) ++ ⟨#[46, 105, 110, 102]⟩ = bA (M.prt 1 n [] [])) := Lib.hid (by cases n <;> rfl)
  generalize bA (M.prt 1 n [] []) = R at *
  generalize bA (M.mns n) = P at *
  go_enter Tryd.func15, Tryd.ntmps15
  go_wp2_with fail
  refine (c1 _ ht0).mono ?_
  rintro r w1 ⟨rfl, hb1⟩
  have K1 := (Blk.made w 1 n ⟨#[]⟩ ⟨#[]⟩).next hb1
  have B1 : Below w.heap.size w w1 := below_new hb1
  clear hb1 c1
  obtain ⟨g, hg⟩ : ∃ g, w.heap.size = g := ⟨_, rfl⟩
  rw [hg] at K1 B1 ⊢
  have hlt := K1.lt
  obtain ⟨k0, k1, k2, k3⟩ := K1.cells
  go_wp2_with fail
  refine (c2 _).mono ?_
  rintro r w' ⟨rfl, rfl⟩
  go_wp2
  go_ret
  exact ⟨ret_str HR.out, hg ▸ B1⟩
set_option maxRecDepth 100000 in
set_option maxHeartbeats 1000000 in
theorem print_nan (w : World) (ht : Tab w) :
    Calls Tryd.prog 15 #[dV 2 false ⟨#[]⟩ ⟨#[]⟩] w fun e w' => e = .returned (.string (bA (M.prt 2 false [] []))) ∧ Below w.heap.size w w' := by
  have c1 := fun W (hW : Tab W) => goodD_any 2 false ⟨#[]⟩ ⟨#[]⟩ W hW (by decide) (by decide)
  rw [show M.decB 2 false (⟨#[]⟩ : ByteArray).data.toList (⟨#[]⟩ : ByteArray).data.toList = true from M.decB_nan] at c1
  have ht0 := tab_new ht (.cells #[.int .i64 2, .bool false, .string ⟨#[]⟩, .string ⟨#[]⟩] 23)
  go_enter Tryd.func15, Tryd.ntmps15
  go_wp2_with fail
  refine (c1 _ ht0).mono ?_
  rintro r w1 ⟨rfl, hb1⟩
  have K1 := (Blk.made w 2 false ⟨#[]⟩ ⟨#[]⟩).next hb1
  have B1 : Below w.heap.size w w1 := below_new hb1
  clear hb1 c1
  obtain ⟨g, hg⟩ : ∃ g, w.heap.size = g := ⟨_, rfl⟩
  rw [hg] at K1 B1 ⊢
  have hlt := K1.lt
  obtain ⟨k0, k1, k2, k3⟩ := K1.cells
  go_wp2
  go_ret
  exact ⟨rfl, hg ▸ B1⟩
set_option maxRecDepth 100000 in
set_option maxHeartbeats 1000000 in
theorem print_no (k : Int) (n : Bool) (D E : ByteArray) (w : World) (ht : Tab w) (hD : D.size ≤ 1000) (hE : E.size ≤ 1000) (hd : M.decB k n D.data.toList E.data.toList = false) :
    Calls Tryd.prog 15 #[dV k n D E] w fun e w' => e = .returned (.string ⟨#[]⟩) ∧ Below w.heap.size w w' := by
  have c1 := fun W (hW : Tab W) => goodD_any k n D E W hW hD hE
  rw [hd] at c1
  have ht0 := tab_new ht (.cells #[.int .i64 k, .bool n, .string D, .string E] 23)
  clear hd
  go_enter Tryd.func15, Tryd.ntmps15
  go_wp2_with fail
  refine (c1 _ ht0).mono ?_
  rintro r w1 ⟨rfl, hb1⟩
  have B1 : Below w.heap.size w w1 := below_new hb1
  clear hb1 c1
  go_wp2
  go_ret
  exact ⟨rfl, B1⟩
theorem print_any (k : Int) (n : Bool) (D E : ByteArray) (w : World) (ht : Tab w) (hD : D.size ≤ 1000) (hE : E.size ≤ 1000) :
    Calls Tryd.prog 15 #[dV k n D E] w fun e w' => e = .returned (.string (bA (M.out k n D.data.toList E.data.toList))) ∧ Below w.heap.size w w' := by
  cases hg : M.decB k n D.data.toList E.data.toList
  · rw [M.out_no hg]
    exact print_no k n D E w ht hD hE hg
  · rw [M.out_yes hg]
    rcases M.decB_cases hg with ⟨rfl, h1, h2⟩ | ⟨rfl, c, z, hc, h1, h2⟩ | ⟨rfl, h1, h2⟩ | ⟨rfl, rfl, h1, h2⟩
    · exact print_fin n D E w ht hD hE (by rw [sz_list, h2]; decide) hg
    · exact print_fin n D E w ht hD hE (by rw [sz_list, h2]; exact List.length_pos_iff.2 (M.txt_ne z)) hg
    · obtain rfl : D = ⟨#[]⟩ := eq_bA h1
      obtain rfl : E = ⟨#[]⟩ := eq_bA h2
      exact print_inf n w ht
    · obtain rfl : D = ⟨#[]⟩ := eq_bA h1
      obtain rfl : E = ⟨#[]⟩ := eq_bA h2
      exact print_nan w ht
end Go.Proofs.YtomgbcgaokebjaaDoor
