/- Walks of targumref4's Print, Make. -/
import Derived.Test.YtocegiffbgnogaaDoorRh
set_option linter.unusedVariables false
namespace Go.Proofs.YtocegiffbgnogaaDoor
open Go.RowKit

set_option maxRecDepth 100000 in
set_option maxHeartbeats 1000000 in
theorem rprint_no (k : Int) (n : Bool) (D E : ByteArray) (w : World) (hD : D.size ≤ 1000) (hE : E.size ≤ 1000) (hd : M.decB k n D.data.toList E.data.toList = false) :
    Calls Tryd.prog 15 #[dV k n D E] w fun e w' => e = .returned (.string ⟨#[]⟩) ∧ Below w.heap.size w w' := by
  have c1 := fun W => rdec_any k n D E W hD hE
  rw [hd] at c1
  clear hd
  cases n
  · go_enter Tryd.func15, Tryd.ntmps15
    go_wp2_with fail
    refine (c1 _).mono ?_
    rintro r w1 ⟨rfl, hb1⟩
    have B1 : Below w.heap.size w w1 := below_new hb1
    clear hb1 c1
    go_wp2
    go_ret
    exact ⟨rfl, B1⟩
  · go_enter Tryd.func15, Tryd.ntmps15
    go_wp2_with fail
    refine (c1 _).mono ?_
    rintro r w1 ⟨rfl, hb1⟩
    have B1 : Below w.heap.size w w1 := below_new hb1
    clear hb1 c1
    go_wp2
    go_ret
    exact ⟨rfl, B1⟩
set_option maxRecDepth 100000 in
set_option maxHeartbeats 1000000 in
theorem rprint_inf (n : Bool) (w : World) :
    Calls Tryd.prog 15 #[dV 1 n ⟨#[]⟩ ⟨#[]⟩] w fun e w' => e = .returned (.string (bA (M.prt 1 n [] []))) ∧ Below w.heap.size w w' := by
  have c1 := fun W => rdec_any 1 n ⟨#[]⟩ ⟨#[]⟩ W (by decide) (by decide)
  rw [show M.decB 1 n (⟨#[]⟩ : ByteArray).data.toList (⟨#[]⟩ : ByteArray).data.toList = true from M.decB_inf n] at c1
  cases n
  · go_enter Tryd.func15, Tryd.ntmps15
    go_wp2_with fail
    refine (c1 _).mono ?_
    rintro r w1 ⟨rfl, hb1⟩
    have K1 := (Blk.made w 1 false ⟨#[]⟩ ⟨#[]⟩).next hb1
    have B1 : Below w.heap.size w w1 := below_new hb1
    clear hb1 c1
    obtain ⟨g, hg⟩ : ∃ g, w.heap.size = g := ⟨_, rfl⟩
    rw [hg] at K1 B1 ⊢
    have hlt := K1.lt
    obtain ⟨k0, k1, k2, k3⟩ := K1.cells
    go_wp2
    go_ret
    exact ⟨ret_str (rfl), hg ▸ B1⟩
  · go_enter Tryd.func15, Tryd.ntmps15
    go_wp2_with fail
    refine (c1 _).mono ?_
    rintro r w1 ⟨rfl, hb1⟩
    have K1 := (Blk.made w 1 true ⟨#[]⟩ ⟨#[]⟩).next hb1
    have B1 : Below w.heap.size w w1 := below_new hb1
    clear hb1 c1
    obtain ⟨g, hg⟩ : ∃ g, w.heap.size = g := ⟨_, rfl⟩
    rw [hg] at K1 B1 ⊢
    have hlt := K1.lt
    obtain ⟨k0, k1, k2, k3⟩ := K1.cells
    go_wp2
    go_ret
    exact ⟨ret_str (rfl), hg ▸ B1⟩
set_option maxRecDepth 100000 in
set_option maxHeartbeats 1000000 in
theorem rprint_nan (w : World) :
    Calls Tryd.prog 15 #[dV 2 false ⟨#[]⟩ ⟨#[]⟩] w fun e w' => e = .returned (.string (bA (M.prt 2 false [] []))) ∧ Below w.heap.size w w' := by
  have c1 := fun W => rdec_any 2 false ⟨#[]⟩ ⟨#[]⟩ W (by decide) (by decide)
  rw [show M.decB 2 false (⟨#[]⟩ : ByteArray).data.toList (⟨#[]⟩ : ByteArray).data.toList = true from M.decB_nan] at c1
  go_enter Tryd.func15, Tryd.ntmps15
  go_wp2_with fail
  refine (c1 _).mono ?_
  rintro r w1 ⟨rfl, hb1⟩
  have K1 := (Blk.made w 2 false ⟨#[]⟩ ⟨#[]⟩).next hb1
  have B1 : Below w.heap.size w w1 := below_new hb1
  clear hb1 c1
  obtain ⟨g, hg⟩ : ∃ g, w.heap.size = g := ⟨_, rfl⟩
  rw [hg] at K1 B1 ⊢
  have hlt := K1.lt
  obtain ⟨k0, k1, k2, k3⟩ := K1.cells
  go_wp2
  go_ret
  exact ⟨ret_str (rfl), hg ▸ B1⟩
theorem prt_fin (n : Bool) (D E : ByteArray) : (bA (M.mns n) ++ D ++ bA (46 :: 101 :: M.pls E.data.toList) ++ E = bA (M.prt 0 n D.data.toList E.data.toList)) := by
  apply eq_bA
  unfold M.prt
  rw [if_neg (by decide), if_neg (by decide)]
  simp [bA]
set_option maxRecDepth 100000 in
set_option maxHeartbeats 1000000 in
theorem rprint_fin (n : Bool) (D E : ByteArray) (w : World) (hD : D.size ≤ 1000) (hE : E.size ≤ 1000) (hE0 : 0 < E.size) (hd : M.decB 0 n D.data.toList E.data.toList = true) :
    Calls Tryd.prog 15 #[dV 0 n D E] w fun e w' => e = .returned (.string (bA (M.prt 0 n D.data.toList E.data.toList))) ∧ Below w.heap.size w w' := by
  have c1 := fun W => rdec_any 0 n D E W hD hE
  rw [hd] at c1
  have hR := prt_fin n D E
  by_cases hn : M.isNeg E.data.toList = true
  · have hh := head_is E hE0 hn
    rw [show M.pls E.data.toList = [] by unfold M.pls; rw [if_pos hn]] at hR
    have HR := Lib.hid hR
    clear hR hd hn
    generalize bA (M.prt 0 n D.data.toList E.data.toList) = R at *
    cases n
    · go_enter Tryd.func15, Tryd.ntmps15
      go_wp2_with fail
      refine (c1 _).mono ?_
      rintro r w1 ⟨rfl, hb1⟩
      have K1 := (Blk.made w 0 false D E).next hb1
      have B1 : Below w.heap.size w w1 := below_new hb1
      clear hb1 c1
      obtain ⟨g, hg⟩ : ∃ g, w.heap.size = g := ⟨_, rfl⟩
      rw [hg] at K1 B1 ⊢
      have hlt := K1.lt
      obtain ⟨k0, k1, k2, k3⟩ := K1.cells
      go_wp2
      go_ret
      exact ⟨ret_str (HR.out), hg ▸ B1⟩
    · go_enter Tryd.func15, Tryd.ntmps15
      go_wp2_with fail
      refine (c1 _).mono ?_
      rintro r w1 ⟨rfl, hb1⟩
      have K1 := (Blk.made w 0 true D E).next hb1
      have B1 : Below w.heap.size w w1 := below_new hb1
      clear hb1 c1
      obtain ⟨g, hg⟩ : ∃ g, w.heap.size = g := ⟨_, rfl⟩
      rw [hg] at K1 B1 ⊢
      have hlt := K1.lt
      obtain ⟨k0, k1, k2, k3⟩ := K1.cells
      go_wp2
      go_ret
      exact ⟨ret_str (HR.out), hg ▸ B1⟩
  · have hh : (((E[0].toNat : Nat) : Int) == 45) = false := head_not E hE0 (by simpa using hn)
    have hh2 : (((E[0].toNat : Nat) : Int) != 45) = true := by rw [bne, hh]; rfl
    rw [show M.pls E.data.toList = [43] by unfold M.pls; rw [if_neg hn]] at hR
    have HR := Lib.hid hR
    clear hR hd hn
    generalize bA (M.prt 0 n D.data.toList E.data.toList) = R at *
    cases n
    · go_enter Tryd.func15, Tryd.ntmps15
      go_wp2_with fail
      refine (c1 _).mono ?_
      rintro r w1 ⟨rfl, hb1⟩
      have K1 := (Blk.made w 0 false D E).next hb1
      have B1 : Below w.heap.size w w1 := below_new hb1
      clear hb1 c1
      obtain ⟨g, hg⟩ : ∃ g, w.heap.size = g := ⟨_, rfl⟩
      rw [hg] at K1 B1 ⊢
      have hlt := K1.lt
      obtain ⟨k0, k1, k2, k3⟩ := K1.cells
      go_wp2
      go_ret
      exact ⟨ret_str (HR.out), hg ▸ B1⟩
    · go_enter Tryd.func15, Tryd.ntmps15
      go_wp2_with fail
      refine (c1 _).mono ?_
      rintro r w1 ⟨rfl, hb1⟩
      have K1 := (Blk.made w 0 true D E).next hb1
      have B1 : Below w.heap.size w w1 := below_new hb1
      clear hb1 c1
      obtain ⟨g, hg⟩ : ∃ g, w.heap.size = g := ⟨_, rfl⟩
      rw [hg] at K1 B1 ⊢
      have hlt := K1.lt
      obtain ⟨k0, k1, k2, k3⟩ := K1.cells
      go_wp2
      go_ret
      exact ⟨ret_str (HR.out), hg ▸ B1⟩
theorem rprint_any (k : Int) (n : Bool) (D E : ByteArray) (w : World) (hD : D.size ≤ 1000) (hE : E.size ≤ 1000) :
    Calls Tryd.prog 15 #[dV k n D E] w fun e w' => e = .returned (.string (bA (M.out k n D.data.toList E.data.toList))) ∧ Below w.heap.size w w' := by
  cases hg : M.decB k n D.data.toList E.data.toList
  · rw [M.out_no hg]
    exact rprint_no k n D E w hD hE hg
  · rw [M.out_yes hg]
    rcases M.decB_cases hg with ⟨rfl, h1, h2⟩ | ⟨rfl, c, z, hc, h1, h2⟩ | ⟨rfl, h1, h2⟩ | ⟨rfl, rfl, h1, h2⟩
    · exact rprint_fin n D E w hD hE (by rw [sz_list, h2]; decide) hg
    · exact rprint_fin n D E w hD hE (by rw [sz_list, h2]; exact List.length_pos_iff.2 (M.txt_ne z)) hg
    · obtain rfl : D = ⟨#[]⟩ := eq_bA h1
      obtain rfl : E = ⟨#[]⟩ := eq_bA h2
      exact rprint_inf n w
    · obtain rfl : D = ⟨#[]⟩ := eq_bA h1
      obtain rfl : E = ⟨#[]⟩ := eq_bA h2
      exact rprint_nan w
end Go.Proofs.YtocegiffbgnogaaDoor
