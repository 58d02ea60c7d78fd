/- Walk: known. -/
import Derived.Test.YtomgbcgaokebjaaDoorWu
import Derived.Test.YtomgbcgaokebjaaDoorWn
set_option linter.unusedVariables false
namespace Go.Proofs.YtomgbcgaokebjaaDoor
open Go.RowKit

theorem Blk.over {w w1 : World} {o : Obj} {g : Nat} {k : Int} {n : Bool} {D E : ByteArray} (h : Blk w g k n D E) (hb : Below (w.alloc o).heap.size (w.alloc o) w1) : Blk w1 g k n D E := (h.alloc' o).next hb
theorem below_over {a w w1 : World} {o : Obj} (h : Below a.heap.size a w) (hb : Below (w.alloc o).heap.size (w.alloc o) w1) : Below a.heap.size a w1 := h.trans ((below_new hb).mono h.size)
theorem bdg15 : bA (M.dg 15) = ⟨#[49, 53]⟩ := by
  have h := lit_pos [49, 53] (by decide) (by decide) 15 (by decide)
  unfold tx at h
  rw [M.txt_nat] at h
  exact h
theorem tx7 : tx ((7 : Nat) : Int) = ⟨#[55]⟩ := lit_pos [55] (by decide) (by decide) 7 (by decide)
theorem kn1 (w : World) (ht : Tab w) : Calls Tryd.prog 9 #[.bool false, .string ⟨#[48, 49]⟩, .string ⟨#[53, 48]⟩, .string ⟨#[48]⟩] w fun e w' => e = .returned (.tuple #[dV 0 false ⟨#[49, 53]⟩ ⟨#[45, 49]⟩, .bool true]) ∧ Below w.heap.size w w' := by
  have := make_yes false ⟨#[48, 49]⟩ ⟨#[53, 48]⟩ 0 15 1 w ht (by decide) (by decide) (by rw [tx0]; decide) (by decide) (by decide) (by decide)
  rwa [tx0, bdg15, show (0 : Int) + (((1 : Nat) : Int) - ((⟨#[53, 48]⟩ : ByteArray).size : Int)) = -1 by decide, txm1] at this
theorem nodec10 : NoDec [49, 48, 46, 101, 43, 48] := by
  intro k n D E hb he
  rcases M.decB_cases hb with ⟨rfl, rfl, rfl⟩ | ⟨rfl, c, z, hc, rfl, rfl⟩ | ⟨rfl, rfl, rfl⟩ | ⟨rfl, rfl, rfl, rfl⟩
  · cases n <;> exact absurd he (by decide)
  · have e : M.prt 0 n (M.dg c) (M.txt z) = M.mns n ++ (M.dg c ++ (46 :: 101 :: (M.pls (M.txt z) ++ M.txt z))) := rfl
    rw [e] at he
    cases n
    · have h1 := cut_e (M.dg c) (M.pls (M.txt z) ++ M.txt z) (digits_no_point (M.dg_ok c))
      rw [show M.dg c ++ 46 :: 101 :: (M.pls (M.txt z) ++ M.txt z) = [49, 48, 46, 101, 43, 48] from he] at h1
      have h2 : M.dg c = [49, 48] := (congrArg Prod.fst h1).symm
      exact M.dg_core_last c hc (by rw [h2]; rfl)
    · exact absurd (List.head_eq_of_cons_eq he) (by decide)
  · cases n <;> exact absurd he (by decide)
  · exact absurd he (by decide)
theorem kn2 (w : World) (he : Env w) : Calls Tryd.prog 11 #[.string ⟨#[49, 48, 46, 101, 43, 48]⟩] w fun e w' => e = .returned (.tuple #[dZ, .bool false]) ∧ Below w.heap.size w w' :=
  parse_no ⟨#[49, 48, 46, 101, 43, 48]⟩ w he (by decide) nodec10
theorem kn3 (w : World) : Calls Tryd.prog 9 #[.bool true, .string ⟨#[]⟩, .string ⟨#[48, 48, 48]⟩, .string ⟨#[55]⟩] w fun e w' => e = .returned (.tuple #[dV 0 true ⟨#[48]⟩ ⟨#[48]⟩, .bool true]) ∧ Below w.heap.size w w' := by
  have := make_zero true ⟨#[]⟩ ⟨#[48, 48, 48]⟩ ((7 : Nat) : Int) w (by decide) (by decide) (by rw [tx7]; decide) (by decide) (by decide)
  rwa [tx7] at this
theorem kn4 (w : World) (ht : Tab w) : Calls Tryd.prog 15 #[dV 0 false ⟨#[49, 53]⟩ ⟨#[45, 49]⟩] w fun e w' => e = .returned (.string ⟨#[49, 53, 46, 101, 45, 49]⟩) ∧ Below w.heap.size w w' :=
  print_any 0 false ⟨#[49, 53]⟩ ⟨#[45, 49]⟩ w ht (by decide) (by decide)
theorem kn5 (w : World) (ht : Tab w) : Calls Tryd.prog 15 #[dV 1 true ⟨#[]⟩ ⟨#[]⟩] w fun e w' => e = .returned (.string ⟨#[45, 46, 105, 110, 102]⟩) ∧ Below w.heap.size w w' :=
  print_any 1 true ⟨#[]⟩ ⟨#[]⟩ w ht (by decide) (by decide)
theorem kn6 (w : World) (ht : Tab w) : Calls Tryd.prog 13 #[dV 2 true ⟨#[]⟩ ⟨#[]⟩] w fun e w' => e = .returned (.bool false) ∧ Below w.heap.size w w' :=
  goodD_any 2 true ⟨#[]⟩ ⟨#[]⟩ w ht (by decide) (by decide)

set_option maxRecDepth 100000 in
set_option maxHeartbeats 2000000 in
theorem known_any (w : World) (he : Env w) : Calls Tryd.prog 8 #[] w fun e w' => e = .returned (.bool true) ∧ Below w.heap.size w w' := by
  have e1 := eqG
  have e2 := eql4 0 0 false false ⟨#[49, 53]⟩ ⟨#[49, 53]⟩ ⟨#[45, 49]⟩ ⟨#[45, 49]⟩
  have e3 := eql4 0 0 true true ⟨#[48]⟩ ⟨#[48]⟩ ⟨#[48]⟩ ⟨#[48]⟩
  rw [decide_eq_true ⟨rfl, rfl, rfl, rfl⟩] at e2 e3
  go_enter Tryd.func8, Tryd.ntmps8
  go_wp2_with fail
  refine (kn1 _ he.1).mono ?_
  rintro r w1 ⟨rfl, hb1⟩
  have B1 : Below w.heap.size w w1 := hb1
  clear hb1
  have T1 := he.next B1
  go_wp2_with fail
  refine (kn2 _ (env_new T1 _)).mono ?_
  rintro r w2 ⟨rfl, hb2⟩
  have D2 := (Blk.made w1 0 false ⟨#[49, 53]⟩ ⟨#[45, 49]⟩).next hb2
  have B2 : Below w.heap.size w w2 := below_over B1 hb2
  clear hb2 T1
  have T2 := he.next B2
  obtain ⟨g, hg⟩ : ∃ g, w1.heap.size = g := ⟨_, rfl⟩
  rw [hg] at D2 ⊢
  clear B1 hg
  go_wp2_with fail
  refine (kn3 _).mono ?_
  rintro r w3 ⟨rfl, hb3⟩
  have D3 := D2.over hb3
  have B3 : Below w.heap.size w w3 := below_over B2 hb3
  clear hb3 T2 D2 B2
  have T3 := he.next B3
  have hlt := D3.lt
  obtain ⟨k0, k1, k2, k3⟩ := D3.cells
  go_wp2_with fail
  refine (kn4 _ (tab_new T3.1 _)).mono ?_
  rintro r w4 ⟨rfl, hb4⟩
  have D4 := D3.over hb4
  have E4 := (Blk.made w3 0 true ⟨#[48]⟩ ⟨#[48]⟩).next hb4
  have B4 : Below w.heap.size w w4 := below_over B3 hb4
  clear hb4 k0 k1 k2 k3
  have T4 := he.next B4
  obtain ⟨j, hj⟩ : ∃ j, w3.heap.size = j := ⟨_, rfl⟩
  rw [hj] at E4 ⊢
  clear B3 hj T3 D3 hlt
  have hlt := E4.lt
  obtain ⟨k0, k1, k2, k3⟩ := E4.cells
  go_wp2_with fail
  refine (kn5 _ T4.1).mono ?_
  rintro r w5 ⟨rfl, hb5⟩
  have B5 : Below w.heap.size w w5 := B4.trans (hb5.mono B4.size)
  clear hb5 T4 k0 k1 k2 k3
  have T5 := he.next B5
  go_wp2_with fail
  refine (kn6 _ T5.1).mono ?_
  rintro r w6 ⟨rfl, hb6⟩
  have B6 : Below w.heap.size w w6 := B5.trans (hb6.mono B5.size)
  go_wp2
  go_ret
  exact ⟨rfl, B6⟩
end Go.Proofs.YtomgbcgaokebjaaDoor
