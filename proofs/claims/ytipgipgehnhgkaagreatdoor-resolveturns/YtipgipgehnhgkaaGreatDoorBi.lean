/- Walk of float11's Of. -/
import Derived.Test.YtipgipgehnhgkaaGreatDoorBh
import Derived.Test.YtipgipgehnhgkaaGreatDoorBb
set_option linter.unusedVariables false
namespace Go.Proofs.YtipgipgehnhgkaaGreatDoor
open Go.RowKit

theorem flo_of {l : List UInt8} (h0 : M.flo l ≠ 0) (h4 : M.flo l ≠ 4) (h5 : M.flo l ≠ 5) : M.flo l = M.fl (M.body l) ∧ M.fl (M.body l) ≠ 0 := by
  unfold M.flo at *
  split
  · rename_i h; rw [if_pos h] at h5; exact absurd rfl h5
  · rename_i h
    rw [if_neg h] at h0 h4
    split
    · rename_i g; rw [if_pos g] at h4; exact absurd rfl h4
    · rename_i g; rw [if_neg g] at h0; exact ⟨rfl, h0⟩
set_option maxRecDepth 100000 in
theorem fof_no (s : ByteArray) (w : World) (hs : s.size ≤ 1000) (h : M.flo s.data.toList = 0) :
    Calls Tryz.prog 23 #[.string s] w fun e w' => e = .returned (.tuple #[dZ, .bool false]) ∧ Below w.heap.size w w' := by
  have c1 := fun W => flo_any s W hs
  have c2 := fun W => fsplit_any s W (by omega)
  rw [h] at c1
  generalize bA (M.body s.data.toList) = U at *
  generalize M.isNeg s.data.toList = N at *
  clear h
  go_enter Tryz.func23, Tryz.ntmps23
  go_wp2_with fail
  refine (c1 _).mono ?_
  rintro r w' ⟨rfl, rfl⟩
  go_wp2_with fail
  refine (c2 _).mono ?_
  rintro r w' ⟨rfl, rfl⟩
  go_wp2
  exact bodyPost_ret (ret_dec Tryz.results23 _ rfl rfl (Blk.made w 0 false ⟨#[]⟩ ⟨#[]⟩)) rfl ⟨rfl, (Below.refl _ _).alloc (Nat.le_refl _) _⟩
set_option maxRecDepth 100000 in
theorem fof_inf (s : ByteArray) (w : World) (hs : s.size ≤ 1000) (h : M.flo s.data.toList = 4) :
    Calls Tryz.prog 23 #[.string s] w fun e w' => e = .returned (.tuple #[dV 1 (M.isNeg s.data.toList) ⟨#[]⟩ ⟨#[]⟩, .bool true]) ∧ Below w.heap.size w w' := by
  have c1 := fun W => flo_any s W hs
  have c2 := fun W => fsplit_any s W (by omega)
  rw [h] at c1
  generalize bA (M.body s.data.toList) = U at *
  generalize M.isNeg s.data.toList = N at *
  clear h
  go_enter Tryz.func23, Tryz.ntmps23
  go_wp2_with fail
  refine (c1 _).mono ?_
  rintro r w' ⟨rfl, rfl⟩
  go_wp2_with fail
  refine (c2 _).mono ?_
  rintro r w' ⟨rfl, rfl⟩
  go_wp2
  exact bodyPost_ret (ret_dec Tryz.results23 _ rfl rfl (Blk.made w 1 N ⟨#[]⟩ ⟨#[]⟩)) rfl ⟨rfl, (Below.refl _ _).alloc (Nat.le_refl _) _⟩
set_option maxRecDepth 100000 in
theorem fof_nan (s : ByteArray) (w : World) (hs : s.size ≤ 1000) (h : M.flo s.data.toList = 5) :
    Calls Tryz.prog 23 #[.string s] w fun e w' => e = .returned (.tuple #[dV 2 false ⟨#[]⟩ ⟨#[]⟩, .bool true]) ∧ Below w.heap.size w w' := by
  have c1 := fun W => flo_any s W hs
  have c2 := fun W => fsplit_any s W (by omega)
  rw [h] at c1
  generalize bA (M.body s.data.toList) = U at *
  generalize M.isNeg s.data.toList = N at *
  clear h
  go_enter Tryz.func23, Tryz.ntmps23
  go_wp2_with fail
  refine (c1 _).mono ?_
  rintro r w' ⟨rfl, rfl⟩
  go_wp2_with fail
  refine (c2 _).mono ?_
  rintro r w' ⟨rfl, rfl⟩
  go_wp2
  exact bodyPost_ret (ret_dec Tryz.results23 _ rfl rfl (Blk.made w 2 false ⟨#[]⟩ ⟨#[]⟩)) rfl ⟨rfl, (Below.refl _ _).alloc (Nat.le_refl _) _⟩
set_option maxRecDepth 100000 in
set_option maxHeartbeats 2000000 in
/-- What Of answers is what Make answers of the digits and the power. -/
theorem fof_plain (s : ByteArray) (w : World) (he : Env w) (hs : s.size ≤ 900) (W F H X : List UInt8) (z : Int) (hP : M.Shape (M.body s.data.toList) W F H X z) (hf : M.flo s.data.toList = M.fl (M.body s.data.toList)) (hf0 : M.flo s.data.toList = 1 ∨ M.flo s.data.toList = 2)
    (k : Int) (n ok : Bool) (D E : ByteArray) (cM : ∀ W', Tab W' → Calls Tryz.prog 52 #[.bool (M.isNeg s.data.toList), .string (bA W), .string (bA F), .string (tx z)] W' fun e w' => e = .returned (.tuple #[dV k n D E, .bool ok]) ∧ Below W'.heap.size W' w') :
    Calls Tryz.prog 23 #[.string s] w fun e w' => e = .returned (.tuple #[dV k n D E, .bool ok]) ∧ Below w.heap.size w w' := by
  have hbl := M.body_len s.data.toList
  rw [← sz_list] at hbl
  have c1 := fun W => flo_any s W (by omega)
  have c2 := fun W => fsplit_any s W (by omega)
  have c3 := fun W (he : Env W) => rep_any (bA (M.body s.data.toList)) W he (by rw [bA_size]; omega)
  rw [bA_toList, hP.eq] at c3
  have c4 := fun W => power_any (H ++ 46 :: F) X z W (by have := hP.le; omega) hP.low hP.pow
  have c5 := fun W (he : Env W) => cut46_any (H ++ 46 :: F) H F true W he (by have := hP.le; omega) (M.cut_yes 46 H F hP.no46)
  obtain rfl : W = H := (hP.plain (by omega)).1
  obtain ⟨f, hff⟩ : ∃ f, M.flo s.data.toList = f := ⟨_, rfl⟩
  rw [hff] at c1 hf0
  have hf3 : ((f : Int) == 3) = false := beq_eq_false_iff_ne.2 (by omega)
  have hf1 : ((f : Int) == 0) = false := beq_eq_false_iff_ne.2 (by omega)
  have hf4 : ((f : Int) == 4) = false := beq_eq_false_iff_ne.2 (by omega)
  have hf5 : ((f : Int) == 5) = false := beq_eq_false_iff_ne.2 (by omega)
  clear hP hff hf hf0 hbl
  generalize M.isNeg s.data.toList = N at *
  generalize bA (M.body s.data.toList) = B0 at *
  generalize bA (W ++ 46 :: F ++ X) = B1 at *
  generalize bA (W ++ 46 :: F) = B2 at *
  generalize bA W = B3 at *
  generalize bA F = B4 at *
  generalize tx z = Z at *
  go_enter Tryz.func23, Tryz.ntmps23
  go_wp2_with fail
  refine (c1 _).mono ?_
  rintro r w' ⟨rfl, rfl⟩
  go_wp2_with fail
  refine (c2 _).mono ?_
  rintro r w' ⟨rfl, rfl⟩
  go_wp2_with fail
  refine (c3 _ (env_new he _)).mono ?_
  rintro r w1 ⟨rfl, hb1⟩
  clear c1 c2 c3
  have e1 := (env_new he _).next hb1
  go_wp2_with fail
  refine (c4 _).mono ?_
  rintro r w2 ⟨rfl, hb2⟩
  have e2 := e1.next hb2
  clear c4
  go_wp2_with fail
  refine (c5 _ e2).mono ?_
  rintro r w3 ⟨rfl, hb3⟩
  have e3 := e2.next hb3
  clear c5
  go_wp2_with fail
  refine (cM _ e3.1).mono ?_
  rintro r w4 ⟨rfl, hb4⟩
  have K1 := (((Blk.made w 0 false ⟨#[]⟩ ⟨#[]⟩).next hb1).next hb2 |>.next hb3).next hb4
  have B1 : Below w.heap.size w w4 := (below_new hb1).trans ((hb2.mono (by have := (below_new hb1).size; omega)).trans ((hb3.mono (by have := (below_new hb1).size; have := hb2.size; omega)).trans (hb4.mono (by have := (below_new hb1).size; have := hb2.size; have := hb3.size; omega))))
  clear cM hb1 hb2 hb3 hb4 e1 e2 e3 he
  obtain ⟨g, hg⟩ : ∃ g, w.heap.size = g := ⟨_, rfl⟩
  rw [hg] at K1 B1 ⊢
  obtain ⟨k0, k1, k2, k3⟩ := K1.cells
  obtain ⟨f0, f1, f2, f3⟩ := K1.fro
  go_wp2
  exact bodyPost_ret (ret_dec Tryz.results23 _ rfl rfl (K1.set k n _ _)) rfl ⟨rfl, below_set4 (hg ▸ B1) (by omega) _ _ _ _⟩
set_option maxRecDepth 100000 in
set_option maxHeartbeats 2000000 in
/-- The same where the whole part is to the base 60. -/
theorem fof_six (s : ByteArray) (w : World) (he : Env w) (hs : s.size ≤ 900) (W F H X : List UInt8) (z : Int) (hP : M.Shape (M.body s.data.toList) W F H X z) (hf : M.flo s.data.toList = M.fl (M.body s.data.toList)) (hf0 : M.flo s.data.toList = 3)
    (k : Int) (n ok : Bool) (D E : ByteArray) (cM : ∀ W', Tab W' → Calls Tryz.prog 52 #[.bool (M.isNeg s.data.toList), .string (bA W), .string (bA F), .string (tx z)] W' fun e w' => e = .returned (.tuple #[dV k n D E, .bool ok]) ∧ Below W'.heap.size W' w') :
    Calls Tryz.prog 23 #[.string s] w fun e w' => e = .returned (.tuple #[dV k n D E, .bool ok]) ∧ Below w.heap.size w w' := by
  have hbl := M.body_len s.data.toList
  rw [← sz_list] at hbl
  have c1 := fun W => flo_any s W (by omega)
  have c2 := fun W => fsplit_any s W (by omega)
  have c3 := fun W (he : Env W) => rep_any (bA (M.body s.data.toList)) W he (by rw [bA_size]; omega)
  rw [bA_toList, hP.eq] at c3
  have c4 := fun W => power_any (H ++ 46 :: F) X z W (by have := hP.le; omega) hP.low hP.pow
  have c5 := fun W (he : Env W) => cut46_any (H ++ 46 :: F) H F true W he (by have := hP.le; omega) (M.cut_yes 46 H F hP.no46)
  obtain ⟨D0, R, hH, hD0, hR, hW, _, _⟩ := hP.six (by omega)
  have c6 := fun W (he : Env W) => fsix_any D0 R W he hD0 hR (by have := hP.le; rw [hH] at this; simp at this; omega)
  rw [← hH] at c6
  have hbW : bA W = tx ((M.sx (M.val 10 D0) 0 R : Nat) : Int) := by rw [hW]; unfold tx; rw [M.txt_nat]
  rw [hbW] at cM
  obtain ⟨f, hff⟩ : ∃ f, M.flo s.data.toList = f := ⟨_, rfl⟩
  rw [hff] at c1 hf0
  have hf3 : ((f : Int) == 3) = true := beq_iff_eq.2 (by omega)
  have hf1 : ((f : Int) == 0) = false := beq_eq_false_iff_ne.2 (by omega)
  have hf4 : ((f : Int) == 4) = false := beq_eq_false_iff_ne.2 (by omega)
  have hf5 : ((f : Int) == 5) = false := beq_eq_false_iff_ne.2 (by omega)
  clear hP hff hf hf0 hbl hH hD0 hR hW hbW
  generalize tx ((M.sx (M.val 10 D0) 0 R : Nat) : Int) = B5 at *
  generalize M.isNeg s.data.toList = N at *
  generalize bA (M.body s.data.toList) = B0 at *
  generalize bA (H ++ 46 :: F ++ X) = B1 at *
  generalize bA (H ++ 46 :: F) = B2 at *
  generalize bA H = B3 at *
  generalize bA F = B4 at *
  generalize tx z = Z at *
  go_enter Tryz.func23, Tryz.ntmps23
  go_wp2_with fail
  refine (c1 _).mono ?_
  rintro r w' ⟨rfl, rfl⟩
  go_wp2_with fail
  refine (c2 _).mono ?_
  rintro r w' ⟨rfl, rfl⟩
  go_wp2_with fail
  refine (c3 _ (env_new he _)).mono ?_
  rintro r w1 ⟨rfl, hb1⟩
  clear c1 c2 c3
  have e1 := (env_new he _).next hb1
  go_wp2_with fail
  refine (c4 _).mono ?_
  rintro r w2 ⟨rfl, hb2⟩
  have e2 := e1.next hb2
  clear c4
  go_wp2_with fail
  refine (c5 _ e2).mono ?_
  rintro r w3 ⟨rfl, hb3⟩
  have e3 := e2.next hb3
  clear c5
  go_wp2_with fail
  refine (c6 _ e3).mono ?_
  rintro r w5 ⟨rfl, hb5⟩
  have e5 := e3.next hb5
  clear c6
  go_wp2_with fail
  refine (cM _ e5.1).mono ?_
  rintro r w4 ⟨rfl, hb4⟩
  have K1 := ((((Blk.made w 0 false ⟨#[]⟩ ⟨#[]⟩).next hb1).next hb2 |>.next hb3).next hb5).next hb4
  have B1 : Below w.heap.size w w4 := (below_new hb1).trans ((hb2.mono (by have := (below_new hb1).size; omega)).trans ((hb3.mono (by have := (below_new hb1).size; have := hb2.size; omega)).trans ((hb5.mono (by have := (below_new hb1).size; have := hb2.size; have := hb3.size; omega)).trans (hb4.mono (by have := (below_new hb1).size; have := hb2.size; have := hb3.size; have := hb5.size; omega)))))
  clear cM hb1 hb2 hb3 hb4 hb5 e1 e2 e3 e5 he
  obtain ⟨g, hg⟩ : ∃ g, w.heap.size = g := ⟨_, rfl⟩
  rw [hg] at K1 B1 ⊢
  obtain ⟨k0, k1, k2, k3⟩ := K1.cells
  obtain ⟨f0, f1, f2, f3⟩ := K1.fro
  go_wp2
  exact bodyPost_ret (ret_dec Tryz.results23 _ rfl rfl (K1.set k n _ _)) rfl ⟨rfl, below_set4 (hg ▸ B1) (by omega) _ _ _ _⟩
end Go.Proofs.YtipgipgehnhgkaaGreatDoor
