/- Walks: dec.Parse. -/
import Derived.Test.YtomgbcgaokebjaaDoorWs
import Derived.Test.YtomgbcgaokebjaaDoorLa
set_option linter.unusedVariables false
namespace Go.Proofs.YtomgbcgaokebjaaDoor
open Go.RowKit

theorem Blk.alloc' {w : World} {g : Nat} {k : Int} {n : Bool} {D E : ByteArray} (h : Blk w g k n D E) (o : Obj) : Blk (w.alloc o) g k n D E := h.next ((Below.refl _ _).alloc (Nat.le_refl _) o)
set_option maxRecDepth 100000 in
set_option maxHeartbeats 1000000 in
theorem parse_bad (s : ByteArray) (k : Int) (n : Bool) (D E : ByteArray) (w : World) (he : Env w)
    (c1 : ∀ W, Env W → Calls Tryd.prog 27 #[.string s] W fun e w' => e = .returned (.tuple #[dV k n D E, .bool false]) ∧ Below W.heap.size W w') :
    Calls Tryd.prog 11 #[.string s] w fun e w' => e = .returned (.tuple #[dZ, .bool false]) ∧ Below w.heap.size w w' := by
  go_enter Tryd.func11, Tryd.ntmps11
  go_wp2_with fail
  refine (c1 _ (env_new he _)).mono ?_
  rintro r w1 ⟨rfl, hb1⟩
  have K1 := (Blk.made w 0 false ⟨#[]⟩ ⟨#[]⟩).next hb1
  have B1 : Below w.heap.size w w1 := below_new hb1
  clear hb1 c1
  obtain ⟨g, hg⟩ : ∃ g, w.heap.size = g := ⟨_, rfl⟩
  rw [hg] at K1 B1 ⊢
  have hlt := K1.lt
  obtain ⟨k0, k1, k2, k3⟩ := K1.cells
  obtain ⟨f0, f1, f2, f3⟩ := K1.fro
  go_wp2
  exact bodyPost_ret (ret_dec Tryd.results11 _ rfl rfl ((K1.set 0 false _ _).alloc' _)) rfl ⟨rfl, (below_set4 (hg ▸ B1) (by omega) _ _ _ _).alloc (by simp [set4]; have := (hg ▸ B1 : Below w.heap.size w w1).size; omega) _⟩
set_option maxRecDepth 100000 in
set_option maxHeartbeats 1000000 in
theorem parse_other (s : ByteArray) (k : Int) (n : Bool) (D E O : ByteArray) (w : World) (he : Env w)
    (c1 : ∀ W, Env W → Calls Tryd.prog 27 #[.string s] W fun e w' => e = .returned (.tuple #[dV k n D E, .bool true]) ∧ Below W.heap.size W w')
    (c2 : ∀ W, Tab W → Calls Tryd.prog 15 #[dV k n D E] W fun e w' => e = .returned (.string O) ∧ Below W.heap.size W w') (ho : (O.toList == s.toList) = false) :
    Calls Tryd.prog 11 #[.string s] w fun e w' => e = .returned (.tuple #[dZ, .bool false]) ∧ Below w.heap.size w w' := by
  go_enter Tryd.func11, Tryd.ntmps11
  go_wp2_with fail
  refine (c1 _ (env_new he _)).mono ?_
  rintro r w1 ⟨rfl, hb1⟩
  have K1 := (Blk.made w 0 false ⟨#[]⟩ ⟨#[]⟩).next hb1
  have B1 : Below w.heap.size w w1 := below_new hb1
  clear hb1 c1
  have T1 := he.next B1
  obtain ⟨g, hg⟩ : ∃ g, w.heap.size = g := ⟨_, rfl⟩
  rw [hg] at K1 B1 ⊢
  have hlt := K1.lt
  go_wp2_with fail
  refine (c2 _ (tab_new T1.1 _)).mono ?_
  rintro r w2 ⟨rfl, hb2⟩
  have K2 := (K1.alloc' _).next hb2
  have B2 : Below w.heap.size w w2 := (hg ▸ B1).trans ((below_new hb2).mono (hg ▸ B1).size)
  clear K1 B1 hb2 c2
  obtain ⟨k0, k1, k2, k3⟩ := K2.cells
  obtain ⟨f0, f1, f2, f3⟩ := K2.fro
  go_wp2
  exact bodyPost_ret (ret_dec Tryd.results11 _ rfl rfl (K2.set 0 false _ _)) rfl ⟨rfl, below_set4 B2 (by omega) _ _ _ _⟩
set_option maxRecDepth 100000 in
set_option maxHeartbeats 1000000 in
theorem parse_same (s : ByteArray) (k : Int) (n : Bool) (D E : ByteArray) (w : World) (he : Env w)
    (c1 : ∀ W, Env W → Calls Tryd.prog 27 #[.string s] W fun e w' => e = .returned (.tuple #[dV k n D E, .bool true]) ∧ Below W.heap.size W w')
    (c2 : ∀ W, Tab W → Calls Tryd.prog 15 #[dV k n D E] W fun e w' => e = .returned (.string s) ∧ Below W.heap.size W w') :
    Calls Tryd.prog 11 #[.string s] w fun e w' => e = .returned (.tuple #[dV k n D E, .bool true]) ∧ Below w.heap.size w w' := by
  go_enter Tryd.func11, Tryd.ntmps11
  go_wp2_with fail
  refine (c1 _ (env_new he _)).mono ?_
  rintro r w1 ⟨rfl, hb1⟩
  have K1 := (Blk.made w 0 false ⟨#[]⟩ ⟨#[]⟩).next hb1
  have B1 : Below w.heap.size w w1 := below_new hb1
  clear hb1 c1
  have T1 := he.next B1
  obtain ⟨g, hg⟩ : ∃ g, w.heap.size = g := ⟨_, rfl⟩
  rw [hg] at K1 B1 ⊢
  have hlt := K1.lt
  go_wp2_with fail
  refine (c2 _ (tab_new T1.1 _)).mono ?_
  rintro r w2 ⟨rfl, hb2⟩
  have K2 := (K1.alloc' _).next hb2
  have L2 := (Blk.made w1 k n D E).next hb2
  have B2 : Below w.heap.size w w2 := (hg ▸ B1).trans ((below_new hb2).mono (hg ▸ B1).size)
  clear K1 B1 hb2 c2
  obtain ⟨j, hj⟩ : ∃ j, w1.heap.size = j := ⟨_, rfl⟩
  rw [hj] at L2 hlt ⊢
  obtain ⟨k0, k1, k2, k3⟩ := K2.cells
  obtain ⟨f0, f1, f2, f3⟩ := K2.fro
  obtain ⟨l0, l1, l2, l3⟩ := L2.cells
  go_wp2
  exact bodyPost_ret (ret_dec Tryd.results11 _ rfl rfl (K2.set k n D E)) rfl ⟨rfl, below_set4 B2 (by omega) _ _ _ _⟩
end Go.Proofs.YtomgbcgaokebjaaDoor
