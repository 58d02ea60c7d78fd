/- Walks of the document's Float12. -/
import Derived.Test.YtocegiffbgnogaaDoorPg
import Derived.BigRegion
set_option linter.unusedVariables false
namespace Go.Proofs.YtocegiffbgnogaaDoor
open Go.RowKit

theorem Blk.drew' {w : World} {g : Nat} {k : Int} {n : Bool} {D E : ByteArray} (h : Blk w g k n D E) : Blk w.drew g k n D E := h
set_option maxRecDepth 100000 in
set_option maxHeartbeats 2000000 in
/-- What is a whole number is no decimal. -/
theorem rflo_whole (s : ByteArray) (z : Int) (w : World) (hs : s.size ≤ 100) (h : M.iv s.data.toList = some z) :
    Calls Tryd.prog 11 #[.string s] w fun e w' => e = .returned (.tuple #[dZ, .bool false]) ∧ Below w.heap.size w w' := by
  have c0 := fun W => rint12_any s W hs
  rw [h] at c0
  simp only [tailV] at c0
  clear h
  generalize tx z = Z at *
  go_enter Tryd.func11, Tryd.ntmps11
  go_wp2_with fail
  refine (c0 _).mono ?_
  rintro r w1 ⟨rfl, hw1⟩
  have K1 := (Blk.made w 0 false ⟨#[]⟩ ⟨#[]⟩).next hw1
  have B1 : Below w.heap.size w w1 := below_new hw1
  clear hw1 c0
  obtain ⟨g, hg⟩ : ∃ g, w.heap.size = g := ⟨_, rfl⟩
  rw [hg] at K1 B1 ⊢
  obtain ⟨k0, k1, k2, k3⟩ := K1.cells
  obtain ⟨f0, f1, f2, f3⟩ := K1.fro
  go_wp2
  exact bodyPost_ret (ret_dec Tryd.results11 _ rfl rfl (K1.set 0 false _ _)) rfl ⟨rfl, below_set4 (hg ▸ B1) (by omega) _ _ _ _⟩
set_option maxRecDepth 100000 in
set_option maxHeartbeats 2000000 in
/-- What has no end, what is no number. -/
theorem rflo_odd (s : ByteArray) (w : World) (hs : s.size ≤ 100) (h : M.iv s.data.toList = none) (k : Int) (n : Bool)
    (c2 : ∀ g, g = decide ((bA (M.body s.data.toList)).size < s.size) → ∀ W, Calls Tryd.prog 27 #[.string (bA (M.body s.data.toList)), .bool (M.isNeg s.data.toList), .bool g] W fun e w' => e = .returned (.tuple #[dV k n ⟨#[]⟩ ⟨#[]⟩, .bool true]) ∧ Below W.heap.size W w') :
    Calls Tryd.prog 11 #[.string s] w fun e w' => e = .returned (.tuple #[dV k n ⟨#[]⟩ ⟨#[]⟩, .bool true]) ∧ Below w.heap.size w w' := by
  have c0 := fun W => rint12_any s W hs
  rw [h] at c0
  simp only [tailV] at c0
  have c1 := fun W => rsign_any s W (by omega)
  have hU : (bA (M.body s.data.toList)).size ≤ 100 := by rw [bA_size]; have := M.body_len s.data.toList; rw [← sz_list] at this; omega
  clear h
  generalize bA (M.body s.data.toList) = U at *
  generalize M.isNeg s.data.toList = N at *
  have c2' := c2 _ rfl
  clear c2
  obtain ⟨q, hq⟩ : ∃ q, decide (U.size < s.size) = q := ⟨_, rfl⟩
  rw [hq] at c2'
  go_enter Tryd.func11, Tryd.ntmps11
  go_wp2_with fail
  refine (c0 _).mono ?_
  rintro r w0 ⟨rfl, hw0⟩
  have K0 := (Blk.made w 0 false ⟨#[]⟩ ⟨#[]⟩).next hw0
  have B0 : Below w.heap.size w w0 := below_new hw0
  clear hw0 c0
  go_wp2_with fail
  refine (c1 _).mono ?_
  rintro r w1 ⟨rfl, hw1⟩
  have K1 := K0.next hw1
  have B1 : Below w.heap.size w w1 := below_on B0 hw1
  clear hw1 c1 K0 B0
  go_wp2_with fail
  refine (c2' _).mono ?_
  rintro r w2 ⟨rfl, hw2⟩
  have K2 := K1.next hw2
  have B2 : Below w.heap.size w w2 := below_on B1 hw2
  clear hw2 c2' K1 B1
  have KD := Blk.made w2 k n ⟨#[]⟩ ⟨#[]⟩
  have KR := K2.alloc' (.cells #[.int .i64 k, .bool n, .string ⟨#[]⟩, .string ⟨#[]⟩] 28)
  have hgw : w.heap.size < w2.heap.size := K2.lt
  obtain ⟨g, hg⟩ : ∃ g, w.heap.size = g := ⟨_, rfl⟩
  rw [hg] at KR K2 hgw ⊢
  obtain ⟨j0, j1, j2, j3⟩ := K2.cells
  obtain ⟨i0, i1, i2, i3⟩ := K2.fro
  obtain ⟨k0, k1, k2, k3⟩ := KR.cells
  obtain ⟨f0, f1, f2, f3⟩ := KR.fro
  obtain ⟨d0, d1, d2, d3⟩ := KD.cells
  go_wp2
  exact bodyPost_ret (ret_dec Tryd.results11 _ rfl rfl ((K2.set k n _ _).alloc' _)) rfl ⟨rfl, (below_set4 (hg ▸ B2) (by omega) _ _ _ _).alloc (by simp [set4]; have := B2.size; omega) _⟩
/-- What stands at a digit's place, and behind the digits. -/
theorem hd_at (l : List UInt8) (h : l.length ≤ 100) : Hid (∀ j (h : j < (bA l).size), j < (M.hd l).length → M.dv (bA l)[j] < 10) ∧ Hid (∀ (h : (M.hd l).length < (bA l).size), ¬ M.dv (bA l)[(M.hd l).length] < 10) := by
  have e := M.hd_rs l
  have hRl : (bA l).data.toList = l := bA_toList l
  constructor
  · refine Lib.hid (fun j h hj => ?_)
    have g := get_list (bA l) j h
    rw [hRl, show l[j]? = (M.hd l ++ M.rs l)[j]? by rw [e], List.getElem?_append_left hj] at g
    exact (M.allD_iff _ _).1 (M.hd_all l) _ (List.mem_of_getElem? g)
  · refine Lib.hid (fun h => ?_)
    have g := get_list (bA l) _ h
    rw [hRl, show l[(M.hd l).length]? = (M.hd l ++ M.rs l)[(M.hd l).length]? by rw [e], List.getElem?_append_right (Nat.le_refl _), Nat.sub_self] at g
    have hnd := M.rs_head l
    cases hb : M.rs l with
    | nil => rw [hb] at g; cases g
    | cons x r =>
      rw [hb] at g
      have hx : x = (bA l)[(M.hd l).length] := by simpa using g
      rw [← hx]
      exact hnd x r hb
end Go.Proofs.YtocegiffbgnogaaDoor
