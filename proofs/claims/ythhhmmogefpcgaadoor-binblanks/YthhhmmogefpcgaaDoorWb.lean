/- Walks: bin's signsOf. -/
import Derived.Test.YthhhmmogefpcgaaDoorWa
import Derived.Laws.BitsAllLaws
import Derived.Lib.SmallJoins
set_option linter.unusedVariables false
namespace Go.Proofs.YthhhmmogefpcgaaDoor
open Go.RowKit

theorem u64_join (i : Nat) (x y : Nat) (hx : x % 2 ^ i = 0) (hy : y < 2 ^ i) (h1 : x < 18446744073709551616) (h2 : y < 18446744073709551616) : bits .or .u64 (x : Int) (y : Int) = ((x + y : Nat) : Int) := by
  rw [u64_or_nat x y h1 h2, nat_join i x y hx hy]
theorem or3_u64 (x0 x1 x2 : Nat) (b0 : x0 < 256) (b1 : x1 < 256) (b2 : x2 < 256) :
    bits .or .u64 (bits .or .u64 ((x0 : Int) * 65536) ((x1 : Int) * 256)) (x2 : Int) = ((x0 * 65536 + x1 * 256 + x2 : Nat) : Int) := by
  have e0 : ((x0 : Int) * 65536) = ((x0 * 65536 : Nat) : Int) := by omega
  have e1 : ((x1 : Int) * 256) = ((x1 * 256 : Nat) : Int) := by omega
  rw [e0, e1, u64_join 16 (x0 * 65536) (x1 * 256) (by omega) (by omega) (by omega) (by omega), u64_join 8 (x0 * 65536 + x1 * 256) x2 (by omega) (by omega) (by omega) (by omega)]
theorem heap2 (w : World) (o0 o1 : Obj) : ((w.alloc o0).alloc o1).heap[w.heap.size]? = some o0 ∧ ((w.alloc o0).alloc o1).heap[w.heap.size + 1]? = some o1 := by
  constructor
  · rw [Below.heap_alloc _ _ _ (by simp)]
    exact heap_alloc_new w o0
  · have := heap_alloc_new (w.alloc o0) o1
    simpa using this
theorem heap3 (w : World) (o0 o1 o2 : Obj) : (((w.alloc o0).alloc o1).alloc o2).heap[w.heap.size + 1]? = some o1 ∧ (((w.alloc o0).alloc o1).alloc o2).heap[w.heap.size + 1 + 1]? = some o2 := by
  constructor
  · rw [Below.heap_alloc _ _ _ (by simp)]
    have := heap_alloc_new (w.alloc o0) o1
    simpa using this
  · have := heap_alloc_new ((w.alloc o0).alloc o1) o2
    simpa using this
theorem put4 {w : World} {g T : Nat} {a b c d : Value} (v0 v1 v2 v3 : Value) (h : w.heap[g]? = some (.cells #[a, b, c, d] T (0, 0))) :
    ((((w.setCell ⟨g, 0, none⟩ v0).setCell ⟨g, 1, none⟩ v1).setCell ⟨g, 2, none⟩ v2).setCell ⟨g, 3, none⟩ v3).heap[g]? = some (.cells #[v0, v1, v2, v3] T (0, 0)) := by
  have h0 := heap_setCell_same w g 0 _ T v0 h
  have h1 := heap_setCell_same _ g 1 _ T v1 h0
  have h2 := heap_setCell_same _ g 2 _ T v2 h1
  have h3 := heap_setCell_same _ g 3 _ T v3 h2
  exact h3
theorem put3 {w : World} {g T : Nat} {a b c : Value} (v0 v1 v2 : Value) (h : w.heap[g]? = some (.cells #[a, b, c] T (0, 0))) :
    (((w.setCell ⟨g, 0, none⟩ v0).setCell ⟨g, 1, none⟩ v1).setCell ⟨g, 2, none⟩ v2).heap[g]? = some (.cells #[v0, v1, v2] T (0, 0)) := by
  have h0 := heap_setCell_same w g 0 _ T v0 h
  have h1 := heap_setCell_same _ g 1 _ T v1 h0
  exact heap_setCell_same _ g 2 _ T v2 h1
theorem below_put4 {w w' : World} {B g : Nat} (v0 v1 v2 v3 : Value) (h : Below B w w') (hB : B ≤ g) :
    Below B w ((((w'.setCell ⟨g, 0, none⟩ v0).setCell ⟨g, 1, none⟩ v1).setCell ⟨g, 2, none⟩ v2).setCell ⟨g, 3, none⟩ v3) :=
  (((h.setCell (p := ⟨g, 0, none⟩) hB v0).setCell (p := ⟨g, 1, none⟩) hB v1).setCell (p := ⟨g, 2, none⟩) hB v2).setCell (p := ⟨g, 3, none⟩) hB v3
theorem below_put3 {w w' : World} {B g : Nat} (v0 v1 v2 : Value) (h : Below B w w') (hB : B ≤ g) :
    Below B w (((w'.setCell ⟨g, 0, none⟩ v0).setCell ⟨g, 1, none⟩ v1).setCell ⟨g, 2, none⟩ v2) :=
  ((h.setCell (p := ⟨g, 0, none⟩) hB v0).setCell (p := ⟨g, 1, none⟩) hB v1).setCell (p := ⟨g, 2, none⟩) hB v2
theorem info_4 : (Tryd.prog.info? 38).map (·.size) = some 4 := by kernel_rfl
theorem info_3 : (Tryd.prog.info? 39).map (·.size) = some 3 := by kernel_rfl
theorem and63 (x : Nat) (h : x < 18446744073709551616) : bits .and .u64 (x : Int) 63 = ((x % 64 : Nat) : Int) := by
  have := u64_and_nat x 63 h (by omega)
  rw [show ((63 : Nat) : Int) = 63 from rfl] at this
  rw [this, Nat.and_two_pow_sub_one_eq_mod x 6]
theorem Tab.cell {w : World} (ht : Tab w) (k : Nat) (hk : k < 64) : w.cell? ⟨0, k, none⟩ = some (.int .u8 ((M.sg k).toNat : Int)) := by
  have := Lib.TabIs.cell ht tabG k hk
  rw [this, List.getD, sgI_get k hk]; rfl
theorem Tab.pos {w : World} (ht : Tab w) : 0 < w.heap.size := World.block_lt_of_cell? w _ (ht.cell 0 (by omega))
theorem Tab.below {w w' : World} {B : Nat} (h : Tab w) (hb : Below B w w') (hB : w.heap.size ≤ B) : Tab w' := Joins.tab_stays tabG h hb hB
theorem Tab.next {w w' : World} (h : Tab w) (hb : Below w.heap.size w w') : Tab w' := h.below hb (Nat.le_refl _)
set_option maxRecDepth 100000 in
set_option maxHeartbeats 2000000 in
theorem signs_any (x y z : UInt8) (n : Nat) (w : World) (ht : Tab w) (h1 : 1 ≤ n) (h3 : n ≤ 3) :
    Calls Tryd.prog 16 #[.agg #[.int .u8 x.toNat, .int .u8 y.toNat, .int .u8 z.toNat], .int .i64 n] w fun e w' =>
      e = .returned (.agg ((M.S4 x y z n).map fun c => Value.int .u8 c.toNat).toArray) ∧ Below w.heap.size w w' := by
  have hx := x.toNat_lt
  have hy := y.toNat_lt
  have hz := z.toNat_lt
  obtain ⟨D, hD⟩ : ∃ D, M.D3 x y z = D := ⟨_, rfl⟩
  have hlt := M.b0_lt x y z
  rw [hD] at hlt
  have hor := or3_u64 _ _ _ hx hy hz
  rw [show x.toNat * 65536 + y.toNat * 256 + z.toNat = D from hD] at hor
  obtain ⟨k0, hk0⟩ : ∃ k, D / 262144 = k := ⟨_, rfl⟩
  obtain ⟨k1, hk1⟩ : ∃ k, D / 4096 % 64 = k := ⟨_, rfl⟩
  obtain ⟨k2, hk2⟩ : ∃ k, D / 64 % 64 = k := ⟨_, rfl⟩
  obtain ⟨k3, hk3⟩ : ∃ k, D % 64 = k := ⟨_, rfl⟩
  have e0 : (D : Int) / 262144 = (k0 : Int) := by omega
  have e1 : bits .and .u64 ((D : Int) / 4096) 63 = (k1 : Int) := by
    have := and63 (D / 4096) (by omega)
    rw [hk1] at this; rw [← this]; rfl
  have e2 : bits .and .u64 ((D : Int) / 64) 63 = (k2 : Int) := by
    have := and63 (D / 64) (by omega)
    rw [hk2] at this; rw [← this]; rfl
  have e3 : bits .and .u64 (D : Int) 63 = (k3 : Int) := by
    have := and63 D (by omega)
    rw [hk3] at this; exact this
  have a0 : (0 : Int) ≤ (k0 : Int) ∧ (k0 : Int) < 64 := by omega
  have a1 : (0 : Int) ≤ (k1 : Int) ∧ (k1 : Int) < 64 := by omega
  have a2 : (0 : Int) ≤ (k2 : Int) ∧ (k2 : Int) < 64 := by omega
  have a3 : (0 : Int) ≤ (k3 : Int) ∧ (k3 : Int) < 64 := by omega
  have c0 := ht.cell k0 (by omega)
  have c1 := ht.cell k1 (by omega)
  have c2 := ht.cell k2 (by omega)
  have c3 := ht.cell k3 (by omega)
  have hpos := ht.pos
  have hS : M.S4 x y z n = [M.sg k0, M.sg k1, if n < 2 then 61 else M.sg k2, if n < 3 then 61 else M.sg k3] := by
    unfold M.S4; rw [hD, hk0, hk1, hk2, hk3]
  obtain ⟨R, hR⟩ : ∃ R, M.S4 x y z n = R := ⟨_, rfl⟩
  rw [hR]
  rw [hR] at hS
  have HS := Lib.hid hS
  clear hS hD ht hR
  generalize M.sg k0 = s0 at *
  generalize M.sg k1 = s1 at *
  generalize M.sg k2 = s2 at *
  generalize M.sg k3 = s3 at *
  clear hk0 hk1 hk2 hk3
  go_enter Tryd.func16, Tryd.ntmps16
  go_wp2
  clear hor
  go_region
  clear c0 c1 c2 c3 a0 a1 a2 a3 e0 e1 e2 e3
  go_wp2_with fail
  go_loopw [7] (fun iv wr => ∃ (i : Nat) (p2 p3 : UInt8), iv = .int .i64 i ∧ n + 1 ≤ i ∧ i ≤ 4 ∧ p2 = (if n < 2 ∧ 2 < i then 61 else s2) ∧ p3 = (if n < 3 ∧ 3 < i then 61 else s3) ∧
    wr.heap[w.heap.size + 1 + 1]? = some (.cells #[.int .u8 s0.toNat, .int .u8 s1.toNat, .int .u8 p2.toNat, .int .u8 p3.toNat] 38 (0, 0)) ∧ wr.heap[w.heap.size + 1]? = some (.cells #[.int .u8 0, .int .u8 0, .int .u8 0, .int .u8 0] 38 (0, 0)) ∧ Below w.heap.size w wr) (fun iv _ => 4 - (intOf iv).toNat)
  case atStart => exact ⟨n + 1, s2, s3, by go_num, Nat.le_refl _, by omega, by rw [if_neg (by omega)], by rw [if_neg (by omega)], (heap3 w _ _ _).2, (heap3 w _ _ _).1, (((Below.refl _ _).alloc (Nat.le_refl _) _).alloc (by simp) _).alloc (by simp; omega) _ |>.drew⟩
  case round =>
    obtain ⟨i, p2, p3, rfl, hi1, hi2, hp2, hp3, hg2, hg1, hbw⟩ := hrel
    have hs := hbw.size
    have c0 : wr.cell? ⟨w.heap.size + 1 + 1, 0, none⟩ = some (.int .u8 s0.toNat) := by simp [World.cell?, hg2]
    have c1 : wr.cell? ⟨w.heap.size + 1 + 1, 1, none⟩ = some (.int .u8 s1.toNat) := by simp [World.cell?, hg2]
    have c2 : wr.cell? ⟨w.heap.size + 1 + 1, 2, none⟩ = some (.int .u8 p2.toNat) := by simp [World.cell?, hg2]
    have c3 : wr.cell? ⟨w.heap.size + 1 + 1, 3, none⟩ = some (.int .u8 p3.toNat) := by simp [World.cell?, hg2]
    have f2 : wr.frozen? ⟨w.heap.size + 1 + 1, 2, none⟩ = false := frozen_of_row wr _ 2 _ 38 hg2
    have f3 : wr.frozen? ⟨w.heap.size + 1 + 1, 3, none⟩ = false := frozen_of_row wr _ 3 _ 38 hg2
    obtain rfl | rfl | rfl : i = 2 ∨ i = 3 ∨ i = 4 := by omega
    · have hb' := hbw.setCell (p := ⟨w.heap.size + 1 + 1, 2, none⟩) (by show _ ≤ w.heap.size + 1 + 1; omega) (.int .u8 61)
      have hg2' := heap_setCell_same wr (w.heap.size + 1 + 1) 2 _ 38 (.int .u8 61) hg2
      have hg1' := (heap_setCell_other wr ⟨w.heap.size + 1 + 1, 2, none⟩ (w.heap.size + 1) (.int .u8 61) (by show w.heap.size + 1 ≠ w.heap.size + 1 + 1; omega)).trans hg1
      clear hg1 hg2
      go_wp2_with fail
      go_roundw
      case rel => exact ⟨3, 61, p3, rfl, by omega, by omega, by rw [if_pos (by omega)], by rw [hp3, if_neg (by omega), if_neg (by omega)], hg2', hg1', hb'⟩
      case measure => simp [intOf]
    · have hb' := hbw.setCell (p := ⟨w.heap.size + 1 + 1, 3, none⟩) (by show _ ≤ w.heap.size + 1 + 1; omega) (.int .u8 61)
      have hg2' := heap_setCell_same wr (w.heap.size + 1 + 1) 3 _ 38 (.int .u8 61) hg2
      have hg1' := (heap_setCell_other wr ⟨w.heap.size + 1 + 1, 3, none⟩ (w.heap.size + 1) (.int .u8 61) (by show w.heap.size + 1 ≠ w.heap.size + 1 + 1; omega)).trans hg1
      clear hg1 hg2
      go_wp2_with fail
      go_roundw
      case rel => exact ⟨4, p2, 61, rfl, by omega, by omega, by rw [hp2]; split <;> split <;> first | rfl | omega, by rw [if_pos (by omega)], hg2', hg1', hb'⟩
      case measure => simp [intOf]
    · have d0 : wr.cell? ⟨w.heap.size + 1, 0, none⟩ = some (.int .u8 0) := by simp [World.cell?, hg1]
      have d1 : wr.cell? ⟨w.heap.size + 1, 1, none⟩ = some (.int .u8 0) := by simp [World.cell?, hg1]
      have d2 : wr.cell? ⟨w.heap.size + 1, 2, none⟩ = some (.int .u8 0) := by simp [World.cell?, hg1]
      have d3 : wr.cell? ⟨w.heap.size + 1, 3, none⟩ = some (.int .u8 0) := by simp [World.cell?, hg1]
      have g0 : wr.frozen? ⟨w.heap.size + 1, 0, none⟩ = false := frozen_of_row wr _ 0 _ 38 hg1
      have g1 : wr.frozen? ⟨w.heap.size + 1, 1, none⟩ = false := frozen_of_row wr _ 1 _ 38 hg1
      have g2 : wr.frozen? ⟨w.heap.size + 1, 2, none⟩ = false := frozen_of_row wr _ 2 _ 38 hg1
      have g3 : wr.frozen? ⟨w.heap.size + 1, 3, none⟩ = false := frozen_of_row wr _ 3 _ 38 hg1
      have e2 : p2 = if n < 2 then 61 else s2 := by rw [hp2]; split <;> split <;> first | rfl | omega
      have e3 : p3 = if n < 3 then 61 else s3 := by rw [hp3]; split <;> split <;> first | rfl | omega
      have E := Lib.hid (And.intro e2 e3)
      have l4 : decide (((4 : Nat) : Int) < 4) = false := by decide
      have G := Lib.hid hg1
      clear hp2 hp3 e2 e3 hg1 hg2
      go_wp2_with fail
      refine bodyPost_ret (results_cell_row Tryd.results16 _ _ (w.heap.size + 1) 38 _ (0, 0) _ rfl (put4 _ _ _ _ G.out) Tryd.underlying38 rfl info_4) rfl ⟨?_, below_put4 _ _ _ _ hbw (by omega)⟩
      rw [HS.out, ← E.out.1, ← E.out.2]; rfl
end Go.Proofs.YthhhmmogefpcgaaDoor
