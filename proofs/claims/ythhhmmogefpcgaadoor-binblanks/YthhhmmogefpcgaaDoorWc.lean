/- Walks: bin's bytesOf. -/
import Derived.Test.YthhhmmogefpcgaaDoorWb
import Derived.Laws.ResultCell
set_option linter.unusedVariables false
namespace Go.Proofs.YthhhmmogefpcgaaDoor
open Go.RowKit

/-- The block g holds what each byte says as a sign. -/
def VB (w : World) (g : Nat) : Prop := ∀ c : UInt8, w.cell? ⟨g, c.toNat, none⟩ = some (.int .u8 ((M.vl c : Nat) : Int))
theorem VB.below {w w' : World} {g B : Nat} (h : VB w g) (hb : Below B w w') (hg : g < B) : VB w' g := fun c => (hb.cell (p := ⟨g, c.toNat, none⟩) hg).trans (h c)
theorem or6 (q v : Nat) (hq : q < 262144) (hv : v < 64) : bits .or .u64 ((q : Int) * 64) (v : Int) = ((q * 64 + v : Nat) : Int) := by
  have e0 : ((q : Int) * 64) = ((q * 64 : Nat) : Int) := by omega
  rw [e0, u64_join 6 (q * 64) v (by omega) (by omega) (by omega) (by omega)]
theorem run_index_u8 (t : TypeId) (n : Nat) (cs : Array Value) (i : Nat) (v : Value) (w : World) (ht : Tryd.prog.underlying t = some (.array n 5)) (h : i < n) (hv : cs[i]? = some v) :
    (Instr.index t (.agg cs) (.int .i64 (i : Int))).run Tryd.prog w = .ok v w := by
  have h1 : (0 : Int) ≤ (i : Int) ∧ (i : Int) < (n : Int) := by omega
  simp [Instr.index, asIntOf, run_underlying ht, h1, part, Tryd.sizeOf5, Tryd.isAgg5, Result.andThen]
  rw [if_pos h, hv]; rfl
theorem wpList_index {ops : Array Oper} {rest : List Oper} {o : Oper} {a : Act} {w : World} {Q : Exit → Act → World → Prop} (hgd : o.guard = none) (t : TypeId) (x ix : Operand) (ho : o.op = .index t x ix) (n i : Nat) (cs : Array Value) (v : Value)
    (hx : a.eval x = .agg cs) (hix : a.eval ix = .int .i64 (i : Int)) (ht : Tryd.prog.underlying t = some (.array n 5)) (hi : i < n) (hv : cs[i]? = some v) (h : wpList Tryd.prog ops Q rest (a.put o.dst v) w) : wpList Tryd.prog ops Q (o :: rest) a w := by
  refine wpList_plain hgd fun K hK => ?_
  have hrun := run_index_u8 t n cs i v w ht hi hv
  unfold Oper.wp
  simp [execOp, ho, hx, hix, hrun, Result.andThen]
  exact hK _ _ h
theorem ret3 {fn : Func} {p u : Tmp} {g : Nat} {n : Int} {v0 v1 v2 a b c : Value} {w : World} {o : Obj} (h : fn.results = #[.cell p 39, .tmp u]) (tmps : Array Value) (hp : tmps.getD p undef = .pointer (some ⟨g, 0, none⟩)) (hu : tmps.getD u undef = .int .i64 n)
    (hg : w.heap[g]? = some (.cells #[a, b, c] 39 (0, 0))) :
    (results fn tmps).run Tryd.prog ((((w.setCell ⟨g, 0, none⟩ v0).setCell ⟨g, 1, none⟩ v1).setCell ⟨g, 2, none⟩ v2).alloc o) = .ok (.tuple #[.agg #[v0, v1, v2], .int .i64 n]) ((((w.setCell ⟨g, 0, none⟩ v0).setCell ⟨g, 1, none⟩ v1).setCell ⟨g, 2, none⟩ v2).alloc o) := by
  rw [results_cell_tmp h, hp, hu]
  have h3 := put3 v0 v1 v2 hg
  have hg' := (Below.heap_alloc _ o g (Array.getElem?_eq_some_iff.1 h3).1).trans h3
  have := run_loadVar_row (P := Tryd.prog) _ g 39 39 _ (0, 0) _ hg' Tryd.underlying39 rfl info_3
  simp [asAddr, Result.andThen, this]
def dg (a b c d : Nat) : Nat → Nat
  | 0 => 0
  | 1 => a
  | 2 => a * 64 + b
  | 3 => (a * 64 + b) * 64 + c
  | _ => ((a * 64 + b) * 64 + c) * 64 + d
set_option maxRecDepth 100000 in
set_option maxHeartbeats 4000000 in
theorem bytes_of_any (a b c d : UInt8) (g : Nat) (w : World) (hv : VB w g) (hg : g < w.heap.size) :
    Calls Tryd.prog 15 #[.agg #[.int .u8 a.toNat, .int .u8 b.toNat, .int .u8 c.toNat, .int .u8 d.toNat], .pointer (some ⟨g, 0, none⟩)] w fun e w' =>
      e = .returned (.tuple #[.agg #[.int .u8 (M.x0 a b c d).toNat, .int .u8 (M.x1 a b c d).toNat, .int .u8 (M.x2 a b c d).toNat], .int .i64 (M.cnt c d)]) ∧ Below w.heap.size w w' := by
  have ha := a.toNat_lt
  have hb := b.toNat_lt
  have hc := c.toNat_lt
  have hd := d.toNat_lt
  have va := M.sg_vl_lt a
  have vb := M.sg_vl_lt b
  have vc := M.sg_vl_lt c
  have vd := M.sg_vl_lt d
  have ca := hv a
  have cb := hv b
  have cc := hv c
  have cd := hv d
  clear hv
  obtain ⟨R0, hR0⟩ : ∃ R, M.x0 a b c d = R := ⟨_, rfl⟩
  obtain ⟨R1, hR1⟩ : ∃ R, M.x1 a b c d = R := ⟨_, rfl⟩
  obtain ⟨R2, hR2⟩ : ∃ R, M.x2 a b c d = R := ⟨_, rfl⟩
  obtain ⟨R3, hR3⟩ : ∃ R, M.cnt c d = R := ⟨_, rfl⟩
  rw [hR0, hR1, hR2, hR3]
  obtain ⟨D, hD⟩ : ∃ D, M.D4 a b c d = D := ⟨_, rfl⟩
  have hD' : ((M.vl a * 64 + M.vl b) * 64 + M.vl c) * 64 + M.vl d = D := hD
  have hlt : D < 16777216 := by omega
  have r0 : D / 65536 = R0.toNat := by rw [← hR0]; unfold M.x0 M.b0; rw [hD, UInt8.toNat_ofNat']; omega
  have r1 : ¬ M.cnt c d < 2 → D / 256 % 256 = R1.toNat := by intro h; rw [← hR1]; unfold M.x1 M.b1; rw [hD, if_neg h, UInt8.toNat_ofNat']
  have r2 : ¬ M.cnt c d < 3 → D % 256 = R2.toNat := by intro h; rw [← hR2]; unfold M.x2 M.b2; rw [hD, if_neg h, UInt8.toNat_ofNat']
  have z1 : M.cnt c d < 2 → 0 = R1.toNat := by intro h; rw [← hR1]; unfold M.x1; rw [if_pos h]; rfl
  have z2 : M.cnt c d < 3 → 0 = R2.toNat := by intro h; rw [← hR2]; unfold M.x2; rw [if_pos h]; rfl
  have n3 : ¬ d = 61 → R3 = 3 := by intro h; rw [← hR3]; unfold M.cnt; rw [if_pos h]
  have n2 : d = 61 → ¬ c = 61 → R3 = 2 := by intro h h2; rw [← hR3]; unfold M.cnt; rw [if_neg (by simpa using h), if_pos h2]
  have n1 : d = 61 → c = 61 → R3 = 1 := by intro h h2; rw [← hR3]; unfold M.cnt; rw [if_neg (by simpa using h), if_neg (by simpa using h2)]
  rw [hR3] at r1 r2 z1 z2
  generalize M.vl a = ya at *
  generalize M.vl b = yb at *
  generalize M.vl c = yc at *
  generalize M.vl d = yd at *
  have h0 := or6 0 ya (by omega) va
  have h1 := or6 ya yb (by omega) vb
  have h2 := or6 (ya * 64 + yb) yc (by omega) vc
  have h3 := or6 ((ya * 64 + yb) * 64 + yc) yd (by omega) vd
  have HF := Lib.hid (And.intro r0 (And.intro r1 (And.intro r2 (And.intro z1 (And.intro z2 (And.intro n3 (And.intro n2 n1)))))))
  clear r0 r1 r2 z1 z2 n3 n2 n1 hR0 hR1 hR2 hR3
  have HO := Lib.hid (And.intro h0 (And.intro h1 (And.intro h2 h3)))
  clear h0 h1 h2 h3
  have HD := Lib.hid hD'
  clear hD' hD
  go_enter Tryd.func15, Tryd.ntmps15
  go_wp2_with fail
  go_loopw [11, 6] (fun iv qv wr => ∃ (i q : Nat), iv = .int .i64 i ∧ qv = .int .u64 q ∧ i ≤ 4 ∧ q = dg ya yb yc yd i ∧
    wr.heap[w.heap.size]? = some (.cells #[.int .u8 a.toNat, .int .u8 b.toNat, .int .u8 c.toNat, .int .u8 d.toNat] 38 (0, 0)) ∧ wr.heap[w.heap.size + 1]? = some (.cells #[.int .u8 0, .int .u8 0, .int .u8 0] 39 (0, 0)) ∧ Below w.heap.size w wr) (fun iv _ _ => 4 - (intOf iv).toNat)
  case atStart => exact ⟨0, 0, rfl, rfl, by omega, rfl, (heap2 w _ _).1, (heap2 w _ _).2, ((Below.refl _ _).alloc (Nat.le_refl _) _).alloc (by simp) _⟩
  case round =>
    obtain ⟨i, q, rfl, rfl, hi, hq, hg0, hg1, hbw⟩ := hrel
    obtain rfl | rfl | rfl | rfl | rfl : i = 0 ∨ i = 1 ∨ i = 2 ∨ i = 3 ∨ i = 4 := by omega
    · have hq' : q = 0 := hq
      have hqb : q < 262144 := by omega
      have hor := HO.out.1
      rw [← hq'] at hor
      obtain ⟨q', hq1⟩ : ∃ q', q * 64 + ya = q' := ⟨_, rfl⟩
      rw [hq1] at hor
      have hn : q' = dg ya yb yc yd 1 := by rw [← hq1, hq']; show 0 * 64 + ya = ya; omega
      have hcell : wr.cell? ⟨g, a.toNat, none⟩ = some (.int .u8 (ya : Int)) := (hbw.cell (p := ⟨g, a.toNat, none⟩) hg).trans ca
      have l4 : decide (((0 : Nat) : Int) < 4) = true := by decide
      have HN := Lib.hid hn
      clear hq hq' hq1 ca cb cc cd hn
      go_wp2_with (refine wpList_index rfl 38 (.tmp 10) (.tmp 11) rfl 4 0 #[.int .u8 a.toNat, .int .u8 b.toNat, .int .u8 c.toNat, .int .u8 d.toNat] (.int .u8 a.toNat) rfl rfl Tryd.underlying38 (by omega) rfl ?_)
      go_wp2_with fail
      go_roundw
      case rel => exact ⟨1, q', rfl, rfl, by omega, HN.out, hg0, hg1, hbw⟩
      case measure => simp [intOf]
    · have hq' : q = ya := hq
      have hqb : q < 262144 := by omega
      have hor := HO.out.2.1
      rw [← hq'] at hor
      obtain ⟨q', hq1⟩ : ∃ q', q * 64 + yb = q' := ⟨_, rfl⟩
      rw [hq1] at hor
      have hn : q' = dg ya yb yc yd 2 := by rw [← hq1, hq']; rfl
      have hcell : wr.cell? ⟨g, b.toNat, none⟩ = some (.int .u8 (yb : Int)) := (hbw.cell (p := ⟨g, b.toNat, none⟩) hg).trans cb
      have l4 : decide (((1 : Nat) : Int) < 4) = true := by decide
      have HN := Lib.hid hn
      clear hq hq' hq1 ca cb cc cd hn
      go_wp2_with (refine wpList_index rfl 38 (.tmp 10) (.tmp 11) rfl 4 1 #[.int .u8 a.toNat, .int .u8 b.toNat, .int .u8 c.toNat, .int .u8 d.toNat] (.int .u8 b.toNat) rfl rfl Tryd.underlying38 (by omega) rfl ?_)
      go_wp2_with fail
      go_roundw
      case rel => exact ⟨2, q', rfl, rfl, by omega, HN.out, hg0, hg1, hbw⟩
      case measure => simp [intOf]
    · have hq' : q = ya * 64 + yb := hq
      have hqb : q < 262144 := by omega
      have hor := HO.out.2.2.1
      rw [← hq'] at hor
      obtain ⟨q', hq1⟩ : ∃ q', q * 64 + yc = q' := ⟨_, rfl⟩
      rw [hq1] at hor
      have hn : q' = dg ya yb yc yd 3 := by rw [← hq1, hq']; rfl
      have hcell : wr.cell? ⟨g, c.toNat, none⟩ = some (.int .u8 (yc : Int)) := (hbw.cell (p := ⟨g, c.toNat, none⟩) hg).trans cc
      have l4 : decide (((2 : Nat) : Int) < 4) = true := by decide
      have HN := Lib.hid hn
      clear hq hq' hq1 ca cb cc cd hn
      go_wp2_with (refine wpList_index rfl 38 (.tmp 10) (.tmp 11) rfl 4 2 #[.int .u8 a.toNat, .int .u8 b.toNat, .int .u8 c.toNat, .int .u8 d.toNat] (.int .u8 c.toNat) rfl rfl Tryd.underlying38 (by omega) rfl ?_)
      go_wp2_with fail
      go_roundw
      case rel => exact ⟨3, q', rfl, rfl, by omega, HN.out, hg0, hg1, hbw⟩
      case measure => simp [intOf]
    · have hq' : q = (ya * 64 + yb) * 64 + yc := hq
      have hqb : q < 262144 := by omega
      have hor := HO.out.2.2.2
      rw [← hq'] at hor
      obtain ⟨q', hq1⟩ : ∃ q', q * 64 + yd = q' := ⟨_, rfl⟩
      rw [hq1] at hor
      have hn : q' = dg ya yb yc yd 4 := by rw [← hq1, hq']; rfl
      have hcell : wr.cell? ⟨g, d.toNat, none⟩ = some (.int .u8 (yd : Int)) := (hbw.cell (p := ⟨g, d.toNat, none⟩) hg).trans cd
      have l4 : decide (((3 : Nat) : Int) < 4) = true := by decide
      have HN := Lib.hid hn
      clear hq hq' hq1 ca cb cc cd hn
      go_wp2_with (refine wpList_index rfl 38 (.tmp 10) (.tmp 11) rfl 4 3 #[.int .u8 a.toNat, .int .u8 b.toNat, .int .u8 c.toNat, .int .u8 d.toNat] (.int .u8 d.toNat) rfl rfl Tryd.underlying38 (by omega) rfl ?_)
      go_wp2_with fail
      go_roundw
      case rel => exact ⟨4, q', rfl, rfl, by omega, HN.out, hg0, hg1, hbw⟩
      case measure => simp [intOf]
    · have hq' : q = D := hq.trans HD.out
      subst hq'
      clear hq HO HD ca cb cc cd
      have l4 : decide (((4 : Nat) : Int) < 4) = false := by decide
      have c0 : wr.cell? ⟨w.heap.size, 2, none⟩ = some (.int .u8 c.toNat) := by simp [World.cell?, hg0]
      have c1 : wr.cell? ⟨w.heap.size, 3, none⟩ = some (.int .u8 d.toNat) := by simp [World.cell?, hg0]
      have d0 : wr.cell? ⟨w.heap.size + 1, 0, none⟩ = some (.int .u8 0) := by simp [World.cell?, hg1]
      have d1 : wr.cell? ⟨w.heap.size + 1, 1, none⟩ = some (.int .u8 0) := by simp [World.cell?, hg1]
      have d2 : wr.cell? ⟨w.heap.size + 1, 2, none⟩ = some (.int .u8 0) := by simp [World.cell?, hg1]
      have g0 : wr.frozen? ⟨w.heap.size + 1, 0, none⟩ = false := frozen_of_row wr _ 0 _ 39 hg1
      have g1 : wr.frozen? ⟨w.heap.size + 1, 1, none⟩ = false := frozen_of_row wr _ 1 _ 39 hg1
      have g2 : wr.frozen? ⟨w.heap.size + 1, 2, none⟩ = false := frozen_of_row wr _ 2 _ 39 hg1
      have hs := hbw.size
      have hlt1 : w.heap.size + 1 < wr.heap.size := (Array.getElem?_eq_some_iff.1 hg1).1
      have hlt0 : w.heap.size < wr.heap.size := by omega
      have HG := Lib.hid hg1
      clear hg0 hg1
      by_cases hd61 : d = 61
      · have e1 : ((d.toNat : Int) == 61) = true := by rw [hd61]; rfl
        by_cases hc61 : c = 61
        · have e2 : ((c.toNat : Int) == 61) = true := by rw [hc61]; rfl
          go_wp2_with fail
          refine bodyPost_ret (ret3 Tryd.results15 _ rfl rfl HG.out) rfl ⟨?_, (below_put3 _ _ _ hbw (by omega)).alloc (by simp [World.setCell]; omega) _⟩
          obtain ⟨r0, r1, r2, z1, z2, n3, n2, n1⟩ := HF.out
          have hn := n1 hd61 hc61
          have a0 : (q : Int) / 65536 = (R0.toNat : Int) := by omega
          have a1 : (0 : Int) = (R1.toNat : Int) := by have := z1 (by omega); omega
          have a2 : (0 : Int) = (R2.toNat : Int) := by have := z2 (by omega); omega
          rw [a0, ← a1, ← a2, hn]; rfl
        · have e2 : ((c.toNat : Int) == 61) = false := neC (k := 61) (by omega) hc61
          go_wp2_with fail
          refine bodyPost_ret (ret3 Tryd.results15 _ rfl rfl HG.out) rfl ⟨?_, (below_put3 _ _ _ hbw (by omega)).alloc (by simp [World.setCell]; omega) _⟩
          obtain ⟨r0, r1, r2, z1, z2, n3, n2, n1⟩ := HF.out
          have hn := n2 hd61 hc61
          have a0 : (q : Int) / 65536 = (R0.toNat : Int) := by omega
          have a1 : (q : Int) / 256 % 256 = (R1.toNat : Int) := by have := r1 (by omega); omega
          have a2 : (0 : Int) = (R2.toNat : Int) := by have := z2 (by omega); omega
          rw [a0, a1, ← a2, hn]; rfl
      · have e1 : ((d.toNat : Int) == 61) = false := neC (k := 61) (by omega) hd61
        go_wp2_with fail
        refine bodyPost_ret (ret3 Tryd.results15 _ rfl rfl HG.out) rfl ⟨?_, (below_put3 _ _ _ hbw (by omega)).alloc (by simp [World.setCell]; omega) _⟩
        obtain ⟨r0, r1, r2, z1, z2, n3, n2, n1⟩ := HF.out
        have hn := n3 hd61
        have a0 : (q : Int) / 65536 = (R0.toNat : Int) := by omega
        have a1 : (q : Int) / 256 % 256 = (R1.toNat : Int) := by have := r1 (by omega); omega
        have a2 : (q : Int) % 256 = (R2.toNat : Int) := by have := r2 (by omega); omega
        rw [a0, a1, a2, hn]; rfl
end Go.Proofs.YthhhmmogefpcgaaDoor
