/- Walks: bin's valuesOfSigns. -/
import Derived.Test.YthhhmmogefpcgaaDoorWc
set_option linter.unusedVariables false
namespace Go.Proofs.YthhhmmogefpcgaaDoor
open Go.RowKit

/-- A whole array out of a block. -/
theorem wpList_load {ops : Array Oper} {rest : List Oper} {o : Oper} {a : Act} {w : World} {Q : Exit → Act → World → Prop} (hgd : o.guard = none) (t : TypeId) (p : Operand) (ho : o.op = .load t p) (g : Nat) (t' : TypeId) (cs : Array Value) (fr : Nat × Nat) (n : Nat) (el : TypeId)
    (hp : a.eval p = .pointer (some ⟨g, 0, none⟩)) (hg : w.heap[g]? = some (.cells cs t' fr)) (hu : Tryd.prog.underlying t = some (.array n el)) (hi : (Tryd.prog.info? t).map (·.size) = some cs.size)
    (h : wpList Tryd.prog ops Q rest (a.put o.dst (.agg cs)) w) : wpList Tryd.prog ops Q (o :: rest) a w := by
  refine wpList_plain hgd fun K hK => ?_
  have hrun := run_loadVar_row (P := Tryd.prog) w g t' t cs fr _ hg hu rfl hi
  unfold Oper.wp
  simp [execOp, ho, hp, Instr.loadAt, Instr.sureAddr, hrun, Result.andThen]
  exact hK _ _ h
/-- A whole array into a block. -/
theorem wpList_store {ops : Array Oper} {rest : List Oper} {o : Oper} {a : Act} {w : World} {Q : Exit → Act → World → Prop} (hgd : o.guard = none) (t : TypeId) (p x : Operand) (ho : o.op = .store t p x) (g : Nat) (t' : TypeId) (old cs : Array Value)
    (hp : a.eval p = .pointer (some ⟨g, 0, none⟩)) (hx : a.eval x = .agg cs) (hg : w.heap[g]? = some (.cells old t' (0, 0))) (hi : (Tryd.prog.info? t).map (·.size) = some cs.size) (hs : old.size = cs.size) (h1 : cs.all (·.oneCell') = true)
    (h : wpList Tryd.prog ops Q rest (a.put o.dst undef) (w.setRow g cs)) : wpList Tryd.prog ops Q (o :: rest) a w := by
  refine wpList_plain hgd fun K hK => ?_
  have hrun := run_storeVar_row (P := Tryd.prog) w g t' t old cs hg hi hs h1
  unfold Oper.wp
  simp [execOp, ho, hp, hx, Instr.storeAt, Instr.sureAddr, hrun, Result.andThen]
  exact hK _ _ h
theorem run_storeCells_row (w : World) (g : Nat) (t : TypeId) (old cs : Array Value) (hg : w.heap[g]? = some (.cells old t (0, 0))) (hs : old.size = cs.size) (h1 : cs.all (·.oneCell') = true) :
    (storeCells ⟨g, 0, none⟩ cs.toList).run Tryd.prog w = .ok () (w.setRow g cs) := by
  have := run_storeCells_from (P := Tryd.prog) g t cs.toList 0 old w hg (by simp; omega) (fun v hv => (Array.all_eq_true_iff_forall_mem.1 h1) v (by simpa using hv))
  rw [this]
  simp
/-- What each byte says by the first k signs. -/
def vk (k c : Nat) : Nat := (List.range k).foldl (fun v j => if (M.sg j).toNat = c then j else v) 0
theorem vk_step (k c : Nat) : vk (k + 1) c = if c = (M.sg k).toNat then k else vk k c := by
  unfold vk; rw [List.range_succ, List.foldl_append]
  simp only [List.foldl_cons, List.foldl_nil]
  by_cases h : c = (M.sg k).toNat
  · rw [if_pos h, if_pos h.symm]
  · rw [if_neg h, if_neg (fun e => h e.symm)]
theorem row_step (k : Nat) (hk : k < 64) : (rowN 256 (vk k)).setIfInBounds (M.sg k).toNat (.int .u8 (k : Int)) = rowN 256 (vk (k + 1)) := by
  rw [rowN_set _ _ _ _ (by have := (M.sg k).toNat_lt; omega)]
  exact rowN_congr fun j _ => (vk_step k j).symm
theorem vk_vl (c : UInt8) : vk 64 c.toNat = M.vl c := by
  have h : ∀ n, n < 256 → vk 64 n = M.vl (UInt8.ofNat n) := by decide +kernel
  have := h c.toNat c.toNat_lt
  rwa [UInt8.ofNat_toNat] at this
theorem zero256 (w : World) : (zeroValue 36).run Tryd.prog w = .ok (.agg (rowN 256 fun _ => 0)) w := by
  have h : (Tryd.prog.info? 36).bind (·.zero) = some (.agg (rowN 256 fun _ => 0)) := by kernel_rfl
  cases hq : Tryd.prog.info? 36 with
  | none => rw [hq] at h; cases h
  | some i =>
    rw [hq] at h
    have h' : i.zero = some (.agg (rowN 256 fun _ => 0)) := h
    simp [zeroValue, typeInfo, hq, h']
theorem info_256 : (Tryd.prog.info? 36).map (·.size) = some 256 := by kernel_rfl
theorem info_64 : (Tryd.prog.info? 54).map (·.size) = some 64 := by kernel_rfl
/-- The table's row. -/
theorem Tab.row {w : World} (h : Tab w) : ∃ t fr, w.heap[0]? = some (.cells sgRow t fr) := by
  unfold Tab Lib.TabIs World.var? at h
  rw [tabG, sgI_row] at h
  simp only [Option.bind_some] at h
  split at h
  · next cs t fr hc => cases h; exact ⟨t, fr, hc⟩
  · cases h
set_option maxRecDepth 100000 in
set_option maxHeartbeats 2000000 in
theorem values_any (w : World) (ht : Tab w) :
    Calls Tryd.prog 14 #[] w fun e w' => e = .returned (.agg (rowN 256 (vk 64))) ∧ Below w.heap.size w w' := by
  obtain ⟨R, hR⟩ : ∃ R, rowN 256 (vk 64) = R := ⟨_, rfl⟩
  rw [hR]
  have HR := Lib.hid hR
  clear hR
  have hv := fun w => zero256 w
  obtain ⟨Z, hZ⟩ : ∃ Z, rowN 256 (fun _ => 0) = Z := ⟨_, rfl⟩
  rw [hZ] at hv
  have HZ := Lib.hid hZ
  clear hZ
  obtain ⟨t0, fr0, hrow⟩ := ht.row
  have hpos := ht.pos
  have hr1 : ((w.alloc (.cells Z 36)).alloc (.cells Z 36)).heap[0]? = some (.cells sgRow t0 fr0) := by
    rw [Below.heap_alloc _ _ _ (by simp), Below.heap_alloc _ _ _ hpos]; exact hrow
  have hC0 : ∀ k, k < 64 → sgRow[k]? = some (.int .u8 ((M.sg k).toNat : Int)) := fun k hk => rowN_get 64 (fun k => (M.sg k).toNat) k hk
  have HC := Lib.hid hC0
  clear hC0
  have hsz : sgRow.size = 64 := rowN_size _ _
  generalize sgRow = C at *
  have hh := heap2 w (.cells Z 36) (.cells Z 36)
  have HH := Lib.hid hh
  have HB := Lib.hid (((Below.refl w.heap.size w).alloc (Nat.le_refl _) (.cells Z 36)).alloc (by simp) (.cells Z 36))
  clear hh ht hrow
  go_enter Tryd.func14, Tryd.ntmps14
  go_wp2_with (refine wpList_load rfl 54 (.global 0) rfl 0 t0 C fr0 _ _ rfl hr1 Tryd.underlying54 (by rw [hsz]; exact info_64) ?_)
  go_wp2_with fail
  go_loopw [5] (fun iv wr => ∃ (k : Nat), iv = .int .i64 k ∧ k ≤ 64 ∧
    wr.heap[w.heap.size]? = some (.cells Z 36 (0, 0)) ∧ wr.heap[w.heap.size + 1]? = some (.cells (rowN 256 (vk k)) 36 (0, 0)) ∧ Below w.heap.size w wr) (fun iv _ => 64 - (intOf iv).toNat)
  case atStart => exact ⟨0, rfl, by omega, HH.out.1, by rw [show rowN 256 (vk 0) = Z from HZ.out]; exact HH.out.2, HB.out⟩
  case round =>
    obtain ⟨k, rfl, hk, hg0, hg1, hbw⟩ := hrel
    by_cases hlt : k < 64
    · have l1 : decide ((k : Int) < 64) = true := decide_eq_true (by omega)
      have hC := HC.out k hlt
      have hst := row_step k hlt
      have hx := (M.sg k).toNat_lt
      generalize M.sg k = x at *
      have hc : wr.cell? ⟨w.heap.size + 1, x.toNat, none⟩ = some (.int .u8 (vk k x.toNat : Int)) := by simp [World.cell?, hg1, rowN_get _ _ _ hx]
      have hf : wr.frozen? ⟨w.heap.size + 1, x.toNat, none⟩ = false := frozen_of_row wr _ _ _ 36 hg1
      have hb' := hbw.setCell (p := ⟨w.heap.size + 1, x.toNat, none⟩) (by show _ ≤ w.heap.size + 1; omega) (.int .u8 (k : Int))
      have hg1' := heap_setCell_same wr (w.heap.size + 1) x.toNat _ 36 (.int .u8 (k : Int)) hg1
      rw [hst] at hg1'
      have hg0' := (heap_setCell_other wr ⟨w.heap.size + 1, x.toNat, none⟩ w.heap.size (.int .u8 (k : Int)) (by show w.heap.size ≠ w.heap.size + 1; omega)).trans hg0
      have HG := Lib.hid (And.intro hg0' (And.intro hg1' hb'))
      clear hg0 hg1 hg0' hg1' hb' hst
      have ki := run_index_u8 54 64 C k (.int .u8 (x.toNat : Int)) wr Tryd.underlying54 hlt hC
      go_wp2_with fail
      go_roundw
      case rel => exact ⟨k + 1, by go_num, by omega, HG.out.1, HG.out.2.1, HG.out.2.2⟩
      case measure => simp [intOf]; omega
    · obtain rfl : k = 64 := by omega
      have l1 : decide (((64 : Nat) : Int) < 64) = false := by decide
      have hs1 : (rowN 256 (vk 64)).size = 256 := rowN_size _ _
      have ho1 : (rowN 256 (vk 64)).all (·.oneCell') = true := rowN_one _ _
      have hs0 : Z.size = 256 := by rw [← HZ.out]; exact rowN_size _ _
      rw [HR.out] at hg1 hs1 ho1
      have hsc := run_storeCells_row wr w.heap.size 36 Z R hg0 (by rw [hs0, hs1]) ho1
      have HG := Lib.hid (And.intro hg0 (And.intro hg1 hbw))
      clear hg0 hbw
      go_wp2_with (refine wpList_load rfl 36 (.tmp 1) rfl (w.heap.size + 1) 36 R (0, 0) _ _ rfl hg1 Tryd.underlying36 (by rw [hs1]; exact info_256) ?_)
      go_wp2_with fail
      refine bodyPost_ret (results_cell_row Tryd.results14 _ _ w.heap.size 36 R (0, 0) _ rfl (setRow_heap wr w.heap.size Z R 36 (0, 0) HG.out.1) Tryd.underlying36 rfl (by rw [hs1]; exact info_256)) rfl ⟨rfl, below_setRow HG.out.2.2 (Nat.le_refl _) _⟩
end Go.Proofs.YthhhmmogefpcgaaDoor
