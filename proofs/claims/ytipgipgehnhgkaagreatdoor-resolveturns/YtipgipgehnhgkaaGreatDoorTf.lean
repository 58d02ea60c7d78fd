/- Walks: stamp's dayAhead, dayBehind. -/
import Derived.Test.YtipgipgehnhgkaaGreatDoorTa
import Derived.Deep.RegionHeld3
set_option linter.unusedVariables false
namespace Go.Proofs.YtipgipgehnhgkaaGreatDoor.S10
open Go.RowKit

/-- The block g holds a day. -/
def DB (w : World) (g : Nat) (y m d : Int) : Prop := w.heap[g]? = some (.cells (dcs y m d) 68 (0, 0))
theorem DB.cells {w : World} {g : Nat} {y m d : Int} (h : DB w g y m d) : w.cell? ⟨g, 0, none⟩ = some (.int .i64 y) ∧ w.cell? ⟨g, 1, none⟩ = some (.int .i64 m) ∧ w.cell? ⟨g, 2, none⟩ = some (.int .i64 d) := by
  unfold DB at h
  refine ⟨?_, ?_, ?_⟩ <;> simp [World.cell?, h, dcs]
theorem DB.row {w : World} {g : Nat} {y m d : Int} (h : DB w g y m d) (y' m' d' : Int) : DB (w.setRow g (dcs y' m' d')) g y' m' d' := setRow_heap w g _ _ 68 (0, 0) h
theorem dcs_one (y m d : Int) : (dcs y m d).all (·.oneCell') = true := by simp [dcs, Value.oneCell']
theorem ret_da {fn : Func} {p : Tmp} {g : Nat} {y m d : Int} {w : World} (h : fn.results = #[.cell p 68]) (tmps : Array Value) (hp : tmps.getD p undef = .pointer (some ⟨g, 0, none⟩))
    (hB : DB w g y m d) : (results fn tmps).run Tryz.prog w = .ok (.agg (dcs y m d)) w :=
  results_cell_row h tmps w g 68 (dcs y m d) (0, 0) _ hp hB Tryz.underlying68 rfl (by rw [info_da]; rfl)
theorem Two3 (w : World) (y m d : Int) (c : Array Value) (hc : ∃ a b e, c = dcs a b e) : ∃ W, (w.alloc (.cells (dcs y m d) 68)).alloc (.cells c 68) = W ∧ DB W w.heap.size y m d ∧ (∃ a b e, DB W (w.heap.size + 1) a b e) ∧ Below w.heap.size w W := by
  obtain ⟨a, b, e, rfl⟩ := hc
  refine ⟨_, rfl, ?_, ⟨a, b, e, heap_alloc2_new w _ _⟩, ((Below.refl _ _).alloc (Nat.le_refl _) _).alloc (by simp) _⟩
  show ((w.heap.push _).push _)[w.heap.size]? = _
  rw [Array.getElem?_push, if_neg (by simp), Array.getElem?_push_size]
theorem zero_da : (#[.int .i64 0, .int .i64 0, .int .i64 0] : Array Value) = dcs 0 0 0 := rfl
theorem DB.otherRow {w : World} {g k : Nat} {y m d : Int} (h : DB w g y m d) (hk : k ≠ g) (cs : Array Value) : DB (w.setRow k cs) g y m d := by
  unfold DB at h ⊢
  rw [← h]
  simp only [World.setRow]
  rw [Array.getElem?_modify, if_neg hk]
set_option maxRecDepth 100000 in
set_option maxHeartbeats 4000000 in
theorem ahead_day (y m d : Nat) (w : World) (hd : 1 < d) (hd2 : d ≤ 31) :
    Calls Tryz.prog 105 #[.agg (dcs y m d)] w fun e w' => e = .returned (.agg (dcs y m ((d : Int) - 1))) ∧ Below w.heap.size w w' := by
  obtain ⟨W1, hW1, hg, ⟨ya, ma, da, hr⟩, hb⟩ := Two3 w y m d _ ⟨0, 0, 0, zero_da⟩
  obtain ⟨k0, k1, k2⟩ := hg.cells
  have hdd : decide (1 < d) = true := decide_eq_true hd
  have hdd2 : decide ((1 : Int) < (d : Int)) = true := decide_eq_true (by omega)
  have HB := Lib.hid hb
  have HG : Hid (w.heap.size ≤ w.heap.size + 1) := Nat.le_succ _
  obtain ⟨g, hgs⟩ : ∃ g, w.heap.size = g := ⟨_, rfl⟩
  rw [hgs] at k0 k1 k2 hg hr
  have HG2 : Hid (w.heap.size ≤ g + 1) := by show _ ≤ _; omega
  have HR := Lib.hid hr
  clear hg hb hr HG
  go_enter Tryz.func105, Tryz.ntmps105
  go_wp2_with (first | (refine wpList_store_row rfl 68 (.tmp 2) (.tmp 14) rfl (g + 1) (dcs y m ((d : Int) - 1)) rfl rfl 68 _ HR.out info_da rfl (dcs_one _ _ _) ?_) | fail)
  exact bodyPost_ret (ret_da Tryz.results105 _ rfl (DB.row HR.out _ _ _)) rfl ⟨rfl, below_setRow HB.out HG2.out _⟩
set_option maxRecDepth 100000 in
set_option maxHeartbeats 4000000 in
theorem ahead_year (y m d : Nat) (w : World) (hd : ¬ 1 < d) (hm : ¬ 1 < m) (hy : y ≤ 9999) :
    Calls Tryz.prog 105 #[.agg (dcs y m d)] w fun e w' => e = .returned (.agg (dcs ((y : Int) - 1) 12 31)) ∧ Below w.heap.size w w' := by
  obtain ⟨W1, hW1, hg, ⟨ya, ma, da, hr⟩, hb⟩ := Two3 w y m d _ ⟨0, 0, 0, zero_da⟩
  obtain ⟨k0, k1, k2⟩ := hg.cells
  have hdd : decide (1 < d) = false := decide_eq_false hd
  have hdd2 : decide ((1 : Int) < (d : Int)) = false := decide_eq_false (by omega)
  have hmm : decide (1 < m) = false := decide_eq_false hm
  have hmm2 : decide ((1 : Int) < (m : Int)) = false := decide_eq_false (by omega)
  have HB := Lib.hid hb
  have HG : Hid (w.heap.size ≤ w.heap.size + 1) := Nat.le_succ _
  obtain ⟨g, hgs⟩ : ∃ g, w.heap.size = g := ⟨_, rfl⟩
  rw [hgs] at k0 k1 k2 hg hr
  have HG2 : Hid (w.heap.size ≤ g + 1) := by show _ ≤ _; omega
  have HR := Lib.hid hr
  clear hg hb hr HG
  go_enter Tryz.func105, Tryz.ntmps105
  go_wp2_with (first | (refine wpList_store_row rfl 68 (.tmp 2) (.tmp 34) rfl (g + 1) (dcs ((y : Int) - 1) 12 31) rfl rfl 68 _ HR.out info_da rfl (dcs_one _ _ _) ?_) | fail)
  exact bodyPost_ret (ret_da Tryz.results105 _ rfl (DB.row HR.out _ _ _)) rfl ⟨rfl, below_setRow HB.out HG2.out _⟩
set_option maxRecDepth 100000 in
set_option maxHeartbeats 4000000 in
theorem behind_day (y m d : Nat) (w : World) (hd : d < M.days y m) (hy : y ≤ 9999) :
    Calls Tryz.prog 106 #[.agg (dcs y m d)] w fun e w' => e = .returned (.agg (dcs y m ((d : Int) + 1))) ∧ Below w.heap.size w w' := by
  obtain ⟨W1, hW1, hg, ⟨ya, ma, da, hr⟩, hb⟩ := Two3 w y m d _ ⟨0, 0, 0, zero_da⟩
  obtain ⟨k0, k1, k2⟩ := hg.cells
  have c1 := fun W => days_nat y m W (by omega)
  have hl := M.days_le y m
  generalize M.days y m = D at *
  have hdd : decide (d < D) = true := decide_eq_true hd
  have hdd2 : decide ((d : Int) < (D : Int)) = true := decide_eq_true (by omega)
  have HB := Lib.hid hb
  have HG : Hid (w.heap.size ≤ w.heap.size + 1) := Nat.le_succ _
  obtain ⟨g, hgs⟩ : ∃ g, w.heap.size = g := ⟨_, rfl⟩
  rw [hgs] at k0 k1 k2 hg hr
  have HG2 : Hid (w.heap.size ≤ g + 1) := by show _ ≤ _; omega
  have HR := Lib.hid hr
  clear hg hb hr HG
  go_enter Tryz.func106, Tryz.ntmps106
  go_wp2_with fail
  go_quiet ((go_at_call 104; exact (c1 _).mono fun _ _ h => ⟨h.1, _, h.2.symm⟩))
  go_wp2_with (first | (refine wpList_store_row rfl 68 (.tmp 2) (.tmp 19) rfl (g + 1) (dcs y m ((d : Int) + 1)) rfl rfl 68 _ HR.out info_da rfl (dcs_one _ _ _) ?_) | fail)
  exact bodyPost_ret (ret_da Tryz.results106 _ rfl (DB.row (w := W1.drewN nq) HR.out _ _ _)) rfl ⟨rfl, below_setRow (below_dN HB.out _) HG2.out _⟩
set_option maxRecDepth 100000 in
set_option maxHeartbeats 4000000 in
theorem behind_month (y m d : Nat) (w : World) (hd : ¬ d < M.days y m) (hy : y ≤ 9999) (hm : m < 12) :
    Calls Tryz.prog 106 #[.agg (dcs y m d)] w fun e w' => e = .returned (.agg (dcs y ((m : Int) + 1) 1)) ∧ Below w.heap.size w w' := by
  obtain ⟨W1, hW1, hg, ⟨ya, ma, da, hr⟩, hb⟩ := Two3 w y m d _ ⟨0, 0, 0, zero_da⟩
  obtain ⟨k0, k1, k2⟩ := hg.cells
  have c1 := fun W => days_nat y m W (by omega)
  have hl := M.days_le y m
  generalize M.days y m = D at *
  have hdd : decide (d < D) = false := decide_eq_false hd
  have hdd2 : decide ((d : Int) < (D : Int)) = false := decide_eq_false (by omega)
  have hmm : decide (m < 12) = true := decide_eq_true hm
  have hmm2 : decide ((m : Int) < 12) = true := decide_eq_true (by omega)
  have HB := Lib.hid hb
  have HG : Hid (w.heap.size ≤ w.heap.size + 1) := Nat.le_succ _
  obtain ⟨g, hgs⟩ : ∃ g, w.heap.size = g := ⟨_, rfl⟩
  rw [hgs] at k0 k1 k2 hg hr
  have HG2 : Hid (w.heap.size ≤ g + 1) := by show _ ≤ _; omega
  have HR := Lib.hid hr
  clear hg hb hr HG
  go_enter Tryz.func106, Tryz.ntmps106
  go_wp2_with fail
  go_quiet ((go_at_call 104; exact (c1 _).mono fun _ _ h => ⟨h.1, _, h.2.symm⟩))
  go_wp2_with (first | (refine wpList_store_row rfl 68 (.tmp 2) (.tmp 29) rfl (g + 1) (dcs y ((m : Int) + 1) 1) rfl rfl 68 _ HR.out info_da rfl (dcs_one _ _ _) ?_) | fail)
  exact bodyPost_ret (ret_da Tryz.results106 _ rfl (DB.row (w := W1.drewN nq) HR.out _ _ _)) rfl ⟨rfl, below_setRow (below_dN HB.out _) HG2.out _⟩
set_option maxRecDepth 100000 in
set_option maxHeartbeats 4000000 in
theorem behind_year (y m d : Nat) (w : World) (hd : ¬ d < M.days y m) (hy : y ≤ 9999) (hm : ¬ m < 12) (hm2 : m ≤ 12) :
    Calls Tryz.prog 106 #[.agg (dcs y m d)] w fun e w' => e = .returned (.agg (dcs ((y : Int) + 1) 1 1)) ∧ Below w.heap.size w w' := by
  obtain ⟨W1, hW1, hg, ⟨ya, ma, da, hr⟩, hb⟩ := Two3 w y m d _ ⟨0, 0, 0, zero_da⟩
  obtain ⟨k0, k1, k2⟩ := hg.cells
  have c1 := fun W => days_nat y m W (by omega)
  have hl := M.days_le y m
  generalize M.days y m = D at *
  have hdd : decide (d < D) = false := decide_eq_false hd
  have hdd2 : decide ((d : Int) < (D : Int)) = false := decide_eq_false (by omega)
  have hmm : decide (m < 12) = false := decide_eq_false hm
  have hmm2 : decide ((m : Int) < 12) = false := decide_eq_false (by omega)
  have HB := Lib.hid hb
  have HG : Hid (w.heap.size ≤ w.heap.size + 1) := Nat.le_succ _
  obtain ⟨g, hgs⟩ : ∃ g, w.heap.size = g := ⟨_, rfl⟩
  rw [hgs] at k0 k1 k2 hg hr
  have HG2 : Hid (w.heap.size ≤ g + 1) := by show _ ≤ _; omega
  have HR := Lib.hid hr
  clear hg hb hr HG
  go_enter Tryz.func106, Tryz.ntmps106
  go_wp2_with fail
  go_quiet ((go_at_call 104; exact (c1 _).mono fun _ _ h => ⟨h.1, _, h.2.symm⟩))
  go_wp2_with (first | (refine wpList_store_row rfl 68 (.tmp 2) (.tmp 33) rfl (g + 1) (dcs ((y : Int) + 1) 1 1) rfl rfl 68 _ HR.out info_da rfl (dcs_one _ _ _) ?_) | fail)
  exact bodyPost_ret (ret_da Tryz.results106 _ rfl (DB.row (w := W1.drewN nq) HR.out _ _ _)) rfl ⟨rfl, below_setRow (below_dN HB.out _) HG2.out _⟩
set_option maxRecDepth 100000 in
set_option maxHeartbeats 4000000 in
theorem ahead_month (y m d : Nat) (w : World) (hd : ¬ 1 < d) (hm : 1 < m) (hm2 : m ≤ 12) (hy : y ≤ 9999) :
    Calls Tryz.prog 105 #[.agg (dcs y m d)] w fun e w' => e = .returned (.agg (dcs y ((m : Int) - 1) (M.days y (m - 1) : Nat))) ∧ Below w.heap.size w w' := by
  obtain ⟨W1, hW1, hg, ⟨ya, ma, da, hr⟩, hb⟩ := Two3 w y m d _ ⟨0, 0, 0, zero_da⟩
  obtain ⟨k0, k1, k2⟩ := hg.cells
  have hdd : decide (1 < d) = false := decide_eq_false hd
  have hdd2 : decide ((1 : Int) < (d : Int)) = false := decide_eq_false (by omega)
  have hmm : decide (1 < m) = true := decide_eq_true hm
  have hmm2 : decide ((1 : Int) < (m : Int)) = true := decide_eq_true (by omega)
  have c1 := fun W => days_nat y (m - 1) W (by omega)
  rw [show ((m - 1 : Nat) : Int) = (m : Int) - 1 by omega] at c1
  generalize M.days y (m - 1) = D at *
  have HB := Lib.hid hb
  have HG : Hid (w.heap.size ≤ w.heap.size + 1) := Nat.le_succ _
  obtain ⟨g, hgs⟩ : ∃ g, w.heap.size = g := ⟨_, rfl⟩
  rw [hgs] at k0 k1 k2 hg hr
  have HG2 : Hid (w.heap.size ≤ g + 1) := by show _ ≤ _; omega
  have HR := Lib.hid hr
  have HG3 := Lib.hid hg
  clear hg hb hr HG
  go_enter Tryz.func105, Tryz.ntmps105
  go_wp2_with fail
  have hw : IntKind.i64.wrap ((m : Int) - 1) = (m : Int) - 1 := IntWalk.i64_in _ (by omega)
  refine wp_region_held_drew (S := fun wx => DB wx g y m d) (by kernel_rfl) (show DB W1.drew g y m d from HG3.out) (fun hHeld => ?_)
  refine takeH (some 19) rfl (i := 0) (v := .pointer (some ⟨g, 0, none⟩)) rfl (by kernel_rfl) (by kernel_rfl) (by kernel_rfl) (fun _ _ _ h => h) (Or.inl ⟨by kernel_rfl, ?_⟩) (by assumption) ?_
  · intro w hSw
    go_simp
  simp only [Act.put, List.setIfInBounds_toArray, List.set_cons_zero, List.set_cons_succ]
  refine takeH (some 20) rfl (i := 1) (v := .int .i64 y) rfl (by kernel_rfl) (by kernel_rfl) (by kernel_rfl) (fun _ _ _ h => h) (Or.inl ⟨by kernel_rfl, ?_⟩) (by assumption) ?_
  · intro w hSw
    obtain ⟨a0, a1, _⟩ := hSw.cells
    go_simp
  simp only [Act.put, List.setIfInBounds_toArray, List.set_cons_zero, List.set_cons_succ]
  refine takeH (some 21) rfl (i := 2) (v := .pointer (some ⟨g, 1, none⟩)) rfl (by kernel_rfl) (by kernel_rfl) (by kernel_rfl) (fun _ _ _ h => h) (Or.inl ⟨by kernel_rfl, ?_⟩) (by assumption) ?_
  · intro w hSw
    go_simp
  simp only [Act.put, List.setIfInBounds_toArray, List.set_cons_zero, List.set_cons_succ]
  refine takeH (some 22) rfl (i := 3) (v := .int .i64 m) rfl (by kernel_rfl) (by kernel_rfl) (by kernel_rfl) (fun _ _ _ h => h) (Or.inl ⟨by kernel_rfl, ?_⟩) (by assumption) ?_
  · intro w hSw
    obtain ⟨a0, a1, _⟩ := hSw.cells
    go_simp
  simp only [Act.put, List.setIfInBounds_toArray, List.set_cons_zero, List.set_cons_succ]
  refine takeH (some 23) rfl (i := 4) (v := .int .i64 ((m : Int) - 1)) rfl (by kernel_rfl) (by kernel_rfl) (by kernel_rfl) (fun _ _ _ h => h) (Or.inl ⟨by kernel_rfl, ?_⟩) (by assumption) ?_
  · intro w hSw
    go_simp
  simp only [Act.put, List.setIfInBounds_toArray, List.set_cons_zero, List.set_cons_succ]
  refine takeH (some 24) rfl (i := 5) (v := .pointer (some ⟨g, 0, none⟩)) rfl (by kernel_rfl) (by kernel_rfl) (by kernel_rfl) (fun _ _ _ h => h) (Or.inl ⟨by kernel_rfl, ?_⟩) (by assumption) ?_
  · intro w hSw
    go_simp
  simp only [Act.put, List.setIfInBounds_toArray, List.set_cons_zero, List.set_cons_succ]
  refine takeH (some 25) rfl (i := 6) (v := .int .i64 y) rfl (by kernel_rfl) (by kernel_rfl) (by kernel_rfl) (fun _ _ _ h => h) (Or.inl ⟨by kernel_rfl, ?_⟩) (by assumption) ?_
  · intro w hSw
    obtain ⟨a0, a1, _⟩ := hSw.cells
    go_simp
  simp only [Act.put, List.setIfInBounds_toArray, List.set_cons_zero, List.set_cons_succ]
  refine takeH (some 26) rfl (i := 7) (v := .pointer (some ⟨g, 1, none⟩)) rfl (by kernel_rfl) (by kernel_rfl) (by kernel_rfl) (fun _ _ _ h => h) (Or.inl ⟨by kernel_rfl, ?_⟩) (by assumption) ?_
  · intro w hSw
    go_simp
  simp only [Act.put, List.setIfInBounds_toArray, List.set_cons_zero, List.set_cons_succ]
  refine takeH (some 27) rfl (i := 8) (v := .int .i64 m) rfl (by kernel_rfl) (by kernel_rfl) (by kernel_rfl) (fun _ _ _ h => h) (Or.inl ⟨by kernel_rfl, ?_⟩) (by assumption) ?_
  · intro w hSw
    obtain ⟨a0, a1, _⟩ := hSw.cells
    go_simp
  simp only [Act.put, List.setIfInBounds_toArray, List.set_cons_zero, List.set_cons_succ]
  refine takeH (some 28) rfl (i := 9) (v := .int .i64 ((m : Int) - 1)) rfl (by kernel_rfl) (by kernel_rfl) (by kernel_rfl) (fun _ _ _ h => h) (Or.inl ⟨by kernel_rfl, ?_⟩) (by assumption) ?_
  · intro w hSw
    go_simp
  simp only [Act.put, List.setIfInBounds_toArray, List.set_cons_zero, List.set_cons_succ]
  refine wpAnyH_ready (rs := [10]) (by kernel_rfl) (by simp) ?_
  refine AllReadyH.cons rfl (fun K hK => ?_) AllReadyH.nil
  go_simp
  refine (c1 _).mono ?_
  rintro r w5 ⟨rfl, rfl⟩
  go_wp2_with fail
  refine hK.out _ _ ?_ (fun hHeld => ?_)
  · assumption
  clear hK K
  refine takeH (some 30) rfl (i := 11) (v := .agg (dcs y ((m : Int) - 1) D)) rfl (by kernel_rfl) (by kernel_rfl) (by kernel_rfl) (fun _ _ _ h => h) (Or.inl ⟨by kernel_rfl, ?_⟩) (by assumption) ?_
  · intro w hSw
    go_simp
    rfl
  simp only [Act.put, List.setIfInBounds_toArray, List.set_cons_zero, List.set_cons_succ]
  refine wpAnyH_ready (rs := [12]) (by kernel_rfl) (by simp) ?_
  refine AllReadyH.cons rfl (fun K hK => ?_) AllReadyH.nil
  rw [if_pos (by kernel_rfl)]
  refine wp_store_row 68 (.tmp 2) (.tmp 30) rfl (g + 1) (dcs y ((m : Int) - 1) D) rfl rfl 68 _ HR.out info_da rfl (dcs_one _ _ _) ?_
  refine hK.out _ _ (hHeld.otherRow (by omega) _) (fun hHeld => ?_)
  clear hK K
  refine wpAnyH_done (by kernel_rfl) ?_ _
  go_wp2
  exact bodyPost_ret (ret_da Tryz.results105 _ rfl (DB.row (w := W1.drew) HR.out _ _ _)) rfl ⟨rfl, below_setRow (below_dN HB.out 1) HG2.out _⟩
end Go.Proofs.YtipgipgehnhgkaaGreatDoor.S10
