/- Walks: stamp's afterClock: the machine of the zone. -/
import Derived.Test.YtipgipgehnhgkaaGreatDoorTa
import Derived.BigRegion
import Derived.Deep.RegionWith
set_option linter.unusedVariables false
namespace Go.Proofs.YtipgipgehnhgkaaGreatDoor.S10
open Go.RowKit

/-- What a reader of a text answers: what it read, and whether there is a moment. -/
def Got (w0 : World) (T : Option M.Mo) (e : Ending) (w' : World) : Prop :=
  Below w0.heap.size w0 w' ∧ ∃ (X : M.Mo) (b : Bool), e = .returned (.tuple #[.agg (mcs X), .bool b]) ∧ T = (if b = true then some X else none)
theorem Got.yes {w0 w' : World} {T : Option M.Mo} (X : M.Mo) (hb : Below w0.heap.size w0 w') (h : some X = T) : Got w0 T (.returned (.tuple #[.agg (vcs X.y X), .bool true])) w' := ⟨hb, X, true, rfl, h.symm⟩
theorem Got.no {w0 w' : World} {T : Option M.Mo} (X : M.Mo) (hb : Below w0.heap.size w0 w') (h : none = T) : Got w0 T (.returned (.tuple #[.agg (vcs X.y X), .bool false])) w' := ⟨hb, X, false, rfl, h.symm⟩
theorem zero_mo : (#[.int .i64 0, .int .i64 0, .int .i64 0, .bool false, .int .i64 0, .int .i64 0, .int .i64 0, .string ⟨#[]⟩, .bool false, .int .i64 0, .int .i64 0] : Array Value) = vcs 0 M.M0 := rfl
/-- The two blocks of a reader: what was read, and the answer. -/
def Two (w0 : World) (g : Nat) (X : M.Mo) (w : World) : Prop := MB w g X ∧ AB w (g + 1) ∧ Below w0.heap.size w0 w ∧ w0.heap.size ≤ g
theorem Two.start (w : World) (X : M.Mo) (c : Array Value) (h : ∃ y Y, c = vcs y Y) : Two w w.heap.size X ((w.alloc (.cells (mcs X) 70)).alloc (.cells c 70)) := by
  obtain ⟨y, Y, rfl⟩ := h
  refine ⟨?_, ⟨y, Y, ?_⟩, ((Below.refl _ _).alloc (Nat.le_refl _) _).alloc (by simp) _, Nat.le_refl _⟩
  · show ((w.heap.push _).push _)[w.heap.size]? = _
    rw [Array.getElem?_push, if_neg (by simp), Array.getElem?_push_size]; rfl
  · show ((w.heap.push _).push _)[w.heap.size + 1]? = _
    have : (w.heap.push (.cells (mcs X) 70)).size = w.heap.size + 1 := by simp
    rw [← this, Array.getElem?_push_size]
theorem Two.next {w0 w w' : World} {g : Nat} {X : M.Mo} (h : Two w0 g X w) (hb : Below w.heap.size w w') : Two w0 g X w' := ⟨h.1.next hb, h.2.1.next hb, h.2.2.1.trans (hb.mono h.2.2.1.size), h.2.2.2⟩
theorem Two.put {w0 w : World} {g : Nat} {X Y : M.Mo} (h : Two w0 g X w) (j : Nat) (v : Value) (e : (mcs X).setIfInBounds j v = mcs Y) : Two w0 g Y (w.setCell ⟨g, j, none⟩ v) := by
  refine ⟨h.1.put j v e, ?_, h.2.2.1.setCell (p := ⟨g, j, none⟩) h.2.2.2 _, h.2.2.2⟩
  obtain ⟨y, Z, hz⟩ := h.2.1
  exact ⟨y, Z, hz.other (by omega) j v⟩
theorem Two.ret {w0 w : World} {g : Nat} {X : M.Mo} (h : Two w0 g X w) (Y : M.Mo) : VB (w.setRow (g + 1) (mcs Y)) (g + 1) Y.y Y ∧ Below w0.heap.size w0 (w.setRow (g + 1) (mcs Y)) := by
  obtain ⟨y, Z, hz⟩ := h.2.1
  exact ⟨hz.row Y.y Y, below_setRow h.2.2.1 (by have := h.2.2.2; omega) _⟩
theorem Two.drew {w0 w : World} {g : Nat} {X : M.Mo} (h : Two w0 g X w) : Two w0 g X w.drew := ⟨h.1, h.2.1, below_dN h.2.2.1 1, h.2.2.2⟩
theorem Two.load {w0 w : World} {g : Nat} {X : M.Mo} (h : Two w0 g X w) : (loadVar 70 ⟨g, 0, none⟩).run Tryz.prog w = .ok (.agg (mcs X)) w :=
  run_loadVar_row (P := Tryz.prog) w g 70 70 (mcs X) (0, 0) _ h.1 Tryz.underlying70 rfl (by rw [info_mo]; rfl)
theorem Two.exec {w0 w : World} {g : Nat} {X : M.Mo} (h : Two w0 g X w) {o : Oper} {a : Act} {x : Operand} (ho : o.op = .load 70 x) (hx : a.eval x = .pointer (some ⟨g, 0, none⟩)) : (execOp a.eval o).run Tryz.prog w = .ok (.value (.agg (mcs X))) w := by
  unfold execOp
  simp only [ho, hx, Instr.loadAt, Instr.sureAddr, Sem.run_bind, Sem.run_pure, Result.andThen_ok, h.load]
theorem Two.over {w0 w : World} {g : Nat} {X : M.Mo} (h : Two w0 g X w) (Y : M.Mo) : Two w0 g X (w.setRow (g + 1) (mcs Y)) := by
  have hr := h.ret Y
  exact ⟨h.1.otherRow (by omega) _, ⟨_, _, hr.1⟩, hr.2, h.2.2.2⟩
theorem Two.froz {w0 w : World} {g : Nat} {X : M.Mo} (h : Two w0 g X w) (j : Nat) : w.frozen? ⟨g, j, none⟩ = false := h.1.frozen j
/-- What holds at afterClock's labels. -/
def JC (s : ByteArray) (T : Option M.Mo) (w0 : World) (g : Nat) (l : Nat) (a : Act) (w' : World) : Prop :=
  ∃ (X : M.Mo) (i : Nat) (p0 p1 p2 p3 p4 p5 p6 p7 : V10), a = { tmps := #[p0.a, .string s, .int .i64 (i : Nat), .pointer (some ⟨g, 0, none⟩), p0.b, p0.c, .pointer (some ⟨g + 1, 0, none⟩), p0.d, p0.e, p0.f, p0.g, p0.h, p0.i, p0.j, p1.a, p1.b, p1.c, p1.d, p1.e, p1.f, p1.g, p1.h, p1.i, p1.j, p2.a, p2.b, p2.c, p2.d, p2.e, p2.f, p2.g, p2.h, p2.i, p2.j, p3.a, p3.b, p3.c, p3.d, p3.e, p3.f, p3.g, p3.h, p3.i, p3.j, p4.a, p4.b, p4.c, p4.d, p4.e, p4.f, p4.g, p4.h, p4.i, p4.j, p5.a, p5.b, p5.c, p5.d, p5.e, p5.f, p5.g, p5.h, p5.i, p5.j, p6.a, p6.b, p6.c, p6.d, p6.e, p6.f, p6.g, p6.h, p6.i, p6.j, p7.a, p7.b, p7.c, p7.d, p7.e, p7.f], defers := [] } ∧ Two w0 g X w' ∧ i ≤ s.size ∧
    ((l = 0 ∧ M.cBl X (s.data.toList.drop i) = T) ∨ (l = 1 ∧ M.cLast X (s.data.toList.drop i) = T) ∨ (l = 2 ∧ M.cHour X (s.data.toList.drop i) = T) ∨ (l = 3 ∧ M.cMin X (s.data.toList.drop i) = T))
theorem cnt_room (s : ByteArray) (i k : Nat) (hi : i ≤ s.size) : i + M.cnt k (s.data.toList.drop i) ≤ s.size := by
  have h := M.cnt_len k (s.data.toList.drop i)
  rw [List.length_drop, ← sz_list] at h
  omega
theorem drop_more (s : ByteArray) (i k : Nat) : (s.data.toList.drop i).drop k = s.data.toList.drop (i + k) := by rw [List.drop_drop]
theorem head_in (s : ByteArray) (i : Nat) (h : i < s.size) : (s.data.toList.drop i).head? = some s[i] := by rw [drop_cons s i h]; rfl
theorem head_out (s : ByteArray) (i : Nat) (h : ¬ i < s.size) : (s.data.toList.drop i).head? = none := by rw [drop_nil s i (by omega)]; rfl
theorem u8_is {c : UInt8} {k : Nat} (hk : k < 256) (h : c = UInt8.ofNat k) : c.toNat = k := by rw [h]; simp; omega
set_option maxRecDepth 1000000 in
set_option maxHeartbeats 4000000 in
theorem afterClock_any (s : ByteArray) (X0 : M.Mo) (i0 : Nat) (w : World) (hs : s.size ≤ 1000) (hi0 : i0 ≤ s.size) :
    Calls Tryz.prog 153 #[.agg (mcs X0), .string s, .int .i64 (i0 : Nat)] w (Got w (M.cClk X0 (s.data.toList.drop i0))) := by
  obtain ⟨T, hT⟩ : ∃ T, M.cClk X0 (s.data.toList.drop i0) = T := ⟨_, rfl⟩
  rw [hT]
  have H2 := Two.start w X0 _ ⟨0, M.M0, zero_mo⟩
  obtain ⟨g, hg⟩ : ∃ g, w.heap.size = g := ⟨_, rfl⟩
  go_enter Tryz.func153, Tryz.ntmps153
  go_wp2_with fail
  rw [hg] at H2
  generalize ((w.alloc (Obj.cells (mcs X0) 70)).alloc _) = W1 at H2 ⊢
  refine wp_scope_runT (JC s T w g) (fun _ a _ => 2000 - (intOf (a.tmps.getD 2 undef)).toNat) ?_ ?_
  · rintro l a w' ⟨X, i, ⟨u0, u4, u5, u7, u8, u9, u10, u11, u12, u13⟩, ⟨u14, u15, u16, u17, u18, u19, u20, u21, u22, u23⟩, ⟨u24, u25, u26, u27, u28, u29, u30, u31, u32, u33⟩, ⟨u34, u35, u36, u37, u38, u39, u40, u41, u42, u43⟩, ⟨u44, u45, u46, u47, u48, u49, u50, u51, u52, u53⟩, ⟨u54, u55, u56, u57, u58, u59, u60, u61, u62, u63⟩, ⟨u64, u65, u66, u67, u68, u69, u70, u71, u72, u73⟩, ⟨u74, u75, u76, u77, u78, u79, _, _, _, _⟩, rfl, h2, hi, h⟩
    rcases h with ⟨rfl, h⟩ | ⟨rfl, h⟩ | ⟨rfl, h⟩ | ⟨rfl, h⟩
    · refine ⟨_, rfl, ?_⟩
      by_cases hl : i < s.size
      · have c1 := fun W => at_in s i W hl (by omega)
        rw [drop_cons s i hl, M.cBl] at h
        have hc := s[i].toNat_lt
        have c2 := fun W => bl_any s[i] W
        by_cases hb : M.bB s[i] = true
        · rw [if_pos hb] at h
          rw [hb] at c2
          generalize s[i].toNat = n at *
          clear hb
          go_wp2_with fail
          refine (c1 _).mono ?_
          rintro r w' ⟨rfl, rfl⟩
          go_wp2_with fail
          refine (c2 _).mono ?_
          rintro r w' ⟨rfl, rfl⟩
          go_wp2
          go_step3
          refine ⟨⟨X, i + 1, ⟨_, _, _, _, _, _, _, _, _, _⟩, ⟨_, _, _, _, _, _, _, _, _, _⟩, ⟨_, _, _, _, _, _, _, _, _, _⟩, ⟨_, _, _, _, _, _, _, _, _, _⟩, ⟨_, _, _, _, _, _, _, _, _, _⟩, ⟨_, _, _, _, _, _, _, _, _, _⟩, ⟨_, _, _, _, _, _, _, _, _, _⟩, ⟨_, _, _, _, _, _, undef, undef, undef, undef⟩, rfl, h2, by omega, Or.inl ⟨rfl, h⟩⟩, ?_⟩
          simp [intOf]
          omega
        · rw [if_neg hb] at h
          rw [show M.bB s[i] = false by simpa using hb] at c2
          by_cases h90 : s[i] = 90
          · rw [if_pos h90] at h
            rw [show s[i].toNat = 90 from u8_is (by omega) h90] at c1 c2
            clear hb hc h90
            go_wp2_with fail
            refine (c1 _).mono ?_
            rintro r w' ⟨rfl, rfl⟩
            go_wp2_with fail
            refine (c2 _).mono ?_
            rintro r w' ⟨rfl, rfl⟩
            go_wp2
            go_step3
            refine ⟨⟨X, i + 1, ⟨_, _, _, _, _, _, _, _, _, _⟩, ⟨_, _, _, _, _, _, _, _, _, _⟩, ⟨_, _, _, _, _, _, _, _, _, _⟩, ⟨_, _, _, _, _, _, _, _, _, _⟩, ⟨_, _, _, _, _, _, _, _, _, _⟩, ⟨_, _, _, _, _, _, _, _, _, _⟩, ⟨_, _, _, _, _, _, _, _, _, _⟩, ⟨_, _, _, _, _, _, undef, undef, undef, undef⟩, rfl, h2, by omega, Or.inr (Or.inl ⟨rfl, h⟩)⟩, ?_⟩
            simp [intOf]
            omega
          · rw [if_neg h90] at h
            have hx90 : ((s[i].toNat : Int) == 90) = false := neC (k := 90) (by omega) h90
            obtain ⟨_, _, _, _, _, _, _, _, k8, _, _⟩ := h2.1.cells
            have f8 := h2.froz 8
            by_cases h43 : s[i] = 43
            · rw [if_pos h43] at h
              rw [show s[i].toNat = 43 from u8_is (by omega) h43] at c1 c2
              have h3 := h2.put 8 (.bool false) (Y := { X with bh := false }) rfl
              clear hb hc h90 hx90 h43
              go_wp2_with fail
              refine (c1 _).mono ?_
              rintro r w' ⟨rfl, rfl⟩
              go_wp2_with fail
              refine (c2 _).mono ?_
              rintro r w' ⟨rfl, rfl⟩
              go_wp2
              go_step3
              refine ⟨⟨{ X with bh := false }, i + 1, ⟨_, _, _, _, _, _, _, _, _, _⟩, ⟨_, _, _, _, _, _, _, _, _, _⟩, ⟨_, _, _, _, _, _, _, _, _, _⟩, ⟨_, _, _, _, _, _, _, _, _, _⟩, ⟨_, _, _, _, _, _, _, _, _, _⟩, ⟨_, _, _, _, _, _, _, _, _, _⟩, ⟨_, _, _, _, _, _, _, _, _, _⟩, ⟨_, _, _, _, _, _, undef, undef, undef, undef⟩, rfl, h3, by omega, Or.inr (Or.inr (Or.inl ⟨rfl, h⟩))⟩, ?_⟩
              simp [intOf]
              omega
            · rw [if_neg h43] at h
              have hx43 : ((s[i].toNat : Int) == 43) = false := neC (k := 43) (by omega) h43
              by_cases h45 : s[i] = 45
              · rw [if_pos h45] at h
                rw [show s[i].toNat = 45 from u8_is (by omega) h45] at c1 c2
                have h3 := h2.put 8 (.bool true) (Y := { X with bh := true }) rfl
                clear hb hc h90 hx90 h45 h43 hx43
                go_wp2_with fail
                refine (c1 _).mono ?_
                rintro r w' ⟨rfl, rfl⟩
                go_wp2_with fail
                refine (c2 _).mono ?_
                rintro r w' ⟨rfl, rfl⟩
                go_wp2
                go_step3
                refine ⟨⟨{ X with bh := true }, i + 1, ⟨_, _, _, _, _, _, _, _, _, _⟩, ⟨_, _, _, _, _, _, _, _, _, _⟩, ⟨_, _, _, _, _, _, _, _, _, _⟩, ⟨_, _, _, _, _, _, _, _, _, _⟩, ⟨_, _, _, _, _, _, _, _, _, _⟩, ⟨_, _, _, _, _, _, _, _, _, _⟩, ⟨_, _, _, _, _, _, _, _, _, _⟩, ⟨_, _, _, _, _, _, undef, undef, undef, undef⟩, rfl, h3, by omega, Or.inr (Or.inr (Or.inl ⟨rfl, h⟩))⟩, ?_⟩
                simp [intOf]
                omega
              · rw [if_neg h45] at h
                have hx45 : ((s[i].toNat : Int) == 45) = false := neC (k := 45) (by omega) h45
                have HT : Hid (none = T) := h
                generalize s[i].toNat = n at *
                clear hb h90 h43 h45 h
                go_wp2_with fail
                refine (c1 _).mono ?_
                rintro r w' ⟨rfl, rfl⟩
                go_wp2_with fail
                refine (c2 _).mono ?_
                rintro r w' ⟨rfl, rfl⟩
                obtain ⟨yr, Xr, hr⟩ := h2.2.1
                have hz := h2.ret X
                have hm := h2.1
                go_wp2_with (first | (refine wpList_load_row rfl 70 (.tmp 3) rfl g rfl 70 (mcs X) (0, 0) _ hm Tryz.underlying70 rfl info_mo ?_) | (refine wpList_store_row rfl 70 (.tmp 6) (.tmp 40) rfl (g + 1) (mcs X) rfl rfl 70 _ hr info_mo rfl (vcs_one _ _) ?_) | fail)
                try simp only [Exit.jumpsT]
                exact bodyPost_ret (ret_mo Tryz.results153 _ rfl rfl hz.1) rfl (Got.no (X) hz.2 HT.out)
      · have c1 := fun W => at_out s i W hl (by omega)
        have c2 := fun W => bl_end W
        rw [drop_nil s i (by omega), M.cBl] at h
        have HT : Hid (none = T) := h
        clear h
        go_wp2_with fail
        refine (c1 _).mono ?_
        rintro r w' ⟨rfl, rfl⟩
        go_wp2_with fail
        refine (c2 _).mono ?_
        rintro r w' ⟨rfl, rfl⟩
        obtain ⟨yr, Xr, hr⟩ := h2.2.1
        have hz := h2.ret X
        have hm := h2.1
        go_wp2_with (first | (refine wpList_load_row rfl 70 (.tmp 3) rfl g rfl 70 (mcs X) (0, 0) _ hm Tryz.underlying70 rfl info_mo ?_) | (refine wpList_store_row rfl 70 (.tmp 6) (.tmp 40) rfl (g + 1) (mcs X) rfl rfl 70 _ hr info_mo rfl (vcs_one _ _) ?_) | fail)
        try simp only [Exit.jumpsT]
        exact bodyPost_ret (ret_mo Tryz.results153 _ rfl rfl hz.1) rfl (Got.no (X) hz.2 HT.out)
    · refine ⟨_, rfl, ?_⟩
      unfold M.cLast at h
      obtain ⟨yr, Xr, hr⟩ := h2.2.1
      have hz := h2.ret X
      have hm := h2.1
      by_cases hl : i < s.size
      · have c1 := fun W => at_in s i W hl (by omega)
        rw [drop_cons s i hl, if_neg (by simp)] at h
        have HT : Hid (none = T) := h
        have hc := s[i].toNat_lt
        have hm1 : ((s[i].toNat : Int) == -1) = false := beq_eq_false_iff_ne.2 (by omega)
        generalize s[i].toNat = n at *
        clear h
        go_wp2_with fail
        refine wp_region_held_drew (S := fun wx => Two w g X wx) (by kernel_rfl) h2.drew (fun hHeld => ?_)
        refine takeH (some 75) rfl (i := 0) (v := .agg (mcs X)) rfl (by kernel_rfl) (by kernel_rfl) (by kernel_rfl) (fun _ _ _ h => h) (Or.inl ⟨by kernel_rfl, ?_⟩) (by assumption) ?_
        · intro w hSw
          exact hSw.exec rfl rfl
        simp only [Act.put, List.setIfInBounds_toArray, List.set_cons_zero, List.set_cons_succ]
        refine takeH (some 76) rfl (i := 1) (v := .string s) rfl (by kernel_rfl) (by kernel_rfl) (by kernel_rfl) (fun _ _ _ h => h) (Or.inl ⟨by kernel_rfl, ?_⟩) (by assumption) ?_
        · intro w hSw
          go_simp
        simp only [Act.put, List.setIfInBounds_toArray, List.set_cons_zero, List.set_cons_succ]
        refine takeH (some 77) rfl (i := 2) (v := .int .i64 (i : Nat)) rfl (by kernel_rfl) (by kernel_rfl) (by kernel_rfl) (fun _ _ _ h => h) (Or.inl ⟨by kernel_rfl, ?_⟩) (by assumption) ?_
        · intro w hSw
          go_simp
        simp only [Act.put, List.setIfInBounds_toArray, List.set_cons_zero, List.set_cons_succ]
        refine wpAnyH_ready (rs := [3]) (by kernel_rfl) (by simp) ?_
        refine AllReadyH.cons rfl (fun K hK => ?_) AllReadyH.nil
        go_simp
        refine (c1 _).mono ?_
        rintro r w5 ⟨rfl, rfl⟩
        go_wp2_with fail
        refine hK.out _ _ ?_ (fun hHeld => ?_)
        · assumption
        clear hK K
        refine takeH (some 79) rfl (i := 4) (v := .bool false) rfl (by kernel_rfl) (by kernel_rfl) (by kernel_rfl) (fun _ _ _ h => h) (Or.inl ⟨by kernel_rfl, ?_⟩) (by assumption) ?_
        · intro w hSw
          go_simp
        simp only [Act.put, List.setIfInBounds_toArray, List.set_cons_zero, List.set_cons_succ]
        refine wpAnyH_ready (rs := [5]) (by kernel_rfl) (by simp) ?_
        refine AllReadyH.cons rfl (fun K hK => ?_) AllReadyH.nil
        rw [if_pos (by kernel_rfl)]
        obtain ⟨yr, Xr, hr⟩ := hHeld.2.1
        have hz := hHeld.ret X
        refine wp_store_row 70 (.tmp 6) (.tmp 75) rfl (g + 1) (mcs X) rfl rfl 70 _ hr info_mo rfl (vcs_one _ _) ?_
        refine hK.out _ _ (hHeld.over X) (fun hHeld => ?_)
        clear hK K
        refine takeH (some 7) rfl (i := 6) (v := .bool false) rfl (by kernel_rfl) (by kernel_rfl) (by kernel_rfl) (fun _ _ _ h => h) (Or.inl ⟨by kernel_rfl, ?_⟩) (by assumption) ?_
        · intro w hSw
          go_simp
        refine wpAnyH_done (by kernel_rfl) ?_ _
        go_wp2
        try simp only [Exit.jumpsT]
        exact bodyPost_ret (ret_mo Tryz.results153 _ rfl rfl hz.1) rfl (Got.no X hz.2 HT.out)
      · have c1 := fun W => at_out s i W hl (by omega)
        rw [drop_nil s i (by omega), if_pos rfl] at h
        have HT : Hid (some X = T) := h
        clear h
        go_wp2_with fail
        refine wp_region_held_drew (S := fun wx => Two w g X wx) (by kernel_rfl) h2.drew (fun hHeld => ?_)
        refine takeH (some 75) rfl (i := 0) (v := .agg (mcs X)) rfl (by kernel_rfl) (by kernel_rfl) (by kernel_rfl) (fun _ _ _ h => h) (Or.inl ⟨by kernel_rfl, ?_⟩) (by assumption) ?_
        · intro w hSw
          exact hSw.exec rfl rfl
        simp only [Act.put, List.setIfInBounds_toArray, List.set_cons_zero, List.set_cons_succ]
        refine takeH (some 76) rfl (i := 1) (v := .string s) rfl (by kernel_rfl) (by kernel_rfl) (by kernel_rfl) (fun _ _ _ h => h) (Or.inl ⟨by kernel_rfl, ?_⟩) (by assumption) ?_
        · intro w hSw
          go_simp
        simp only [Act.put, List.setIfInBounds_toArray, List.set_cons_zero, List.set_cons_succ]
        refine takeH (some 77) rfl (i := 2) (v := .int .i64 (i : Nat)) rfl (by kernel_rfl) (by kernel_rfl) (by kernel_rfl) (fun _ _ _ h => h) (Or.inl ⟨by kernel_rfl, ?_⟩) (by assumption) ?_
        · intro w hSw
          go_simp
        simp only [Act.put, List.setIfInBounds_toArray, List.set_cons_zero, List.set_cons_succ]
        refine wpAnyH_ready (rs := [3]) (by kernel_rfl) (by simp) ?_
        refine AllReadyH.cons rfl (fun K hK => ?_) AllReadyH.nil
        go_simp
        refine (c1 _).mono ?_
        rintro r w5 ⟨rfl, rfl⟩
        go_wp2_with fail
        refine hK.out _ _ ?_ (fun hHeld => ?_)
        · assumption
        clear hK K
        refine takeH (some 79) rfl (i := 4) (v := .bool true) rfl (by kernel_rfl) (by kernel_rfl) (by kernel_rfl) (fun _ _ _ h => h) (Or.inl ⟨by kernel_rfl, ?_⟩) (by assumption) ?_
        · intro w hSw
          go_simp
        simp only [Act.put, List.setIfInBounds_toArray, List.set_cons_zero, List.set_cons_succ]
        refine wpAnyH_ready (rs := [5]) (by kernel_rfl) (by simp) ?_
        refine AllReadyH.cons rfl (fun K hK => ?_) AllReadyH.nil
        rw [if_pos (by kernel_rfl)]
        obtain ⟨yr, Xr, hr⟩ := hHeld.2.1
        have hz := hHeld.ret X
        refine wp_store_row 70 (.tmp 6) (.tmp 75) rfl (g + 1) (mcs X) rfl rfl 70 _ hr info_mo rfl (vcs_one _ _) ?_
        refine hK.out _ _ (hHeld.over X) (fun hHeld => ?_)
        clear hK K
        refine takeH (some 7) rfl (i := 6) (v := .bool true) rfl (by kernel_rfl) (by kernel_rfl) (by kernel_rfl) (fun _ _ _ h => h) (Or.inl ⟨by kernel_rfl, ?_⟩) (by assumption) ?_
        · intro w hSw
          go_simp
        refine wpAnyH_done (by kernel_rfl) ?_ _
        go_wp2
        try simp only [Exit.jumpsT]
        exact bodyPost_ret (ret_mo Tryz.results153 _ rfl rfl hz.1) rfl (Got.yes X hz.2 HT.out)
    · refine ⟨_, rfl, ?_⟩
      unfold M.cHour at h
      obtain ⟨C, hC⟩ : ∃ C, M.cnt 2 (s.data.toList.drop i) = C := ⟨_, rfl⟩
      obtain ⟨V, hV⟩ : ∃ V, M.nv 2 0 (s.data.toList.drop i) = V := ⟨_, rfl⟩
      have c1 := fun W => number_any s i 2 W (by omega) hi (by omega)
      have hC2 := M.cnt_le 2 (s.data.toList.drop i)
      have hCr := cnt_room s i 2 hi
      have hV2 := M.nv2_lt (s.data.toList.drop i)
      rw [hC] at c1 h hC2 hCr
      rw [hV] at c1 h hV2
      simp only [drop_more] at h
      clear hC hV
      obtain ⟨k0, k1, k2, k3, k4, k5, k6, k7, k8, k9, k10⟩ := h2.1.cells
      have f9 := h2.froz 9
      clear k0 k1 k2 k3 k4 k5 k6 k7 k8 k10
      have h3 := h2.put 9 (.int .i64 (V : Nat)) (Y := { X with zh := V }) rfl
      by_cases h0 : C = 0
      · rw [if_pos h0] at h
        subst h0
        have HT : Hid (none = T) := h
        clear h
        go_wp2_with fail
        refine (c1 _).mono ?_
        rintro r w' ⟨rfl, rfl⟩
        obtain ⟨yr, Xr, hr⟩ := h3.2.1
        have hz := h3.ret { X with zh := V }
        have hm := h3.1
        go_wp2_with (first | (refine wpList_load_row rfl 70 (.tmp 3) rfl g rfl 70 (mcs { X with zh := V }) (0, 0) _ hm Tryz.underlying70 rfl info_mo ?_) | (refine wpList_store_row rfl 70 (.tmp 6) (.tmp 54) rfl (g + 1) (mcs { X with zh := V }) rfl rfl 70 _ hr info_mo rfl (vcs_one _ _) ?_) | fail)
        try simp only [Exit.jumpsT]
        exact bodyPost_ret (ret_mo Tryz.results153 _ rfl rfl hz.1) rfl (Got.no ({ X with zh := V }) hz.2 HT.out)
      · rw [if_neg h0] at h
        have hx0 : ((C : Int) == 0) = false := beq_eq_false_iff_ne.2 (by omega)
        by_cases hl2 : i + C < s.size
        · have c2 := fun W => at_in s (i + C) W hl2 (by omega)
          rw [head_in s _ hl2] at h
          have hc := s[i + C].toNat_lt
          by_cases h58 : s[i + C] = 58
          · rw [if_pos (congrArg some h58)] at h
            rw [show s[i + C].toNat = 58 from u8_is (by omega) h58] at c2
            clear hc h58
            go_wp2_with fail
            refine (c1 _).mono ?_
            rintro r w' ⟨rfl, rfl⟩
            go_wp2_with fail
            refine (c2 _).mono ?_
            rintro r w' ⟨rfl, rfl⟩
            go_wp2
            go_step3
            refine ⟨⟨{ X with zh := V }, i + C + 1, ⟨_, _, _, _, _, _, _, _, _, _⟩, ⟨_, _, _, _, _, _, _, _, _, _⟩, ⟨_, _, _, _, _, _, _, _, _, _⟩, ⟨_, _, _, _, _, _, _, _, _, _⟩, ⟨_, _, _, _, _, _, _, _, _, _⟩, ⟨_, _, _, _, _, _, _, _, _, _⟩, ⟨_, _, _, _, _, _, _, _, _, _⟩, ⟨_, _, _, _, _, _, undef, undef, undef, undef⟩, rfl, h3, by omega, Or.inr (Or.inr (Or.inr ⟨rfl, h⟩))⟩, ?_⟩
            simp [intOf]
            omega
          · rw [if_neg (fun e => h58 (Option.some.inj e))] at h
            have hx58 : ((s[i + C].toNat : Int) == 58) = false := neC (k := 58) (by omega) h58
            generalize s[i + C].toNat = n at *
            clear hc h58
            go_wp2_with fail
            refine (c1 _).mono ?_
            rintro r w' ⟨rfl, rfl⟩
            go_wp2_with fail
            refine (c2 _).mono ?_
            rintro r w' ⟨rfl, rfl⟩
            go_wp2
            go_step3
            refine ⟨⟨{ X with zh := V }, i + C, ⟨_, _, _, _, _, _, _, _, _, _⟩, ⟨_, _, _, _, _, _, _, _, _, _⟩, ⟨_, _, _, _, _, _, _, _, _, _⟩, ⟨_, _, _, _, _, _, _, _, _, _⟩, ⟨_, _, _, _, _, _, _, _, _, _⟩, ⟨_, _, _, _, _, _, _, _, _, _⟩, ⟨_, _, _, _, _, _, _, _, _, _⟩, ⟨_, _, _, _, _, _, undef, undef, undef, undef⟩, rfl, h3, by omega, Or.inr (Or.inl ⟨rfl, h⟩)⟩, ?_⟩
            simp [intOf]
            omega
        · have c2 := fun W => at_out s (i + C) W hl2 (by omega)
          rw [head_out s _ hl2, if_neg (by simp)] at h
          go_wp2_with fail
          refine (c1 _).mono ?_
          rintro r w' ⟨rfl, rfl⟩
          go_wp2_with fail
          refine (c2 _).mono ?_
          rintro r w' ⟨rfl, rfl⟩
          go_wp2
          go_step3
          refine ⟨⟨{ X with zh := V }, i + C, ⟨_, _, _, _, _, _, _, _, _, _⟩, ⟨_, _, _, _, _, _, _, _, _, _⟩, ⟨_, _, _, _, _, _, _, _, _, _⟩, ⟨_, _, _, _, _, _, _, _, _, _⟩, ⟨_, _, _, _, _, _, _, _, _, _⟩, ⟨_, _, _, _, _, _, _, _, _, _⟩, ⟨_, _, _, _, _, _, _, _, _, _⟩, ⟨_, _, _, _, _, _, undef, undef, undef, undef⟩, rfl, h3, by omega, Or.inr (Or.inl ⟨rfl, h⟩)⟩, ?_⟩
          simp [intOf]
          omega
    · refine ⟨_, rfl, ?_⟩
      unfold M.cMin at h
      obtain ⟨C, hC⟩ : ∃ C, M.cnt 2 (s.data.toList.drop i) = C := ⟨_, rfl⟩
      obtain ⟨V, hV⟩ : ∃ V, M.nv 2 0 (s.data.toList.drop i) = V := ⟨_, rfl⟩
      have c1 := fun W => number_any s i 2 W (by omega) hi (by omega)
      have hC2 := M.cnt_le 2 (s.data.toList.drop i)
      have hCr := cnt_room s i 2 hi
      have hV2 := M.nv2_lt (s.data.toList.drop i)
      rw [hC] at c1 h hC2 hCr
      rw [hV] at c1 h hV2
      simp only [drop_more] at h
      clear hC hV
      obtain ⟨k0, k1, k2, k3, k4, k5, k6, k7, k8, k9, k10⟩ := h2.1.cells
      have f10 := h2.froz 10
      clear k0 k1 k2 k3 k4 k5 k6 k7 k8 k9
      have h3 := h2.put 10 (.int .i64 (V : Nat)) (Y := { X with zm := V }) rfl
      by_cases h0 : C = 2
      · rw [if_pos h0] at h
        subst h0
        go_wp2_with fail
        refine (c1 _).mono ?_
        rintro r w' ⟨rfl, rfl⟩
        go_wp2
        go_step3
        refine ⟨⟨{ X with zm := V }, i + 2, ⟨_, _, _, _, _, _, _, _, _, _⟩, ⟨_, _, _, _, _, _, _, _, _, _⟩, ⟨_, _, _, _, _, _, _, _, _, _⟩, ⟨_, _, _, _, _, _, _, _, _, _⟩, ⟨_, _, _, _, _, _, _, _, _, _⟩, ⟨_, _, _, _, _, _, _, _, _, _⟩, ⟨_, _, _, _, _, _, _, _, _, _⟩, ⟨_, _, _, _, _, _, undef, undef, undef, undef⟩, rfl, h3, by omega, Or.inr (Or.inl ⟨rfl, h⟩)⟩, ?_⟩
        simp [intOf]
        omega
      · rw [if_neg h0] at h
        have HT : Hid (none = T) := h
        have hx2 : ((C : Int) == 2) = false := beq_eq_false_iff_ne.2 (by omega)
        clear h h0
        go_wp2_with fail
        refine (c1 _).mono ?_
        rintro r w' ⟨rfl, rfl⟩
        obtain ⟨yr, Xr, hr⟩ := h3.2.1
        have hz := h3.ret { X with zm := V }
        have hm := h3.1
        go_wp2_with (first | (refine wpList_load_row rfl 70 (.tmp 3) rfl g rfl 70 (mcs { X with zm := V }) (0, 0) _ hm Tryz.underlying70 rfl info_mo ?_) | (refine wpList_store_row rfl 70 (.tmp 6) (.tmp 74) rfl (g + 1) (mcs { X with zm := V }) rfl rfl 70 _ hr info_mo rfl (vcs_one _ _) ?_) | fail)
        try simp only [Exit.jumpsT]
        exact bodyPost_ret (ret_mo Tryz.results153 _ rfl rfl hz.1) rfl (Got.no ({ X with zm := V }) hz.2 HT.out)
  · intro hp
    unfold M.cClk at hT
    by_cases hl : i0 < s.size
    · have c1 := fun W => at_in s i0 W hl (by omega)
      rw [if_neg (by rw [drop_cons s i0 hl]; simp)] at hT
      have hc := s[i0].toNat_lt
      have hm1 : ((s[i0].toNat : Int) == -1) = false := beq_eq_false_iff_ne.2 (by omega)
      generalize s[i0].toNat = n at *
      go_wp2_with fail
      refine (c1 _).mono ?_
      rintro r w' ⟨rfl, rfl⟩
      go_wp2_with fail
      go_step3
      rename_i K hK
      exact hK _ _ (hp 0 _ rfl _ _ ⟨X0, i0, ⟨_, _, _, _, _, _, _, _, _, _⟩, ⟨_, _, _, _, _, _, _, _, _, _⟩, ⟨_, _, _, _, _, _, _, _, _, _⟩, ⟨_, _, _, _, _, _, _, _, _, _⟩, ⟨_, _, _, _, _, _, _, _, _, _⟩, ⟨_, _, _, _, _, _, _, _, _, _⟩, ⟨_, _, _, _, _, _, _, _, _, _⟩, ⟨_, _, _, _, _, _, undef, undef, undef, undef⟩, rfl, H2, by omega, Or.inl ⟨rfl, hT⟩⟩)
    · have c1 := fun W => at_out s i0 W hl (by omega)
      rw [drop_nil s i0 (by omega), if_pos rfl] at hT
      have HT : Hid (some X0 = T) := hT
      clear hT hp
      go_wp2_with fail
      refine (c1 _).mono ?_
      rintro r w' ⟨rfl, rfl⟩
      obtain ⟨yr, Xr, hr⟩ := H2.2.1
      have hz := H2.ret X0
      have hm := H2.1
      go_wp2_with (first | (refine wpList_load_row rfl 70 (.tmp 3) rfl g rfl 70 (mcs X0) (0, 0) _ hm Tryz.underlying70 rfl info_mo ?_) | (refine wpList_store_row rfl 70 (.tmp 6) (.tmp 14) rfl (g + 1) (mcs X0) rfl rfl 70 _ hr info_mo rfl (vcs_one _ _) ?_) | fail)
      try simp only [Exit.jumpsT]
      exact bodyPost_ret (ret_mo Tryz.results153 _ rfl rfl hz.1) rfl (Got.yes (X0) hz.2 HT.out)
end Go.Proofs.YtipgipgehnhgkaaGreatDoor.S10
