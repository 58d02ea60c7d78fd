/- Walks: stamp's read: the machine of the day. -/
import Derived.Test.YtipgipgehnhgkaaGreatDoorTc
import Derived.Great.BuildSlice
set_option linter.unusedVariables false
namespace Go.Proofs.YtipgipgehnhgkaaGreatDoor.S10
open Go.RowKit

/-- The two blocks of a reader, the answer ahead of what was read. -/
def Owt (w0 : World) (g : Nat) (X : M.Mo) (w : World) : Prop := MB w (g + 1) X ∧ AB w g ∧ Below w0.heap.size w0 w ∧ w0.heap.size ≤ g
theorem Owt.next {w0 w w' : World} {g : Nat} {X : M.Mo} (h : Owt w0 g X w) (hb : Below w.heap.size w w') : Owt w0 g X w' := ⟨h.1.next hb, h.2.1.next hb, h.2.2.1.trans (hb.mono h.2.2.1.size), h.2.2.2⟩
theorem Owt.put {w0 w : World} {g : Nat} {X Y : M.Mo} (h : Owt w0 g X w) (j : Nat) (v : Value) (e : (mcs X).setIfInBounds j v = mcs Y) : Owt w0 g Y (w.setCell ⟨g + 1, j, none⟩ v) := by
  refine ⟨h.1.put j v e, ?_, h.2.2.1.setCell (p := ⟨g + 1, j, none⟩) (by have := h.2.2.2; show w0.heap.size ≤ g + 1; omega) _, h.2.2.2⟩
  obtain ⟨y, Z, hz⟩ := h.2.1
  exact ⟨y, Z, hz.other (by omega) j v⟩
theorem Owt.ret {w0 w : World} {g : Nat} {X : M.Mo} (h : Owt w0 g X w) (Y : M.Mo) : VB (w.setRow g (mcs Y)) g Y.y Y ∧ Below w0.heap.size w0 (w.setRow g (mcs Y)) := by
  obtain ⟨y, Z, hz⟩ := h.2.1
  exact ⟨hz.row Y.y Y, below_setRow h.2.2.1 h.2.2.2 _⟩
theorem Owt.froz {w0 w : World} {g : Nat} {X : M.Mo} (h : Owt w0 g X w) (j : Nat) : w.frozen? ⟨g + 1, j, none⟩ = false := h.1.frozen j
theorem Owt.start (w : World) (c : Array Value) (h : c = mcs M.M0) : Owt w w.heap.size M.M0 (((w.alloc (.cells c 70)).alloc (.cells c 70)).setRow (w.heap.size + 1) (mcs M.M0)) := by
  subst h
  have h2 : VB ((w.alloc (.cells (mcs M.M0) 70)).alloc (.cells (mcs M.M0) 70)) (w.heap.size + 1) 0 M.M0 := heap_alloc2_new w _ _
  have h1 : VB ((w.alloc (.cells (mcs M.M0) 70)).alloc (.cells (mcs M.M0) 70)) w.heap.size 0 M.M0 := by
    show ((w.heap.push _).push _)[w.heap.size]? = _
    rw [Array.getElem?_push, if_neg (by simp), Array.getElem?_push_size]; rfl
  exact ⟨h2.row _ _, ⟨_, _, h1.otherRow (by omega) _⟩, below_setRow (((Below.refl _ _).alloc (Nat.le_refl _) _).alloc (by simp) _) (by omega) _, Nat.le_refl _⟩
/-- What holds at read's labels. -/
def JR (s : ByteArray) (T : Option M.Mo) (w0 : World) (g : Nat) (l : Nat) (a : Act) (w' : World) : Prop :=
  ∃ (X : M.Mo) (i : Nat) (p0 p1 p2 p3 p4 p5 p6 p7 p8 p9 p10 : V10), a = { tmps := #[.string s, p0.a, .pointer (some ⟨g, 0, none⟩), p0.b, .pointer (some ⟨g + 1, 0, none⟩), .int .i64 (i : Nat), p0.c, p0.d, p0.e, p0.f, p0.g, p0.h, p0.i, p0.j, p1.a, p1.b, p1.c, p1.d, p1.e, p1.f, p1.g, p1.h, p1.i, p1.j, p2.a, p2.b, p2.c, p2.d, p2.e, p2.f, p2.g, p2.h, p2.i, p2.j, p3.a, p3.b, p3.c, p3.d, p3.e, p3.f, p3.g, p3.h, p3.i, p3.j, p4.a, p4.b, p4.c, p4.d, p4.e, p4.f, p4.g, p4.h, p4.i, p4.j, p5.a, p5.b, p5.c, p5.d, p5.e, p5.f, p5.g, p5.h, p5.i, p5.j, p6.a, p6.b, p6.c, p6.d, p6.e, p6.f, p6.g, p6.h, p6.i, p6.j, p7.a, p7.b, p7.c, p7.d, p7.e, p7.f, p7.g, p7.h, p7.i, p7.j, p8.a, p8.b, p8.c, p8.d, p8.e, p8.f, p8.g, p8.h, p8.i, p8.j, p9.a, p9.b, p9.c, p9.d, p9.e, p9.f, p9.g, p9.h, p9.i, p9.j, p10.a, p10.b, p10.c, p10.d, p10.e, p10.f], defers := [] } ∧ Owt w0 g X w' ∧ i ≤ s.size ∧
    ((l = 0 ∧ M.rMon s.size X (s.data.toList.drop i) = T) ∨ (l = 1 ∧ M.rDay s.size X (s.data.toList.drop i) = T) ∨ (l = 2 ∧ M.rBl X (s.data.toList.drop i) = T))
set_option maxRecDepth 1000000 in
set_option maxHeartbeats 8000000 in
theorem read_any (s : ByteArray) (w : World) (hs : s.size ≤ 1000) :
    Calls Tryz.prog 56 #[.string s] w (Got w (M.rd s.data.toList)) := by
  obtain ⟨T, hT⟩ : ∃ T, M.rd (s.data.toList.drop 0) = T := ⟨_, rfl⟩
  rw [show M.rd s.data.toList = T from hT]
  have H2 := Owt.start w _ zero_mo
  go_enter Tryz.func56, Tryz.ntmps56
  go_wp2_with fail
  obtain ⟨g, hg⟩ : ∃ g, w.heap.size = g := ⟨_, rfl⟩
  rw [hg] at H2 ⊢
  have HG := Lib.hid hg
  clear hg
  refine wp_scope_runT (JR s T w g) (fun _ a _ => 2000 - (intOf (a.tmps.getD 5 undef)).toNat) ?_ ?_
  · rintro l a w' ⟨X, i, ⟨u1, u3, u6, u7, u8, u9, u10, u11, u12, u13⟩, ⟨u14, u15, u16, u17, u18, u19, u20, u21, u22, u23⟩, ⟨u24, u25, u26, u27, u28, u29, u30, u31, u32, u33⟩, ⟨u34, u35, u36, u37, u38, u39, u40, u41, u42, u43⟩, ⟨u44, u45, u46, u47, u48, u49, u50, u51, u52, u53⟩, ⟨u54, u55, u56, u57, u58, u59, u60, u61, u62, u63⟩, ⟨u64, u65, u66, u67, u68, u69, u70, u71, u72, u73⟩, ⟨u74, u75, u76, u77, u78, u79, u80, u81, u82, u83⟩, ⟨u84, u85, u86, u87, u88, u89, u90, u91, u92, u93⟩, ⟨u94, u95, u96, u97, u98, u99, u100, u101, u102, u103⟩, ⟨u104, u105, u106, u107, u108, u109, _, _, _, _⟩, rfl, h2, hi, h⟩
    rcases h with ⟨rfl, h⟩ | ⟨rfl, h⟩ | ⟨rfl, h⟩
    · refine ⟨_, rfl, ?_⟩
      unfold M.rMon at h
      obtain ⟨C, hC⟩ : ∃ C, M.cnt 2 (s.data.toList.drop i) = C := ⟨_, rfl⟩
      obtain ⟨V, hV⟩ : ∃ V, M.nv 2 0 (s.data.toList.drop i) = V := ⟨_, rfl⟩
      have c1 := fun W => number_any s i 2 W (by omega) hi (by omega)
      have hC2 := M.cnt_le 2 (s.data.toList.drop i)
      have hCr := cnt_room s i 2 hi
      have hV2 := M.nv2_lt (s.data.toList.drop i)
      rw [hC] at c1 h hC2 hCr
      rw [hV] at c1 h hV2
      simp only [drop_more] at h
      clear hC hV
      obtain ⟨k0, k1, k2, k3, k4, k5, k6, k7, k8, k9, k10⟩ := h2.1.cells
      have f1 := h2.froz 1
      clear k0 k2 k3 k4 k5 k6 k7 k8 k9 k10
      have h3 := h2.put 1 (.int .i64 (V : Nat)) (Y := { X with m := V }) rfl
      by_cases h0 : C = 0
      · rw [if_pos h0] at h
        subst h0
        have HT : Hid (none = T) := h
        clear h
        go_wp2_with fail
        refine (c1 _).mono ?_
        rintro r w' ⟨rfl, rfl⟩
        obtain ⟨yr, Xr, hr⟩ := h3.2.1
        have hz := h3.ret { X with m := V }
        have hm := h3.1
        go_wp2_with (first | (refine wpList_load_row rfl 70 (.tmp 4) rfl (g + 1) rfl 70 (mcs { X with m := V }) (0, 0) _ hm Tryz.underlying70 rfl info_mo ?_) | (refine wpList_store_row rfl 70 (.tmp 2) (.tmp 52) rfl (g) (mcs { X with m := V }) rfl rfl 70 _ hr info_mo rfl (vcs_one _ _) ?_) | fail)
        try simp only [Exit.jumpsT]
        exact bodyPost_ret (ret_mo Tryz.results56 _ rfl rfl hz.1) rfl (Got.no ({ X with m := V }) hz.2 HT.out)
      · rw [if_neg h0] at h
        have hx0 : decide (0 < C) = true := decide_eq_true (by omega)
        have hx1 : decide ((0 : Int) < (C : Int)) = true := decide_eq_true (by omega)
        clear h0
        by_cases hl2 : i + C < s.size
        · have c2 := fun W => at_in s (i + C) W hl2 (by omega)
          rw [head_in s _ hl2] at h
          have hc := s[i + C].toNat_lt
          by_cases h45 : s[i + C] = 45
          · rw [if_pos (congrArg some h45)] at h
            rw [show s[i + C].toNat = 45 from u8_is (by omega) h45] at c2
            clear hc h45
            go_wp2_with fail
            refine (c1 _).mono ?_
            rintro r w' ⟨rfl, rfl⟩
            go_wp2_with fail
            refine (c2 _).mono ?_
            rintro r w' ⟨rfl, rfl⟩
            go_wp2
            go_step3
            refine ⟨⟨{ X with m := V }, i + C + 1, ⟨_, _, _, _, _, _, _, _, _, _⟩, ⟨_, _, _, _, _, _, _, _, _, _⟩, ⟨_, _, _, _, _, _, _, _, _, _⟩, ⟨_, _, _, _, _, _, _, _, _, _⟩, ⟨_, _, _, _, _, _, _, _, _, _⟩, ⟨_, _, _, _, _, _, _, _, _, _⟩, ⟨_, _, _, _, _, _, _, _, _, _⟩, ⟨_, _, _, _, _, _, _, _, _, _⟩, ⟨_, _, _, _, _, _, _, _, _, _⟩, ⟨_, _, _, _, _, _, _, _, _, _⟩, ⟨_, _, _, _, _, _, undef, undef, undef, undef⟩, rfl, h3, by omega, Or.inr (Or.inl ⟨rfl, h⟩)⟩, ?_⟩
            simp [intOf]
            omega
          · rw [if_neg (fun e => h45 (Option.some.inj e))] at h
            have hx45 : ((s[i + C].toNat : Int) == 45) = false := neC (k := 45) (by omega) h45
            generalize s[i + C].toNat = n at *
            have HT : Hid (none = T) := h
            clear hc h45 h
            go_wp2_with fail
            refine (c1 _).mono ?_
            rintro r w' ⟨rfl, rfl⟩
            go_wp2_with fail
            refine (c2 _).mono ?_
            rintro r w' ⟨rfl, rfl⟩
            obtain ⟨yr, Xr, hr⟩ := h3.2.1
            have hz := h3.ret { X with m := V }
            have hm := h3.1
            go_wp2_with (first | (refine wpList_load_row rfl 70 (.tmp 4) rfl (g + 1) rfl 70 (mcs { X with m := V }) (0, 0) _ hm Tryz.underlying70 rfl info_mo ?_) | (refine wpList_store_row rfl 70 (.tmp 2) (.tmp 52) rfl (g) (mcs { X with m := V }) rfl rfl 70 _ hr info_mo rfl (vcs_one _ _) ?_) | fail)
            try simp only [Exit.jumpsT]
            exact bodyPost_ret (ret_mo Tryz.results56 _ rfl rfl hz.1) rfl (Got.no ({ X with m := V }) hz.2 HT.out)
        · have c2 := fun W => at_out s (i + C) W hl2 (by omega)
          rw [head_out s _ hl2, if_neg (by simp)] at h
          have HT : Hid (none = T) := h
          clear h
          go_wp2_with fail
          refine (c1 _).mono ?_
          rintro r w' ⟨rfl, rfl⟩
          go_wp2_with fail
          refine (c2 _).mono ?_
          rintro r w' ⟨rfl, rfl⟩
          obtain ⟨yr, Xr, hr⟩ := h3.2.1
          have hz := h3.ret { X with m := V }
          have hm := h3.1
          go_wp2_with (first | (refine wpList_load_row rfl 70 (.tmp 4) rfl (g + 1) rfl 70 (mcs { X with m := V }) (0, 0) _ hm Tryz.underlying70 rfl info_mo ?_) | (refine wpList_store_row rfl 70 (.tmp 2) (.tmp 52) rfl (g) (mcs { X with m := V }) rfl rfl 70 _ hr info_mo rfl (vcs_one _ _) ?_) | fail)
          try simp only [Exit.jumpsT]
          exact bodyPost_ret (ret_mo Tryz.results56 _ rfl rfl hz.1) rfl (Got.no ({ X with m := V }) hz.2 HT.out)
    · refine ⟨_, rfl, ?_⟩
      unfold M.rDay at h
      obtain ⟨C, hC⟩ : ∃ C, M.cnt 2 (s.data.toList.drop i) = C := ⟨_, rfl⟩
      obtain ⟨V, hV⟩ : ∃ V, M.nv 2 0 (s.data.toList.drop i) = V := ⟨_, rfl⟩
      have c1 := fun W => number_any s i 2 W (by omega) hi (by omega)
      have hC2 := M.cnt_le 2 (s.data.toList.drop i)
      have hCr := cnt_room s i 2 hi
      have hV2 := M.nv2_lt (s.data.toList.drop i)
      rw [hC] at c1 h hC2 hCr
      rw [hV] at c1 h hV2
      simp only [drop_more] at h
      clear hC hV
      obtain ⟨k0, k1, k2, k3, k4, k5, k6, k7, k8, k9, k10⟩ := h2.1.cells
      have f2 := h2.froz 2
      clear k0 k1 k3 k4 k5 k6 k7 k8 k9 k10
      have h3 := h2.put 2 (.int .i64 (V : Nat)) (Y := { X with d := V }) rfl
      by_cases hl2 : i + C < s.size
      · have c2 := fun W => at_in s (i + C) W hl2 (by omega)
        by_cases h0 : C = 0
        · rw [if_pos h0] at h
          subst h0
          have HT : Hid (none = T) := h
          generalize s[i + 0].toNat = n at *
          clear h
          go_wp2_with fail
          refine (c1 _).mono ?_
          rintro r w' ⟨rfl, rfl⟩
          go_wp2_with fail
          refine (c2 _).mono ?_
          rintro r w' ⟨rfl, rfl⟩
          obtain ⟨yr, Xr, hr⟩ := h3.2.1
          have hz := h3.ret { X with d := V }
          have hm := h3.1
          go_wp2_with (first | (refine wpList_load_row rfl 70 (.tmp 4) rfl (g + 1) rfl 70 (mcs { X with d := V }) (0, 0) _ hm Tryz.underlying70 rfl info_mo ?_) | (refine wpList_store_row rfl 70 (.tmp 2) (.tmp 70) rfl (g) (mcs { X with d := V }) rfl rfl 70 _ hr info_mo rfl (vcs_one _ _) ?_) | fail)
          try simp only [Exit.jumpsT]
          exact bodyPost_ret (ret_mo Tryz.results56 _ rfl rfl hz.1) rfl (Got.no ({ X with d := V }) hz.2 HT.out)
        · rw [if_neg h0, drop_cons s (i + C) hl2, M.rTail] at h
          have hx0 : ((C : Int) == 0) = false := beq_eq_false_iff_ne.2 (by omega)
          clear h0
          have hc := s[i + C].toNat_lt
          have hm1 : ((s[i + C].toNat : Int) == -1) = false := beq_eq_false_iff_ne.2 (by omega)
          by_cases h84 : s[i + C] = 84
          · rw [if_pos h84] at h
            rw [show s[i + C].toNat = 84 from u8_is (by omega) h84] at c2 hm1
            clear hc h84 hm1
            go_wp2_with fail
            refine (c1 _).mono ?_
            rintro r w' ⟨rfl, rfl⟩
            go_wp2_with fail
            refine (c2 _).mono ?_
            rintro r w' ⟨rfl, rfl⟩
            have hm := h3.1
            go_wp2_with (first | (refine wpList_load_row rfl 70 (.tmp 4) rfl (g + 1) rfl 70 (mcs { X with d := V }) (0, 0) _ hm Tryz.underlying70 rfl info_mo ?_) | fail)
            refine (afterDay_any s ({ X with d := V }) (i + C + 1) _ (by omega) (by omega)).mono ?_
            rintro r w5 ⟨hb5, Y, b, rfl, hTb⟩
            rw [h] at hTb
            have HT := Lib.hid hTb
            have h5 := h3.next hb5
            obtain ⟨yr, Xr, hr⟩ := h5.2.1
            have hz := h5.ret Y
            clear hm hTb hb5
            go_wp2_with (first | (refine wpList_store_row rfl 70 (.tmp 2) (.tmp 90) rfl (g) (mcs Y) rfl rfl 70 _ hr info_mo rfl (vcs_one _ _) ?_) | fail)
            try simp only [Exit.jumpsT]
            exact bodyPost_ret (ret_mo Tryz.results56 _ rfl rfl hz.1) rfl ⟨hz.2, Y, b, rfl, HT.out⟩
          · rw [if_neg h84] at h
            have hx84 : ((s[i + C].toNat : Int) == 84) = false := neC (k := 84) (by omega) h84
            by_cases h116 : s[i + C] = 116
            · rw [if_pos h116] at h
              rw [show s[i + C].toNat = 116 from u8_is (by omega) h116] at c2 hm1
              clear hc h116 hm1 h84 hx84
              go_wp2_with fail
              refine (c1 _).mono ?_
              rintro r w' ⟨rfl, rfl⟩
              go_wp2_with fail
              refine (c2 _).mono ?_
              rintro r w' ⟨rfl, rfl⟩
              have hm := h3.1
              go_wp2_with (first | (refine wpList_load_row rfl 70 (.tmp 4) rfl (g + 1) rfl 70 (mcs { X with d := V }) (0, 0) _ hm Tryz.underlying70 rfl info_mo ?_) | fail)
              refine (afterDay_any s ({ X with d := V }) (i + C + 1) _ (by omega) (by omega)).mono ?_
              rintro r w5 ⟨hb5, Y, b, rfl, hTb⟩
              rw [h] at hTb
              have HT := Lib.hid hTb
              have h5 := h3.next hb5
              obtain ⟨yr, Xr, hr⟩ := h5.2.1
              have hz := h5.ret Y
              clear hm hTb hb5
              go_wp2_with (first | (refine wpList_store_row rfl 70 (.tmp 2) (.tmp 90) rfl (g) (mcs Y) rfl rfl 70 _ hr info_mo rfl (vcs_one _ _) ?_) | fail)
              try simp only [Exit.jumpsT]
              exact bodyPost_ret (ret_mo Tryz.results56 _ rfl rfl hz.1) rfl ⟨hz.2, Y, b, rfl, HT.out⟩
            · rw [if_neg h116] at h
              have hx116 : ((s[i + C].toNat : Int) == 116) = false := neC (k := 116) (by omega) h116
              have c3 := fun W => bl_any s[i + C] W
              by_cases hb : M.bB s[i + C] = true
              · rw [if_pos hb] at h
                rw [hb] at c3
                generalize s[i + C].toNat = n at *
                clear hb hc h84 h116
                go_wp2_with fail
                refine (c1 _).mono ?_
                rintro r w' ⟨rfl, rfl⟩
                go_wp2_with fail
                refine (c2 _).mono ?_
                rintro r w' ⟨rfl, rfl⟩
                go_wp2_with fail
                refine (c3 _).mono ?_
                rintro r w' ⟨rfl, rfl⟩
                go_wp2
                go_step3
                refine ⟨⟨{ X with d := V }, i + C + 1, ⟨_, _, _, _, _, _, _, _, _, _⟩, ⟨_, _, _, _, _, _, _, _, _, _⟩, ⟨_, _, _, _, _, _, _, _, _, _⟩, ⟨_, _, _, _, _, _, _, _, _, _⟩, ⟨_, _, _, _, _, _, _, _, _, _⟩, ⟨_, _, _, _, _, _, _, _, _, _⟩, ⟨_, _, _, _, _, _, _, _, _, _⟩, ⟨_, _, _, _, _, _, _, _, _, _⟩, ⟨_, _, _, _, _, _, _, _, _, _⟩, ⟨_, _, _, _, _, _, _, _, _, _⟩, ⟨_, _, _, _, _, _, undef, undef, undef, undef⟩, rfl, h3, by omega, Or.inr (Or.inr ⟨rfl, h⟩)⟩, ?_⟩
                simp [intOf]
                omega
              · rw [if_neg hb] at h
                rw [show M.bB s[i + C] = false by simpa using hb] at c3
                generalize s[i + C].toNat = n at *
                have HT : Hid (none = T) := h
                clear hb hc h84 h116 h
                go_wp2_with fail
                refine (c1 _).mono ?_
                rintro r w' ⟨rfl, rfl⟩
                go_wp2_with fail
                refine (c2 _).mono ?_
                rintro r w' ⟨rfl, rfl⟩
                go_wp2_with fail
                refine (c3 _).mono ?_
                rintro r w' ⟨rfl, rfl⟩
                obtain ⟨yr, Xr, hr⟩ := h3.2.1
                have hz := h3.ret { X with d := V }
                have hm := h3.1
                go_wp2_with (first | (refine wpList_load_row rfl 70 (.tmp 4) rfl (g + 1) rfl 70 (mcs { X with d := V }) (0, 0) _ hm Tryz.underlying70 rfl info_mo ?_) | (refine wpList_store_row rfl 70 (.tmp 2) (.tmp 97) rfl (g) (mcs { X with d := V }) rfl rfl 70 _ hr info_mo rfl (vcs_one _ _) ?_) | fail)
                try simp only [Exit.jumpsT]
                exact bodyPost_ret (ret_mo Tryz.results56 _ rfl rfl hz.1) rfl (Got.no ({ X with d := V }) hz.2 HT.out)
      · have c2 := fun W => at_out s (i + C) W hl2 (by omega)
        by_cases h0 : C = 0
        · rw [if_pos h0] at h
          subst h0
          have HT : Hid (none = T) := h
          clear h
          go_wp2_with fail
          refine (c1 _).mono ?_
          rintro r w' ⟨rfl, rfl⟩
          go_wp2_with fail
          refine (c2 _).mono ?_
          rintro r w' ⟨rfl, rfl⟩
          obtain ⟨yr, Xr, hr⟩ := h3.2.1
          have hz := h3.ret { X with d := V }
          have hm := h3.1
          go_wp2_with (first | (refine wpList_load_row rfl 70 (.tmp 4) rfl (g + 1) rfl 70 (mcs { X with d := V }) (0, 0) _ hm Tryz.underlying70 rfl info_mo ?_) | (refine wpList_store_row rfl 70 (.tmp 2) (.tmp 70) rfl (g) (mcs { X with d := V }) rfl rfl 70 _ hr info_mo rfl (vcs_one _ _) ?_) | fail)
          try simp only [Exit.jumpsT]
          exact bodyPost_ret (ret_mo Tryz.results56 _ rfl rfl hz.1) rfl (Got.no ({ X with d := V }) hz.2 HT.out)
        · rw [if_neg h0, drop_nil s (i + C) (by omega), M.rTail] at h
          have hx0 : ((C : Int) == 0) = false := beq_eq_false_iff_ne.2 (by omega)
          clear h0
          by_cases h10 : s.size = 10
          · rw [if_pos h10] at h
            have HT : Hid (some _ = T) := h
            have hy10 : ((s.size : Int) == 10) = true := beq_iff_eq.2 (by omega)
            have H10 := Lib.hid h10
            clear h h10
            go_wp2_with fail
            refine (c1 _).mono ?_
            rintro r w' ⟨rfl, rfl⟩
            go_wp2_with fail
            refine (c2 _).mono ?_
            rintro r w' ⟨rfl, rfl⟩
            obtain ⟨yr, Xr, hr⟩ := h3.2.1
            have hz := h3.ret { X with d := V }
            have hm := h3.1
            go_wp2_with (first | (refine wpList_load_row rfl 70 (.tmp 4) rfl (g + 1) rfl 70 (mcs { X with d := V }) (0, 0) _ hm Tryz.underlying70 rfl info_mo ?_) | (refine wpList_store_row rfl 70 (.tmp 2) (.tmp 74) rfl (g) (mcs { X with d := V }) rfl rfl 70 _ hr info_mo rfl (vcs_one _ _) ?_) | fail)
            try simp only [Exit.jumpsT]
            exact bodyPost_ret (ret_mo Tryz.results56 _ rfl rfl hz.1) rfl (Got.yes ({ X with d := V }) hz.2 HT.out)
          · rw [if_neg h10] at h
            have HT : Hid (none = T) := h
            have hy10 : ((s.size : Int) == 10) = false := beq_eq_false_iff_ne.2 (by omega)
            clear h h10
            go_wp2_with fail
            refine (c1 _).mono ?_
            rintro r w' ⟨rfl, rfl⟩
            go_wp2_with fail
            refine (c2 _).mono ?_
            rintro r w' ⟨rfl, rfl⟩
            obtain ⟨yr, Xr, hr⟩ := h3.2.1
            have hz := h3.ret { X with d := V }
            have hm := h3.1
            go_wp2_with (first | (refine wpList_load_row rfl 70 (.tmp 4) rfl (g + 1) rfl 70 (mcs { X with d := V }) (0, 0) _ hm Tryz.underlying70 rfl info_mo ?_) | (refine wpList_store_row rfl 70 (.tmp 2) (.tmp 74) rfl (g) (mcs { X with d := V }) rfl rfl 70 _ hr info_mo rfl (vcs_one _ _) ?_) | fail)
            try simp only [Exit.jumpsT]
            exact bodyPost_ret (ret_mo Tryz.results56 _ rfl rfl hz.1) rfl (Got.no ({ X with d := V }) hz.2 HT.out)
    · refine ⟨_, rfl, ?_⟩
      by_cases hl : i < s.size
      · have c1 := fun W => at_in s i W hl (by omega)
        have c2 := fun W => bl_any s[i] W
        rw [drop_cons s i hl, M.rBl] at h
        by_cases hb : M.bB s[i] = true
        · rw [if_pos hb] at h
          rw [hb] at c2
          generalize s[i].toNat = n at *
          clear hb
          go_wp2_with fail
          refine (c1 _).mono ?_
          rintro r w' ⟨rfl, rfl⟩
          go_wp2_with fail
          refine (c2 _).mono ?_
          rintro r w' ⟨rfl, rfl⟩
          go_wp2
          go_step3
          refine ⟨⟨X, i + 1, ⟨_, _, _, _, _, _, _, _, _, _⟩, ⟨_, _, _, _, _, _, _, _, _, _⟩, ⟨_, _, _, _, _, _, _, _, _, _⟩, ⟨_, _, _, _, _, _, _, _, _, _⟩, ⟨_, _, _, _, _, _, _, _, _, _⟩, ⟨_, _, _, _, _, _, _, _, _, _⟩, ⟨_, _, _, _, _, _, _, _, _, _⟩, ⟨_, _, _, _, _, _, _, _, _, _⟩, ⟨_, _, _, _, _, _, _, _, _, _⟩, ⟨_, _, _, _, _, _, _, _, _, _⟩, ⟨_, _, _, _, _, _, undef, undef, undef, undef⟩, rfl, h2, by omega, Or.inr (Or.inr ⟨rfl, h⟩)⟩, ?_⟩
          simp [intOf]
          omega
        · rw [if_neg hb, ← drop_cons s i hl] at h
          rw [show M.bB s[i] = false by simpa using hb] at c2
          generalize s[i].toNat = n at *
          clear hb
          go_wp2_with fail
          refine (c1 _).mono ?_
          rintro r w' ⟨rfl, rfl⟩
          go_wp2_with fail
          refine (c2 _).mono ?_
          rintro r w' ⟨rfl, rfl⟩
          have hm := h2.1
          go_wp2_with (first | (refine wpList_load_row rfl 70 (.tmp 4) rfl (g + 1) rfl 70 (mcs X) (0, 0) _ hm Tryz.underlying70 rfl info_mo ?_) | fail)
          refine (afterDay_any s (X) i _ (by omega) (by omega)).mono ?_
          rintro r w5 ⟨hb5, Y, b, rfl, hTb⟩
          rw [h] at hTb
          have HT := Lib.hid hTb
          have h5 := h2.next hb5
          obtain ⟨yr, Xr, hr⟩ := h5.2.1
          have hz := h5.ret Y
          clear hm hTb hb5
          go_wp2_with (first | (refine wpList_store_row rfl 70 (.tmp 2) (.tmp 108) rfl (g) (mcs Y) rfl rfl 70 _ hr info_mo rfl (vcs_one _ _) ?_) | fail)
          try simp only [Exit.jumpsT]
          exact bodyPost_ret (ret_mo Tryz.results56 _ rfl rfl hz.1) rfl ⟨hz.2, Y, b, rfl, HT.out⟩
      · have c1 := fun W => at_out s i W hl (by omega)
        have c2 := fun W => bl_end W
        rw [drop_nil s i (by omega), M.rBl, ← drop_nil s i (by omega)] at h
        go_wp2_with fail
        refine (c1 _).mono ?_
        rintro r w' ⟨rfl, rfl⟩
        go_wp2_with fail
        refine (c2 _).mono ?_
        rintro r w' ⟨rfl, rfl⟩
        have hm := h2.1
        go_wp2_with (first | (refine wpList_load_row rfl 70 (.tmp 4) rfl (g + 1) rfl 70 (mcs X) (0, 0) _ hm Tryz.underlying70 rfl info_mo ?_) | fail)
        refine (afterDay_any s (X) i _ (by omega) (by omega)).mono ?_
        rintro r w5 ⟨hb5, Y, b, rfl, hTb⟩
        rw [h] at hTb
        have HT := Lib.hid hTb
        have h5 := h2.next hb5
        obtain ⟨yr, Xr, hr⟩ := h5.2.1
        have hz := h5.ret Y
        clear hm hTb hb5
        go_wp2_with (first | (refine wpList_store_row rfl 70 (.tmp 2) (.tmp 108) rfl (g) (mcs Y) rfl rfl 70 _ hr info_mo rfl (vcs_one _ _) ?_) | fail)
        try simp only [Exit.jumpsT]
        exact bodyPost_ret (ret_mo Tryz.results56 _ rfl rfl hz.1) rfl ⟨hz.2, Y, b, rfl, HT.out⟩
  · intro hp
    clear hp
    go_wp2_with (first | (refine wpList_buildTo rfl 70 _ rfl (some 8) rfl (mcs M.M0) (by kernel_rfl) ?_) | (refine wpList_store_row rfl 70 (.tmp 4) (.tmp 8) rfl (w.heap.size + 1) (mcs M.M0) rfl rfl 70 _ (heap_alloc2_new w _ _) info_mo rfl (vcs_one _ _) ?_) | fail)
    rw [HG.out]
    generalize (((w.alloc (Obj.cells _ 70)).alloc _).setRow _ _) = W1 at H2 ⊢
    unfold M.rd at hT
    have h00 : 0 ≤ s.size := Nat.zero_le _
    rw [show (s.data.toList.drop 0).length = s.size from (sz_list s).symm] at hT
    obtain ⟨C, hC⟩ : ∃ C, M.cnt 4 (s.data.toList.drop 0) = C := ⟨_, rfl⟩
    obtain ⟨V, hV⟩ : ∃ V, M.nv 4 0 (s.data.toList.drop 0) = V := ⟨_, rfl⟩
    have c1 := fun W => number_any s 0 4 W (by omega) h00 (by omega)
    have hC2 := M.cnt_le 4 (s.data.toList.drop 0)
    have hCr := cnt_room s 0 4 h00
    have hV2 := M.nv4_lt (s.data.toList.drop 0)
    rw [hC] at c1 hT hC2 hCr
    rw [hV] at c1 hT hV2
    simp only [drop_more] at hT
    clear hC hV
    obtain ⟨k0, k1, k2, k3, k4, k5, k6, k7, k8, k9, k10⟩ := H2.1.cells
    have f0 := H2.froz 0
    clear k1 k2 k3 k4 k5 k6 k7 k8 k9 k10
    have h3 := H2.put 0 (.int .i64 (V : Nat)) (Y := { M.M0 with y := V }) rfl
    by_cases h0 : C = 4
    · rw [if_pos h0] at hT
      subst h0
      by_cases hl2 : 4 < s.size
      · have c2 := fun W => at_in s 4 W hl2 (by omega)
        rw [show (0 + 4 : Nat) = 4 from rfl, head_in s 4 hl2] at hT
        have hc := s[4].toNat_lt
        by_cases h45 : s[4] = 45
        · rw [if_pos (congrArg some h45)] at hT
          rw [show s[4].toNat = 45 from u8_is (by omega) h45] at c2
          clear hc h45
          go_wp2_with fail
          refine (c1 _).mono ?_
          rintro r w' ⟨rfl, rfl⟩
          go_wp2_with fail
          refine (c2 _).mono ?_
          rintro r w' ⟨rfl, rfl⟩
          go_wp2
          go_step3
          exact ⟨{ M.M0 with y := V }, 5, ⟨_, _, _, _, _, _, _, _, _, _⟩, ⟨_, _, _, _, _, _, _, _, _, _⟩, ⟨_, _, _, _, _, _, _, _, _, _⟩, ⟨_, _, _, _, _, _, _, _, _, _⟩, ⟨_, _, _, _, _, _, _, _, _, _⟩, ⟨_, _, _, _, _, _, _, _, _, _⟩, ⟨_, _, _, _, _, _, _, _, _, _⟩, ⟨_, _, _, _, _, _, _, _, _, _⟩, ⟨_, _, _, _, _, _, _, _, _, _⟩, ⟨_, _, _, _, _, _, _, _, _, _⟩, ⟨_, _, _, _, _, _, undef, undef, undef, undef⟩, rfl, h3, by omega, Or.inl ⟨rfl, hT⟩⟩
        · rw [if_neg (fun e => h45 (Option.some.inj e))] at hT
          have hx45 : ((s[4].toNat : Int) == 45) = false := neC (k := 45) (by omega) h45
          generalize s[4].toNat = n at *
          have HT : Hid (none = T) := hT
          clear hc h45 hT
          go_wp2_with fail
          refine (c1 _).mono ?_
          rintro r w' ⟨rfl, rfl⟩
          go_wp2_with fail
          refine (c2 _).mono ?_
          rintro r w' ⟨rfl, rfl⟩
          obtain ⟨yr, Xr, hr⟩ := h3.2.1
          have hz := h3.ret { M.M0 with y := V }
          have hm := h3.1
          go_wp2_with (first | (refine wpList_load_row rfl 70 (.tmp 4) rfl (g + 1) rfl 70 (mcs { M.M0 with y := V }) (0, 0) _ hm Tryz.underlying70 rfl info_mo ?_) | (refine wpList_store_row rfl 70 (.tmp 2) (.tmp 30) rfl (g) (mcs { M.M0 with y := V }) rfl rfl 70 _ hr info_mo rfl (vcs_one _ _) ?_) | fail)
          try simp only [Exit.jumpsT]
          exact bodyPost_ret (ret_mo Tryz.results56 _ rfl rfl hz.1) rfl (Got.no ({ M.M0 with y := V }) hz.2 HT.out)
      · have c2 := fun W => at_out s 4 W hl2 (by omega)
        rw [show (0 + 4 : Nat) = 4 from rfl, head_out s 4 hl2, if_neg (by simp)] at hT
        have HT : Hid (none = T) := hT
        clear hT
        go_wp2_with fail
        refine (c1 _).mono ?_
        rintro r w' ⟨rfl, rfl⟩
        go_wp2_with fail
        refine (c2 _).mono ?_
        rintro r w' ⟨rfl, rfl⟩
        obtain ⟨yr, Xr, hr⟩ := h3.2.1
        have hz := h3.ret { M.M0 with y := V }
        have hm := h3.1
        go_wp2_with (first | (refine wpList_load_row rfl 70 (.tmp 4) rfl (g + 1) rfl 70 (mcs { M.M0 with y := V }) (0, 0) _ hm Tryz.underlying70 rfl info_mo ?_) | (refine wpList_store_row rfl 70 (.tmp 2) (.tmp 30) rfl (g) (mcs { M.M0 with y := V }) rfl rfl 70 _ hr info_mo rfl (vcs_one _ _) ?_) | fail)
        try simp only [Exit.jumpsT]
        exact bodyPost_ret (ret_mo Tryz.results56 _ rfl rfl hz.1) rfl (Got.no ({ M.M0 with y := V }) hz.2 HT.out)
    · rw [if_neg h0] at hT
      have HT : Hid (none = T) := hT
      have hx4 : ((C : Int) == 4) = false := beq_eq_false_iff_ne.2 (by omega)
      clear hT h0
      go_wp2_with fail
      refine (c1 _).mono ?_
      rintro r w' ⟨rfl, rfl⟩
      obtain ⟨yr, Xr, hr⟩ := h3.2.1
      have hz := h3.ret { M.M0 with y := V }
      have hm := h3.1
      go_wp2_with (first | (refine wpList_load_row rfl 70 (.tmp 4) rfl (g + 1) rfl 70 (mcs { M.M0 with y := V }) (0, 0) _ hm Tryz.underlying70 rfl info_mo ?_) | (refine wpList_store_row rfl 70 (.tmp 2) (.tmp 30) rfl (g) (mcs { M.M0 with y := V }) rfl rfl 70 _ hr info_mo rfl (vcs_one _ _) ?_) | fail)
      try simp only [Exit.jumpsT]
      exact bodyPost_ret (ret_mo Tryz.results56 _ rfl rfl hz.1) rfl (Got.no ({ M.M0 with y := V }) hz.2 HT.out)
end Go.Proofs.YtipgipgehnhgkaaGreatDoor.S10
