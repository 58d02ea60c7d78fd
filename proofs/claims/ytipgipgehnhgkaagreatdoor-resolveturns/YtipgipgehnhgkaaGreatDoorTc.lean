/- Walks: stamp's afterDay: the machine of the time. -/
import Derived.Test.YtipgipgehnhgkaaGreatDoorTb
set_option linter.unusedVariables false
namespace Go.Proofs.YtipgipgehnhgkaaGreatDoor.S10
open Go.RowKit

theorem take_more (s : ByteArray) (f i : Nat) (hf : f ≤ i) (hi : i < s.size) : (s.data.toList.drop f).take (i - f) ++ [s[i]] = (s.data.toList.drop f).take (i + 1 - f) := by
  rw [show i + 1 - f = (i - f) + 1 by omega]
  have hl := sz_list s
  rw [List.take_succ_eq_append_getElem (by rw [List.length_drop]; omega)]
  congr 2
  rw [List.getElem_drop]
  have e : f + (i - f) = i := by omega
  have h1 := get_list s i hi
  have h2 : s.data.toList[f + (i - f)]? = some s[i] := by rw [e]; exact h1
  rw [List.getElem?_eq_getElem (by omega)] at h2
  exact (Option.some.inj h2).symm
theorem extract_is (s : ByteArray) (f i : Nat) : s.extract f i = bA ((s.data.toList.drop f).take (i - f)) := by
  apply eq_bA
  simp [ByteArray.data_extract, Array.toList_extract, List.extract_eq_take_drop]
/-- What holds at afterDay's labels. -/
def JD (s : ByteArray) (T : Option M.Mo) (w0 : World) (g : Nat) (l : Nat) (a : Act) (w' : World) : Prop :=
  ∃ (X : M.Mo) (i : Nat) (u9 : Value) (p0 p1 p2 p3 p4 p5 p6 p7 p8 p9 : V10), a = { tmps := #[p0.a, .string s, .int .i64 (i : Nat), .pointer (some ⟨g, 0, none⟩), p0.b, p0.c, .pointer (some ⟨g + 1, 0, none⟩), p0.d, p0.e, u9, p0.f, p0.g, p0.h, p0.i, p0.j, p1.a, p1.b, p1.c, p1.d, p1.e, p1.f, p1.g, p1.h, p1.i, p1.j, p2.a, p2.b, p2.c, p2.d, p2.e, p2.f, p2.g, p2.h, p2.i, p2.j, p3.a, p3.b, p3.c, p3.d, p3.e, p3.f, p3.g, p3.h, p3.i, p3.j, p4.a, p4.b, p4.c, p4.d, p4.e, p4.f, p4.g, p4.h, p4.i, p4.j, p5.a, p5.b, p5.c, p5.d, p5.e, p5.f, p5.g, p5.h, p5.i, p5.j, p6.a, p6.b, p6.c, p6.d, p6.e, p6.f, p6.g, p6.h, p6.i, p6.j, p7.a, p7.b, p7.c, p7.d, p7.e, p7.f, p7.g, p7.h, p7.i, p7.j, p8.a, p8.b, p8.c, p8.d, p8.e, p8.f, p8.g, p8.h, p8.i, p8.j, p9.a, p9.b, p9.c], defers := [] } ∧ Two w0 g X w' ∧ i ≤ s.size ∧
    ((l = 0 ∧ M.aMin X (s.data.toList.drop i) = T) ∨ (l = 1 ∧ M.aSec X (s.data.toList.drop i) = T) ∨ (l = 2 ∧ ∃ f : Nat, u9 = .int .i64 (f : Nat) ∧ f ≤ i ∧ M.aPl X ((s.data.toList.drop f).take (i - f)) (s.data.toList.drop i) = T))
set_option maxRecDepth 1000000 in
set_option maxHeartbeats 8000000 in
theorem afterDay_any (s : ByteArray) (X0 : M.Mo) (i0 : Nat) (w : World) (hs : s.size ≤ 1000) (hi0 : i0 ≤ s.size) :
    Calls Tryz.prog 102 #[.agg (mcs X0), .string s, .int .i64 (i0 : Nat)] w (Got w (M.aDay X0 (s.data.toList.drop i0))) := by
  obtain ⟨T, hT⟩ : ∃ T, M.aDay X0 (s.data.toList.drop i0) = T := ⟨_, rfl⟩
  rw [hT]
  have H2 := Two.start w X0 _ ⟨0, M.M0, zero_mo⟩
  obtain ⟨g, hg⟩ : ∃ g, w.heap.size = g := ⟨_, rfl⟩
  go_enter Tryz.func102, Tryz.ntmps102
  go_wp2_with fail
  rw [hg] at H2
  generalize ((w.alloc (Obj.cells (mcs X0) 70)).alloc _) = W1 at H2 ⊢
  clear hg
  refine wp_scope_runT (JD s T w g) (fun _ a _ => 2000 - (intOf (a.tmps.getD 2 undef)).toNat) ?_ ?_
  · rintro l a w' ⟨X, i, u9, ⟨u0, u4, u5, u7, u8, u10, u11, u12, u13, u14⟩, ⟨u15, u16, u17, u18, u19, u20, u21, u22, u23, u24⟩, ⟨u25, u26, u27, u28, u29, u30, u31, u32, u33, u34⟩, ⟨u35, u36, u37, u38, u39, u40, u41, u42, u43, u44⟩, ⟨u45, u46, u47, u48, u49, u50, u51, u52, u53, u54⟩, ⟨u55, u56, u57, u58, u59, u60, u61, u62, u63, u64⟩, ⟨u65, u66, u67, u68, u69, u70, u71, u72, u73, u74⟩, ⟨u75, u76, u77, u78, u79, u80, u81, u82, u83, u84⟩, ⟨u85, u86, u87, u88, u89, u90, u91, u92, u93, u94⟩, ⟨u95, u96, u97, _, _, _, _, _, _, _⟩, rfl, h2, hi, h⟩
    rcases h with ⟨rfl, h⟩ | ⟨rfl, h⟩ | ⟨rfl, f, rfl, hf, h⟩
    · refine ⟨_, rfl, ?_⟩
      unfold M.aMin at h
      obtain ⟨C, hC⟩ : ∃ C, M.cnt 2 (s.data.toList.drop i) = C := ⟨_, rfl⟩
      obtain ⟨V, hV⟩ : ∃ V, M.nv 2 0 (s.data.toList.drop i) = V := ⟨_, rfl⟩
      have c1 := fun W => number_any s i 2 W (by omega) hi (by omega)
      have hC2 := M.cnt_le 2 (s.data.toList.drop i)
      have hCr := cnt_room s i 2 hi
      have hV2 := M.nv2_lt (s.data.toList.drop i)
      rw [hC] at c1 h hC2 hCr
      rw [hV] at c1 h hV2
      simp only [drop_more] at h
      clear hC hV
      obtain ⟨k0, k1, k2, k3, k4, k5, k6, k7, k8, k9, k10⟩ := h2.1.cells
      have f5 := h2.froz 5
      clear k0 k1 k2 k3 k4 k6 k7 k8 k9 k10
      have h3 := h2.put 5 (.int .i64 (V : Nat)) (Y := { X with mi := V }) rfl
      by_cases h0 : C = 2
      · rw [if_pos h0] at h
        subst h0
        by_cases hl2 : i + 2 < s.size
        · have c2 := fun W => at_in s (i + 2) W hl2 (by omega)
          rw [head_in s _ hl2] at h
          have hc := s[i + 2].toNat_lt
          by_cases h58 : s[i + 2] = 58
          · rw [if_pos (congrArg some h58)] at h
            rw [show s[i + 2].toNat = 58 from u8_is (by omega) h58] at c2
            clear hc h58
            go_wp2_with fail
            refine (c1 _).mono ?_
            rintro r w' ⟨rfl, rfl⟩
            go_wp2_with fail
            refine (c2 _).mono ?_
            rintro r w' ⟨rfl, rfl⟩
            go_wp2
            go_step3
            refine ⟨⟨{ X with mi := V }, i + 3, _, ⟨_, _, _, _, _, _, _, _, _, _⟩, ⟨_, _, _, _, _, _, _, _, _, _⟩, ⟨_, _, _, _, _, _, _, _, _, _⟩, ⟨_, _, _, _, _, _, _, _, _, _⟩, ⟨_, _, _, _, _, _, _, _, _, _⟩, ⟨_, _, _, _, _, _, _, _, _, _⟩, ⟨_, _, _, _, _, _, _, _, _, _⟩, ⟨_, _, _, _, _, _, _, _, _, _⟩, ⟨_, _, _, _, _, _, _, _, _, _⟩, ⟨_, _, _, undef, undef, undef, undef, undef, undef, undef⟩, rfl, h3, by omega, Or.inr (Or.inl ⟨rfl, h⟩)⟩, ?_⟩
            simp [intOf]
            omega
          · rw [if_neg (fun e => h58 (Option.some.inj e))] at h
            have hx58 : ((s[i + 2].toNat : Int) == 58) = false := neC (k := 58) (by omega) h58
            generalize s[i + 2].toNat = n at *
            have HT : Hid (none = T) := h
            clear hc h58 h
            go_wp2_with fail
            refine (c1 _).mono ?_
            rintro r w' ⟨rfl, rfl⟩
            go_wp2_with fail
            refine (c2 _).mono ?_
            rintro r w' ⟨rfl, rfl⟩
            obtain ⟨yr, Xr, hr⟩ := h3.2.1
            have hz := h3.ret { X with mi := V }
            have hm := h3.1
            go_wp2_with (first | (refine wpList_load_row rfl 70 (.tmp 3) rfl g rfl 70 (mcs { X with mi := V }) (0, 0) _ hm Tryz.underlying70 rfl info_mo ?_) | (refine wpList_store_row rfl 70 (.tmp 6) (.tmp 52) rfl (g + 1) (mcs { X with mi := V }) rfl rfl 70 _ hr info_mo rfl (vcs_one _ _) ?_) | fail)
            try simp only [Exit.jumpsT]
            exact bodyPost_ret (ret_mo Tryz.results102 _ rfl rfl hz.1) rfl (Got.no ({ X with mi := V }) hz.2 HT.out)
        · have c2 := fun W => at_out s (i + 2) W hl2 (by omega)
          rw [head_out s _ hl2, if_neg (by simp)] at h
          have HT : Hid (none = T) := h
          clear h
          go_wp2_with fail
          refine (c1 _).mono ?_
          rintro r w' ⟨rfl, rfl⟩
          go_wp2_with fail
          refine (c2 _).mono ?_
          rintro r w' ⟨rfl, rfl⟩
          obtain ⟨yr, Xr, hr⟩ := h3.2.1
          have hz := h3.ret { X with mi := V }
          have hm := h3.1
          go_wp2_with (first | (refine wpList_load_row rfl 70 (.tmp 3) rfl g rfl 70 (mcs { X with mi := V }) (0, 0) _ hm Tryz.underlying70 rfl info_mo ?_) | (refine wpList_store_row rfl 70 (.tmp 6) (.tmp 52) rfl (g + 1) (mcs { X with mi := V }) rfl rfl 70 _ hr info_mo rfl (vcs_one _ _) ?_) | fail)
          try simp only [Exit.jumpsT]
          exact bodyPost_ret (ret_mo Tryz.results102 _ rfl rfl hz.1) rfl (Got.no ({ X with mi := V }) hz.2 HT.out)
      · rw [if_neg h0] at h
        have HT : Hid (none = T) := h
        have hx2 : ((C : Int) == 2) = false := beq_eq_false_iff_ne.2 (by omega)
        clear h h0
        go_wp2_with fail
        refine (c1 _).mono ?_
        rintro r w' ⟨rfl, rfl⟩
        obtain ⟨yr, Xr, hr⟩ := h3.2.1
        have hz := h3.ret { X with mi := V }
        have hm := h3.1
        go_wp2_with (first | (refine wpList_load_row rfl 70 (.tmp 3) rfl g rfl 70 (mcs { X with mi := V }) (0, 0) _ hm Tryz.underlying70 rfl info_mo ?_) | (refine wpList_store_row rfl 70 (.tmp 6) (.tmp 52) rfl (g + 1) (mcs { X with mi := V }) rfl rfl 70 _ hr info_mo rfl (vcs_one _ _) ?_) | fail)
        try simp only [Exit.jumpsT]
        exact bodyPost_ret (ret_mo Tryz.results102 _ rfl rfl hz.1) rfl (Got.no ({ X with mi := V }) hz.2 HT.out)
    · refine ⟨_, rfl, ?_⟩
      unfold M.aSec at h
      obtain ⟨C, hC⟩ : ∃ C, M.cnt 2 (s.data.toList.drop i) = C := ⟨_, rfl⟩
      obtain ⟨V, hV⟩ : ∃ V, M.nv 2 0 (s.data.toList.drop i) = V := ⟨_, rfl⟩
      have c1 := fun W => number_any s i 2 W (by omega) hi (by omega)
      have hC2 := M.cnt_le 2 (s.data.toList.drop i)
      have hCr := cnt_room s i 2 hi
      have hV2 := M.nv2_lt (s.data.toList.drop i)
      rw [hC] at c1 h hC2 hCr
      rw [hV] at c1 h hV2
      simp only [drop_more] at h
      clear hC hV
      obtain ⟨k0, k1, k2, k3, k4, k5, k6, k7, k8, k9, k10⟩ := h2.1.cells
      have f6 := h2.froz 6
      clear k0 k1 k2 k3 k4 k5 k7 k8 k9 k10
      have h3 := h2.put 6 (.int .i64 (V : Nat)) (Y := { X with se := V }) rfl
      by_cases h0 : C = 2
      · rw [if_pos h0] at h
        subst h0
        by_cases hl2 : i + 2 < s.size
        · have c2 := fun W => at_in s (i + 2) W hl2 (by omega)
          rw [head_in s _ hl2] at h
          have hc := s[i + 2].toNat_lt
          by_cases h46 : s[i + 2] = 46
          · rw [if_pos (congrArg some h46)] at h
            rw [show s[i + 2].toNat = 46 from u8_is (by omega) h46] at c2
            clear hc h46
            go_wp2_with fail
            refine (c1 _).mono ?_
            rintro r w' ⟨rfl, rfl⟩
            go_wp2_with fail
            refine (c2 _).mono ?_
            rintro r w' ⟨rfl, rfl⟩
            go_wp2
            go_step3
            refine ⟨⟨{ X with se := V }, i + 3, _, ⟨_, _, _, _, _, _, _, _, _, _⟩, ⟨_, _, _, _, _, _, _, _, _, _⟩, ⟨_, _, _, _, _, _, _, _, _, _⟩, ⟨_, _, _, _, _, _, _, _, _, _⟩, ⟨_, _, _, _, _, _, _, _, _, _⟩, ⟨_, _, _, _, _, _, _, _, _, _⟩, ⟨_, _, _, _, _, _, _, _, _, _⟩, ⟨_, _, _, _, _, _, _, _, _, _⟩, ⟨_, _, _, _, _, _, _, _, _, _⟩, ⟨_, _, _, undef, undef, undef, undef, undef, undef, undef⟩, rfl, h3, by omega, Or.inr (Or.inr ⟨rfl, i + 3, rfl, Nat.le_refl _, by rw [Nat.sub_self, List.take_zero]; exact h⟩)⟩, ?_⟩
            simp [intOf]
            omega
          · rw [if_neg (fun e => h46 (Option.some.inj e))] at h
            have hx46 : ((s[i + 2].toNat : Int) == 46) = false := neC (k := 46) (by omega) h46
            generalize s[i + 2].toNat = n at *
            clear hc h46
            go_wp2_with fail
            refine (c1 _).mono ?_
            rintro r w' ⟨rfl, rfl⟩
            go_wp2_with fail
            refine (c2 _).mono ?_
            rintro r w' ⟨rfl, rfl⟩
            have hm := h3.1
            go_wp2_with (first | (refine wpList_load_row rfl 70 (.tmp 3) rfl g rfl 70 (mcs { X with se := V }) (0, 0) _ hm Tryz.underlying70 rfl info_mo ?_) | fail)
            refine (afterClock_any s ({ X with se := V }) (i + 2) _ (by omega) (by omega)).mono ?_
            rintro r w5 ⟨hb5, Y, b, rfl, hTb⟩
            rw [h] at hTb
            have HT := Lib.hid hTb
            have h5 := h3.next hb5
            obtain ⟨yr, Xr, hr⟩ := h5.2.1
            have hz := h5.ret Y
            clear hm hTb hb5
            go_wp2_with (first | (refine wpList_store_row rfl 70 (.tmp 6) (.tmp 79) rfl (g + 1) (mcs Y) rfl rfl 70 _ hr info_mo rfl (vcs_one _ _) ?_) | fail)
            try simp only [Exit.jumpsT]
            exact bodyPost_ret (ret_mo Tryz.results102 _ rfl rfl hz.1) rfl ⟨hz.2, Y, b, rfl, HT.out⟩
        · have c2 := fun W => at_out s (i + 2) W hl2 (by omega)
          rw [head_out s _ hl2, if_neg (by simp)] at h
          go_wp2_with fail
          refine (c1 _).mono ?_
          rintro r w' ⟨rfl, rfl⟩
          go_wp2_with fail
          refine (c2 _).mono ?_
          rintro r w' ⟨rfl, rfl⟩
          have hm := h3.1
          go_wp2_with (first | (refine wpList_load_row rfl 70 (.tmp 3) rfl g rfl 70 (mcs { X with se := V }) (0, 0) _ hm Tryz.underlying70 rfl info_mo ?_) | fail)
          refine (afterClock_any s ({ X with se := V }) (i + 2) _ (by omega) (by omega)).mono ?_
          rintro r w5 ⟨hb5, Y, b, rfl, hTb⟩
          rw [h] at hTb
          have HT := Lib.hid hTb
          have h5 := h3.next hb5
          obtain ⟨yr, Xr, hr⟩ := h5.2.1
          have hz := h5.ret Y
          clear hm hTb hb5
          go_wp2_with (first | (refine wpList_store_row rfl 70 (.tmp 6) (.tmp 79) rfl (g + 1) (mcs Y) rfl rfl 70 _ hr info_mo rfl (vcs_one _ _) ?_) | fail)
          try simp only [Exit.jumpsT]
          exact bodyPost_ret (ret_mo Tryz.results102 _ rfl rfl hz.1) rfl ⟨hz.2, Y, b, rfl, HT.out⟩
      · rw [if_neg h0] at h
        have HT : Hid (none = T) := h
        have hx2 : ((C : Int) == 2) = false := beq_eq_false_iff_ne.2 (by omega)
        have hx3 : ((C : Int) != 2) = true := by simp; omega
        clear h h0
        go_wp2_with fail
        refine (c1 _).mono ?_
        rintro r w' ⟨rfl, rfl⟩
        obtain ⟨yr, Xr, hr⟩ := h3.2.1
        have hz := h3.ret { X with se := V }
        have hm := h3.1
        go_wp2_with (first | (refine wpList_load_row rfl 70 (.tmp 3) rfl g rfl 70 (mcs { X with se := V }) (0, 0) _ hm Tryz.underlying70 rfl info_mo ?_) | (refine wpList_store_row rfl 70 (.tmp 6) (.tmp 66) rfl (g + 1) (mcs { X with se := V }) rfl rfl 70 _ hr info_mo rfl (vcs_one _ _) ?_) | fail)
        try simp only [Exit.jumpsT]
        exact bodyPost_ret (ret_mo Tryz.results102 _ rfl rfl hz.1) rfl (Got.no ({ X with se := V }) hz.2 HT.out)
    · refine ⟨_, rfl, ?_⟩
      obtain ⟨FR, hFR⟩ : ∃ FR, (s.data.toList.drop f).take (i - f) = FR := ⟨_, rfl⟩
      rw [hFR] at h
      have hx := extract_is s f i
      rw [hFR] at hx
      obtain ⟨k0, k1, k2, k3, k4, k5, k6, k7, k8, k9, k10⟩ := h2.1.cells
      have f7 := h2.froz 7
      clear k0 k1 k2 k3 k4 k5 k6 k8 k9 k10
      have h3 := h2.put 7 (.string (bA FR)) (Y := { X with fr := FR }) rfl
      have hf1 : (f : Int) ≤ (i : Int) := by omega
      have hf2 : (i : Int) ≤ (s.size : Int) := by omega
      by_cases hl : i < s.size
      · have c1 := fun W => at_in s i W hl (by omega)
        have c2 := fun W => dig_any s[i] W
        have htm := take_more s f i hf hl
        rw [hFR] at htm
        rw [drop_cons s i hl, M.aPl] at h
        by_cases hd : M.dB s[i] = true
        · rw [if_pos hd, htm] at h
          rw [hd] at c2
          generalize s[i].toNat = n at *
          clear hd htm hx hFR k7 f7 h3
          go_wp2_with fail
          refine (c1 _).mono ?_
          rintro r w' ⟨rfl, rfl⟩
          go_wp2_with fail
          refine (c2 _).mono ?_
          rintro r w' ⟨rfl, rfl⟩
          go_wp2
          go_step3
          refine ⟨⟨X, i + 1, _, ⟨_, _, _, _, _, _, _, _, _, _⟩, ⟨_, _, _, _, _, _, _, _, _, _⟩, ⟨_, _, _, _, _, _, _, _, _, _⟩, ⟨_, _, _, _, _, _, _, _, _, _⟩, ⟨_, _, _, _, _, _, _, _, _, _⟩, ⟨_, _, _, _, _, _, _, _, _, _⟩, ⟨_, _, _, _, _, _, _, _, _, _⟩, ⟨_, _, _, _, _, _, _, _, _, _⟩, ⟨_, _, _, _, _, _, _, _, _, _⟩, ⟨_, _, _, undef, undef, undef, undef, undef, undef, undef⟩, rfl, h2, by omega, Or.inr (Or.inr ⟨rfl, f, rfl, by omega, h⟩)⟩, ?_⟩
          simp [intOf]
          omega
        · rw [if_neg hd, ← drop_cons s i hl] at h
          rw [show M.dB s[i] = false by simpa using hd] at c2
          generalize s[i].toNat = n at *
          clear hd htm hFR
          go_wp2_with fail
          refine (c1 _).mono ?_
          rintro r w' ⟨rfl, rfl⟩
          go_wp2_with fail
          refine (c2 _).mono ?_
          rintro r w' ⟨rfl, rfl⟩
          have hm := h3.1
          go_wp2_with (first | (refine wpList_load_row rfl 70 (.tmp 3) rfl g rfl 70 (mcs { X with fr := FR }) (0, 0) _ hm Tryz.underlying70 rfl info_mo ?_) | fail)
          refine (afterClock_any s ({ X with fr := FR }) i _ (by omega) (by omega)).mono ?_
          rintro r w5 ⟨hb5, Y, b, rfl, hTb⟩
          rw [h] at hTb
          have HT := Lib.hid hTb
          have h5 := h3.next hb5
          obtain ⟨yr, Xr, hr⟩ := h5.2.1
          have hz := h5.ret Y
          clear hm hTb hb5
          go_wp2_with (first | (refine wpList_store_row rfl 70 (.tmp 6) (.tmp 96) rfl (g + 1) (mcs Y) rfl rfl 70 _ hr info_mo rfl (vcs_one _ _) ?_) | fail)
          try simp only [Exit.jumpsT]
          exact bodyPost_ret (ret_mo Tryz.results102 _ rfl rfl hz.1) rfl ⟨hz.2, Y, b, rfl, HT.out⟩
      · have c1 := fun W => at_out s i W hl (by omega)
        have c2 := fun W => dig_end W
        rw [drop_nil s i (by omega), M.aPl, ← drop_nil s i (by omega)] at h
        clear hFR
        go_wp2_with fail
        refine (c1 _).mono ?_
        rintro r w' ⟨rfl, rfl⟩
        go_wp2_with fail
        refine (c2 _).mono ?_
        rintro r w' ⟨rfl, rfl⟩
        have hm := h3.1
        go_wp2_with (first | (refine wpList_load_row rfl 70 (.tmp 3) rfl g rfl 70 (mcs { X with fr := FR }) (0, 0) _ hm Tryz.underlying70 rfl info_mo ?_) | fail)
        refine (afterClock_any s ({ X with fr := FR }) i _ (by omega) (by omega)).mono ?_
        rintro r w5 ⟨hb5, Y, b, rfl, hTb⟩
        rw [h] at hTb
        have HT := Lib.hid hTb
        have h5 := h3.next hb5
        obtain ⟨yr, Xr, hr⟩ := h5.2.1
        have hz := h5.ret Y
        clear hm hTb hb5
        go_wp2_with (first | (refine wpList_store_row rfl 70 (.tmp 6) (.tmp 96) rfl (g + 1) (mcs Y) rfl rfl 70 _ hr info_mo rfl (vcs_one _ _) ?_) | fail)
        try simp only [Exit.jumpsT]
        exact bodyPost_ret (ret_mo Tryz.results102 _ rfl rfl hz.1) rfl ⟨hz.2, Y, b, rfl, HT.out⟩
  · intro hp
    clear hp
    unfold M.aDay at hT
    obtain ⟨q0, q1, q2, q3, q4, q5, q6, q7, q8, q9, q10⟩ := H2.1.cells
    have f3 := H2.froz 3
    clear q0 q1 q2 q4 q5 q6 q7 q8 q9 q10
    have h1 := H2.put 3 (.bool true) (Y := { X0 with td := true }) rfl
    obtain ⟨C, hC⟩ : ∃ C, M.cnt 2 (s.data.toList.drop i0) = C := ⟨_, rfl⟩
    obtain ⟨V, hV⟩ : ∃ V, M.nv 2 0 (s.data.toList.drop i0) = V := ⟨_, rfl⟩
    have c1 := fun W => number_any s i0 2 W (by omega) hi0 (by omega)
    have hC2 := M.cnt_le 2 (s.data.toList.drop i0)
    have hCr := cnt_room s i0 2 hi0
    have hV2 := M.nv2_lt (s.data.toList.drop i0)
    rw [hC] at c1 hT hC2 hCr
    rw [hV] at c1 hT hV2
    simp only [drop_more] at hT
    clear hC hV
    obtain ⟨k0, k1, k2, k3, k4, k5, k6, k7, k8, k9, k10⟩ := h1.1.cells
    have f4 := h1.froz 4
    clear k0 k1 k2 k3 k5 k6 k7 k8 k9 k10
    have h3 := h1.put 4 (.int .i64 (V : Nat)) (Y := { X0 with td := true, h := V }) rfl
    by_cases h0 : C = 0
    · rw [if_pos h0] at hT
      subst h0
      have HT : Hid (none = T) := hT
      clear hT
      go_wp2_with fail
      refine (c1 _).mono ?_
      rintro r w' ⟨rfl, rfl⟩
      obtain ⟨yr, Xr, hr⟩ := h3.2.1
      have hz := h3.ret { X0 with td := true, h := V }
      have hm := h3.1
      go_wp2_with (first | (refine wpList_load_row rfl 70 (.tmp 3) rfl g rfl 70 (mcs { X0 with td := true, h := V }) (0, 0) _ hm Tryz.underlying70 rfl info_mo ?_) | (refine wpList_store_row rfl 70 (.tmp 6) (.tmp 31) rfl (g + 1) (mcs { X0 with td := true, h := V }) rfl rfl 70 _ hr info_mo rfl (vcs_one _ _) ?_) | fail)
      try simp only [Exit.jumpsT]
      exact bodyPost_ret (ret_mo Tryz.results102 _ rfl rfl hz.1) rfl (Got.no ({ X0 with td := true, h := V }) hz.2 HT.out)
    · rw [if_neg h0] at hT
      have hx0 : decide (0 < C) = true := decide_eq_true (by omega)
      have hx1 : decide ((0 : Int) < (C : Int)) = true := decide_eq_true (by omega)
      clear h0
      by_cases hl2 : i0 + C < s.size
      · have c2 := fun W => at_in s (i0 + C) W hl2 (by omega)
        rw [head_in s _ hl2] at hT
        have hc := s[i0 + C].toNat_lt
        by_cases h58 : s[i0 + C] = 58
        · rw [if_pos (congrArg some h58)] at hT
          rw [show s[i0 + C].toNat = 58 from u8_is (by omega) h58] at c2
          clear hc h58
          go_wp2_with fail
          refine (c1 _).mono ?_
          rintro r w' ⟨rfl, rfl⟩
          go_wp2_with fail
          refine (c2 _).mono ?_
          rintro r w' ⟨rfl, rfl⟩
          go_wp2
          go_step3
          exact ⟨{ X0 with td := true, h := V }, i0 + C + 1, _, ⟨_, _, _, _, _, _, _, _, _, _⟩, ⟨_, _, _, _, _, _, _, _, _, _⟩, ⟨_, _, _, _, _, _, _, _, _, _⟩, ⟨_, _, _, _, _, _, _, _, _, _⟩, ⟨_, _, _, _, _, _, _, _, _, _⟩, ⟨_, _, _, _, _, _, _, _, _, _⟩, ⟨_, _, _, _, _, _, _, _, _, _⟩, ⟨_, _, _, _, _, _, _, _, _, _⟩, ⟨_, _, _, _, _, _, _, _, _, _⟩, ⟨_, _, _, undef, undef, undef, undef, undef, undef, undef⟩, rfl, h3, by omega, Or.inl ⟨rfl, hT⟩⟩
        · rw [if_neg (fun e => h58 (Option.some.inj e))] at hT
          have hx58 : ((s[i0 + C].toNat : Int) == 58) = false := neC (k := 58) (by omega) h58
          generalize s[i0 + C].toNat = n at *
          have HT : Hid (none = T) := hT
          clear hc h58 hT
          go_wp2_with fail
          refine (c1 _).mono ?_
          rintro r w' ⟨rfl, rfl⟩
          go_wp2_with fail
          refine (c2 _).mono ?_
          rintro r w' ⟨rfl, rfl⟩
          obtain ⟨yr, Xr, hr⟩ := h3.2.1
          have hz := h3.ret { X0 with td := true, h := V }
          have hm := h3.1
          go_wp2_with (first | (refine wpList_load_row rfl 70 (.tmp 3) rfl g rfl 70 (mcs { X0 with td := true, h := V }) (0, 0) _ hm Tryz.underlying70 rfl info_mo ?_) | (refine wpList_store_row rfl 70 (.tmp 6) (.tmp 31) rfl (g + 1) (mcs { X0 with td := true, h := V }) rfl rfl 70 _ hr info_mo rfl (vcs_one _ _) ?_) | fail)
          try simp only [Exit.jumpsT]
          exact bodyPost_ret (ret_mo Tryz.results102 _ rfl rfl hz.1) rfl (Got.no ({ X0 with td := true, h := V }) hz.2 HT.out)
      · have c2 := fun W => at_out s (i0 + C) W hl2 (by omega)
        rw [head_out s _ hl2, if_neg (by simp)] at hT
        have HT : Hid (none = T) := hT
        clear hT
        go_wp2_with fail
        refine (c1 _).mono ?_
        rintro r w' ⟨rfl, rfl⟩
        go_wp2_with fail
        refine (c2 _).mono ?_
        rintro r w' ⟨rfl, rfl⟩
        obtain ⟨yr, Xr, hr⟩ := h3.2.1
        have hz := h3.ret { X0 with td := true, h := V }
        have hm := h3.1
        go_wp2_with (first | (refine wpList_load_row rfl 70 (.tmp 3) rfl g rfl 70 (mcs { X0 with td := true, h := V }) (0, 0) _ hm Tryz.underlying70 rfl info_mo ?_) | (refine wpList_store_row rfl 70 (.tmp 6) (.tmp 31) rfl (g + 1) (mcs { X0 with td := true, h := V }) rfl rfl 70 _ hr info_mo rfl (vcs_one _ _) ?_) | fail)
        try simp only [Exit.jumpsT]
        exact bodyPost_ret (ret_mo Tryz.results102 _ rfl rfl hz.1) rfl (Got.no ({ X0 with td := true, h := V }) hz.2 HT.out)
end Go.Proofs.YtipgipgehnhgkaaGreatDoor.S10
