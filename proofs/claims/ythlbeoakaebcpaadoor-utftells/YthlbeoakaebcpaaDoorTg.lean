/- Walks of the document's answers (targumref1), on: Decode. -/
import Derived.Test.YthlbeoakaebcpaaDoorTa
import Derived.Test.YthlbeoakaebcpaaDoorTd
import Derived.Test.YthlbeoakaebcpaaDoorTe
namespace Go.Proofs.YthlbeoakaebcpaaDoor
open Go.RowKit

set_option maxRecDepth 100000 in
set_option maxHeartbeats 4000000 in
theorem rdecode_any (b off cap : Nat) (l : List UInt8) (w : World) (hp : HasBytes w b off l) (hb : b < w.heap.size) (hcap : l.length ≤ cap) (hl : l.length ≤ 10000) :
    Calls Tryd.prog 14 #[.slice (some ⟨b, off, none⟩) l.length cap] w fun r w' => DecPost l (det l).1.toNat (det l).2.toNat r ∧ Below w.heap.size w w' := by
  have hr := det_range l
  have c1 : ∀ W : World, HasBytes W b off l → b < W.heap.size → Calls Tryd.prog 12 #[.slice (some ⟨b, off, none⟩) l.length cap] W fun r w' => r = .returned (.tuple #[.int .i64 (det l).1, .int .i64 (det l).2]) ∧ Hid (w' = W) := fun W h hbW =>
    (rdetect_in (some ⟨b, off, none⟩) cap l W ⟨hcap, (fun h => by cases h), fun _ => ⟨b, off, rfl, h, hbW⟩⟩).mono fun _ _ ⟨h1, h2⟩ => ⟨h1, h2.symm⟩
  obtain ⟨e, he⟩ := Int.eq_ofNat_of_zero_le (show 0 ≤ (det l).1 by omega)
  obtain ⟨m, hm⟩ := Int.eq_ofNat_of_zero_le (show 0 ≤ (det l).2 by omega)
  rw [he, hm] at c1 hr ⊢
  simp only [Int.toNat_natCast]
  have hE : 1 ≤ e ∧ e ≤ 5 := by omega
  have hml : m ≤ l.length := by omega
  have hm4 : m ≤ 4 := by omega
  clear hr he hm
  obtain ⟨i0, hi, hz0, hz1, hz2⟩ := info_parts Tryd.info5
  go_enter Tryd.func14, Tryd.ntmps14
  go_wp2_with fail
  refine (c1 _ (fun j hj => ?_) (by simp; omega)).mono ?_
  · have h := hp j hj
    rw [← h]
    have hbx := ((Below.refl w.heap.size w).alloc (Nat.le_refl _) (.cells #[.int .i64 0, .int .i64 0, .string ⟨#[]⟩] 27)).alloc (by simp) (.cells #[.int .i64 0, .int .i64 0] 30)
    exact hbx.cell (p := ⟨b, off + j, none⟩) hb
  rintro r W2 ⟨rfl, HW⟩
  have hWsz : W2.heap.size = w.heap.size + 2 := by rw [HW.out]; simp
  have hWb : Below w.heap.size w W2 := by
    rw [HW.out]
    exact ((Below.refl w.heap.size w).alloc (Nat.le_refl _) _).alloc (by simp) _
  have hWr : Res w.heap.size W2 := by
    rw [HW.out]
    exact ⟨(Below.heap_alloc _ _ _ (by simp)).trans (heap_alloc_new w _), by have h := heap_alloc_new (w.alloc (.cells #[.int .i64 0, .int .i64 0, .string ⟨#[]⟩] 27)) (.cells #[.int .i64 0, .int .i64 0] 30); simpa using h⟩
  clear HW c1
  go_wp2_with fail
  go_loopw [6, 7] (fun v i wr => ∃ (k : Nat) (cs : List Nat), i = .int .i64 k ∧ DecRel l e m (w.heap.size + 2) W2 v k cs wr) (fun _ i _ => l.length - (intOf i).toNat)
  case atStart => exact ⟨m, [], rfl, Nat.le_refl _, hml, Nat.zero_le _, M.Steps.nil _, by simp, World.ownsRow_nil _ _ _ _, Below.refl _ _⟩
  case round =>
    obtain ⟨k, cs, rfl, hmk, hkl, hck, hst, hsc, hown, hbw⟩ := hrel
    have hpr : HasBytes wr b off l := (hp.below hb hWb).below (by omega) hbw
    have hrr : Res w.heap.size wr := hWr.below hbw
    have hwsz := hbw.size
    by_cases hlt : k < l.length
    · have c2 := rscalar_any e hE b off cap l k wr hpr (by omega) hcap hlt
      have hok := M.nx_ok e (l.drop k)
      rw [List.length_drop] at hok
      obtain ⟨⟨c, n⟩, hcn⟩ : ∃ d, M.nx e (l.drop k) = d := ⟨_, rfl⟩
      rw [hcn] at c2 hok
      simp only at c2 hok
      have HCN := Lib.hid hcn
      have HST := Lib.hid hst
      have HSC := Lib.hid hsc
      clear hcn hst hsc
      have hltd : decide (k < l.length) = true := by simpa using hlt
      by_cases hn : n = 0
      · subst hn
        have q0 := hrr.c0; have q1 := hrr.c1; have q2 := hrr.c2; have q3 := hrr.d0; have q4 := hrr.d1
        have f0 := hrr.f0 0; have f1 := hrr.f0 1; have f2 := hrr.f0 2; have f3 := hrr.f1 0; have f4 := hrr.f1 1
        clear hok hown hi hz0 hz1 hz2 hrr hpr hWr hp
        go_wp2_with fail
        refine c2.mono ?_
        rintro r w3 ⟨rfl, rfl⟩
        go_wp2
        refine bodyPost_ret (v := .tuple #[.agg #[.int .i64 0, .int .i64 0, .string ⟨#[]⟩], .agg #[.int .i64 10, .int .i64 k]]) (by simp [results, Tryd.results14, go_sem, q0, q1, q2, q3, q4]) rfl ⟨⟨cs, k, hmk, hkl, HST.out, HSC.out, Or.inr ⟨hlt, by rw [HCN.out], rfl⟩⟩, ?_⟩
        exact (((((hWb.trans (hbw.mono (by omega))).setCell (Nat.le_refl _) _).setCell (Nat.le_refl _) _).setCell (Nat.le_refl _) _).setCell (Nat.le_succ _) _).setCell (Nat.le_succ _) _
      · have hn1 : 1 ≤ n := by omega
        obtain ⟨ok1, ok2, ok3⟩ := hok hn
        clear hok
        have hnb : ((n : Int) == 0) = false := by simp; omega
        have hcb : c ≤ 1114111 := by unfold M.IsScalar at ok1; omega
        have hel := M.encAll_le 1 cs
        have hul := M.utf8_length c
        have OK1 := Lib.hid ok1
        clear ok1
        go_wp2_with fail
        refine c2.mono ?_
        rintro r w3 ⟨rfl, rfl⟩
        clear c2 hrr hpr
        go_wp2_with fail
        refine (rutf8_any c wr hcb).mono ?_
        rintro r w4 ⟨g, rfl, hg1, hg2, hB, hb4⟩
        have hown4 := ownsRow_below hown hb4
        have hb24 : Below (w.heap.size + 2) W2 w4 := hbw.trans (hb4.mono (by omega))
        have hz4 : w.heap.size + 2 ≤ w4.heap.size := by have := hb4.size; omega
        have HEN : Hid (M.encAll 1 (cs ++ [c]) = M.encAll 1 cs ++ M.utf8 c) := Lib.hid (encAll_snoc cs c)
        have hE1 : (M.encAll 1 cs).length ≤ 40000 := by omega
        clear hown hb4 hbw hel
        generalize M.encAll 1 cs = A at *
        generalize M.utf8 c = U at *
        go_wp2_with (first | (at_builtin; refine wpList_append_own _ rfl (.tmp 32) (.tmp 34) 22 rfl (w.heap.size + 2) 5 i0 (.int .u8 0) 1 1 Tryd.underlying22 hi hz0 hz1 hz2 rfl (by decide) u6 A.length (A.map bcell) rfl hown4 ⟨g, 0, none⟩ U.length U.length (U.map bcell) rfl (by simp) (has_news hB) (bcell_one _) (by unfold maxLen; omega) (by omega) hz4 ?_; intro v5 w5 hown5 hgrow5 _; have hb25 : Below (w.heap.size + 2) W2 w5 := hb24.grown hgrow5 hz4 (fun k hk => (hown4.lt k hk).1); have HO := Lib.hid hown5; clear hgrow5 hown5 hown4) | fail)
        go_roundw
        case rel =>
          refine ⟨k + n, cs ++ [c], by go_num, by omega, by omega, by simp; omega, ?_, ?_, ?_, hb25⟩
          · have h := HST.out.snoc HCN.out hn
            rwa [List.drop_drop] at h
          · intro x hx
            rcases List.mem_append.1 hx with h | h
            · exact HSC.out x h
            · rw [List.mem_singleton.1 h]; exact OK1.out
          · rw [HEN.out, List.length_append, List.map_append]; exact HO.out
        case measure => simp [intOf]; omega
    · obtain rfl : k = l.length := by omega
      have hcv := conv_own hown
      have hltd : decide (l.length < l.length) = false := by simp
      have q0 := hrr.c0; have q1 := hrr.c1; have q2 := hrr.c2; have q3 := hrr.d0; have q4 := hrr.d1
      have f0 := hrr.f0 0; have f1 := hrr.f0 1; have f2 := hrr.f0 2; have f3 := hrr.f1 0; have f4 := hrr.f1 1
      have HST := Lib.hid hst
      have HSC := Lib.hid hsc
      clear hst hsc hrr hown hpr hWr hp hi hz0 hz1 hz2
      go_wp2
      refine bodyPost_ret (v := .tuple #[.agg #[.int .i64 e, .int .i64 m, .string (bA (M.encAll 1 cs))], .agg #[.int .i64 0, .int .i64 0]]) (by simp [results, Tryd.results14, go_sem, q0, q1, q2, q3, q4]) rfl ⟨⟨cs, l.length, hmk, hkl, HST.out, HSC.out, Or.inl ⟨rfl, rfl⟩⟩, ?_⟩
      exact (((((hWb.trans (hbw.mono (by omega))).setCell (Nat.le_refl _) _).setCell (Nat.le_refl _) _).setCell (Nat.le_refl _) _).setCell (Nat.le_succ _) _).setCell (Nat.le_succ _) _

end Go.Proofs.YthlbeoakaebcpaaDoor
