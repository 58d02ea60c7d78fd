/- The law UtfCuts: its walk, on. -/
import Derived.Test.YthlbeoakaebcpaaDoorLf
import Derived.IntWalk
namespace Go.Proofs.YthlbeoakaebcpaaDoor
open Go.RowKit

set_option maxRecDepth 100000 in
set_option maxHeartbeats 4000000 in
theorem cuts_any (s : ByteArray) (x y : Int) (w : World) (hT : Tabs w) (hs : s.size ≤ maxLen) (hx : 0 ≤ x ∧ x ≤ 255) :
    Calls Tryd.prog 6 #[.string s, .int .u8 x, .int .i64 y] w fun r w' => r = .returned (.bool true) ∧ Below w.heap.size w w' := by
  obtain ⟨k, hk⟩ : ∃ k : Nat, x % 5 = (k : Int) := ⟨(x % 5).toNat, by omega⟩
  have hk5 : k < 5 := by omega
  have hfew := fun w => few_any s w hs
  unfold maxLen at hs
  go_enter Tryd.func6, Tryd.ntmps6
  go_wp2_with fail
  refine (known_any _ hT).mono ?_
  rintro r w1 ⟨rfl, hb⟩
  have hT1 := hT.below hb
  go_wp2_with fail
  refine (hfew _).mono ?_
  rintro r w2 ⟨⟨b, rfl, hf⟩, rfl⟩
  cases b with
  | false =>
    clear hf hfew
    go_wp2
    go_ret
    exact ⟨rfl, hb⟩
  | true =>
    obtain ⟨hs3, cs, hw, hm⟩ := hf rfl
    have HM := Lib.hid hm
    have HW := Lib.hid hw
    have hcl := M.wf_len hw
    rw [← sz_list] at hcl
    clear hm hw hf hfew
    have hE : 1 ≤ 1 + k ∧ 1 + k ≤ 5 := by omega
    have hez : ((1 + k : Nat) : Int) = 1 + (k : Int) := by omega
    have c1 := encode_ne (1 + k) hE (bomS ++ s) (65279 :: cs) w1 hT1 (by rw [append_sz, show bomS.size = 3 from rfl]; omega) (wf_bom_s HW.out) (by simp)
    have c2 := fun q h1 h2 => cut_ends (1 + k) hE s cs hs3 HW.out HM.out q h1 h2
    have c3 := fun w' hT' => size_bom (1 + k) w' hT'
    unfold okEnd badEnd at c2
    unfold bomS at c1 c3
    rw [hez] at c1 c2 c3
    have hmk := M.enc1_length (1 + k) 65279 hE
    have hmL : (M.enc1 (1 + k) 65279).length ≤ (M.encAll (1 + k) (65279 :: cs)).length := by rw [M.encAll_cons, List.length_append]; omega
    have hLb := M.encAll_le (1 + k) (65279 :: cs)
    rw [List.length_cons] at hLb
    generalize (M.enc1 (1 + k) 65279).length = m at *
    generalize M.encAll (1 + k) (65279 :: cs) = LL at *
    have C2 := Lib.hid c2
    have hlt : decide ((LL.length : Int) < (m : Int)) = false := by simp; omega
    have hLN : LL.length ≤ 1300 := by omega
    clear hez hE c2 hcl hLb
    go_wp2_with fail
    refine c1.mono ?_
    rintro r w2 ⟨g, rfl, hg1, hg2, hB, hb2⟩
    have hT2 := hT1.below hb2
    have hb02 := hb.trans (hb2.mono hb.size)
    clear c1 hT1 hb hb2 hg1
    go_wp2_with fail
    refine (c3 _ hT2).mono ?_
    rintro r w3 ⟨rfl, hb3⟩
    have hT3 := hT2.below hb3
    have hb03 := hb02.trans (hb3.mono hb02.size)
    have hB3 := hB.below hg2 hb3
    have hg3 : g < w3.heap.size := by have := hb3.size; omega
    clear c3 hT2 hb3 hb02 hB hg2
    go_wp2_with fail
    refine (within_any y m LL.length w3 hmL (by omega)).mono ?_
    rintro r w4 ⟨⟨q, hq1, hq2, rfl⟩, rfl⟩
    obtain ⟨t, i, hi1, hi2, hi3, htz, htx, d1, d2, d3⟩ := C2.out q hq1 hq2
    clear C2
    by_cases hiq : i = q
    · subst hiq
      simp only [if_true] at d1
      clear d2 hi2 hi3 hq1
      have HX := Lib.hid htx
      clear htx
      have hql : (i : Int) ≤ (LL.length : Int) := by omega
      go_wp2_with fail
      refine (d1 g w3 hT3 hg3 hB3).mono ?_
      rintro r w4 ⟨rfl, hb4⟩
      have hT4 := hT3.below hb4
      have hb04 := hb03.trans (hb4.mono hb03.size)
      clear d1 hT3 hb03 hB3 hb4
      go_wp2
      obtain ⟨W, hWe⟩ : ∃ W, W = (w4.alloc (.cells #[.int .i64 (1 + (k : Int)), .int .i64 m, .string t] 27)).alloc (.cells #[.int .i64 0, .int .i64 0] 30) := ⟨_, rfl⟩
      rw [← hWe]
      have hWz : W.heap.size = w4.heap.size + 1 + 1 := by rw [hWe]; simp
      have hb3W : Below w4.heap.size w4 W := by rw [hWe]; exact ((Below.refl _ _).alloc (Nat.le_refl _) _).alloc (by simp) _
      have hW0 : W.heap[w4.heap.size]? = some (.cells #[.int .i64 (1 + (k : Int)), .int .i64 m, .string t] 27 (0, 0)) := by
        rw [hWe]; exact (Below.heap_alloc _ _ _ (by simp)).trans (heap_alloc_new w4 _)
      clear hWe
      have hTW := hT4.below hb3W
      have hb0W := hb04.trans (hb3W.mono hb04.size)
      obtain ⟨K, hK⟩ : ∃ K, K = w4.heap.size := ⟨_, rfl⟩
      rw [← hK] at hWz hW0 ⊢
      have p2 : W.cell? ⟨K, 2, none⟩ = some (.string t) := by simp [World.cell?, hW0]
      have hKW : K < W.heap.size := by omega
      obtain ⟨z, hz⟩ : ∃ z, z = i - m := ⟨_, rfl⟩
      rw [← hz] at d3
      have hle : decide ((t.size : Int) ≤ (s.size : Int)) = true := by simp; omega
      have hle2 : (t.size : Int) ≤ (s.size : Int) := by omega
      have hle3 : t.size ≤ s.size := by omega
      have hwr : IntKind.i64.wrap ((m : Int) + (z : Int)) = (i : Int) := by
        rw [IntWalk.i64_in _ (by omega)]; omega
      have htx := HX.out
      clear hW0 hWz hK hb3W hT4 hb04 hT hk hz hlt
      go_region_held3 (fun w' => w'.cell? ⟨K, 2, none⟩ = some (.string t))
        (first
          | go_keep
          | (exact (hb5.cell (p := ⟨K, 2, none⟩) hKW).trans p2))
        (first | (go_at_call 18; refine (d3 _ ?_).mono ?_; (exact hTW); rintro r w5 ⟨rfl, hb5⟩))
      go_wp2
      go_ret
      exact ⟨rfl, hb0W.drew.trans (hb5.mono hb0W.size)⟩
    · simp only [if_neg hiq] at d1
      have hlq : i < q := by omega
      clear d3 hiq
      have HX := Lib.hid htx
      clear htx
      have hql : (q : Int) ≤ (LL.length : Int) := by omega
      have hil : (i : Int) ≤ (LL.length : Int) := by omega
      have e1 : decide ((i : Int) < (m : Int)) = false := by simp; omega
      have e2 : decide ((q : Int) ≤ (i : Int)) = false := by simp; omega
      have e3 : decide ((3 : Int) < (q : Int) - (i : Int)) = false := by simp; omega
      go_wp2_with fail
      refine (d1 g w3 hT3 hg3 hB3).mono ?_
      rintro r w4 ⟨rfl, hb4⟩
      have hT4 := hT3.below hb4
      have hb04 := hb03.trans (hb4.mono hb03.size)
      have hB4 := hB3.below hg3 hb4
      have hg4 : g < w4.heap.size := by have := hb4.size; omega
      clear d1 hT3 hb03 hB3 hb4 hg3
      go_wp2_with fail
      obtain ⟨W, hWe⟩ : ∃ W, W = (w4.alloc (.cells #[.int .i64 0, .int .i64 0, .string ⟨#[]⟩] 27)).alloc (.cells #[.int .i64 10, .int .i64 (i : Int)] 30) := ⟨_, rfl⟩
      rw [← hWe]
      have hWz : W.heap.size = w4.heap.size + 1 + 1 := by rw [hWe]; simp
      have hb3W : Below w4.heap.size w4 W := by rw [hWe]; exact ((Below.refl _ _).alloc (Nat.le_refl _) _).alloc (by simp) _
      have hW0 : W.heap[w4.heap.size]? = some (.cells #[.int .i64 0, .int .i64 0, .string ⟨#[]⟩] 27 (0, 0)) := by
        rw [hWe]; exact (Below.heap_alloc _ _ _ (by simp)).trans (heap_alloc_new w4 _)
      clear hWe
      have hTW := hT4.below hb3W
      have hb0W := hb04.trans (hb3W.mono hb04.size)
      have hBW := hB4.below hg4 hb3W
      have hgW : g < W.heap.size := by omega
      obtain ⟨K, hK⟩ : ∃ K, K = w4.heap.size := ⟨_, rfl⟩
      rw [← hK] at hWz hW0 ⊢
      have p0 : W.cell? ⟨K, 0, none⟩ = some (.int .i64 0) := by simp [World.cell?, hW0]
      have p1 : W.cell? ⟨K, 1, none⟩ = some (.int .i64 0) := by simp [World.cell?, hW0]
      have p2 : W.cell? ⟨K, 2, none⟩ = some (.string ⟨#[]⟩) := by simp [World.cell?, hW0]
      have hKW : K < W.heap.size := by omega
      clear hW0 hWz hK hb3W hT4 hb04 hT hk hlt hB4 hg4
      refine (d2 g W hTW hgW hBW).mono ?_
      rintro r w5 ⟨rfl, hb5⟩
      have hb05 := hb0W.trans (hb5.mono hb0W.size)
      have r0 := (hb5.cell (p := ⟨K, 0, none⟩) hKW).trans p0
      have r1 := (hb5.cell (p := ⟨K, 1, none⟩) hKW).trans p1
      have r2 := (hb5.cell (p := ⟨K, 2, none⟩) hKW).trans p2
      have hK5 : K < w5.heap.size := by have := hb5.size; omega
      clear d2 p0 p1 p2 hTW hBW hb0W hb5 hgW hKW
      go_wp2
      obtain ⟨V, hVe⟩ : ∃ V, V = (w5.alloc (.cells #[.int .i64 (1 + (k : Int)), .int .i64 m, .string t] 27)).alloc (.cells #[.int .i64 0, .int .i64 0] 30) := ⟨_, rfl⟩
      rw [← hVe]
      have hb5V : Below w5.heap.size w5 V := by rw [hVe]; exact ((Below.refl _ _).alloc (Nat.le_refl _) _).alloc (by simp) _
      have hV0 : V.heap[w5.heap.size]? = some (.cells #[.int .i64 (1 + (k : Int)), .int .i64 m, .string t] 27 (0, 0)) := by
        rw [hVe]; exact (Below.heap_alloc _ _ _ (by simp)).trans (heap_alloc_new w5 _)
      have hV1 : V.heap[w5.heap.size + 1]? = some (.cells #[.int .i64 0, .int .i64 0] 30 (0, 0)) := by
        rw [hVe]; have h := heap_alloc_new (w5.alloc (.cells #[.int .i64 (1 + (k : Int)), .int .i64 m, .string t] 27)) (.cells #[.int .i64 0, .int .i64 0] 30); simpa using h
      clear hVe
      have hb0V := hb05.trans (hb5V.mono hb05.size)
      have q0 := (hb5V.cell (p := ⟨K, 0, none⟩) hK5).trans r0
      have q1 := (hb5V.cell (p := ⟨K, 1, none⟩) hK5).trans r1
      have q2 := (hb5V.cell (p := ⟨K, 2, none⟩) hK5).trans r2
      obtain ⟨J, hJ⟩ : ∃ J, J = w5.heap.size := ⟨_, rfl⟩
      rw [← hJ] at hV0 hV1 ⊢
      have q3 : V.cell? ⟨J, 2, none⟩ = some (.string t) := by simp [World.cell?, hV0]
      have q4 : V.cell? ⟨J + 1, 0, none⟩ = some (.int .i64 0) := by simp [World.cell?, hV1]
      have hle : decide ((t.size : Int) ≤ (s.size : Int)) = true := by simp; omega
      have hle2 : (t.size : Int) ≤ (s.size : Int) := by omega
      have htx := HX.out
      clear hV0 hV1 hJ hb5V hb05 r0 r1 r2 hK5
      go_quiet (fail)
      go_wp2
      go_ret
      exact ⟨rfl, hb0V.trans ⟨rfl, rfl, rfl, Nat.le_refl _, fun _ _ => rfl⟩⟩

end Go.Proofs.YthlbeoakaebcpaaDoor
