/- The law UtfUnmarked: its walk. -/
import Derived.Test.YthlbeoakaebcpaaDoorLc
namespace Go.Proofs.YthlbeoakaebcpaaDoor
open Go.RowKit

theorem zbd (l : List UInt8) (i : Nat) : zb l i = (M.by8 l i : Nat) := rfl
theorem utf8_head (c : Nat) (r : List UInt8) (hc : 1 ≤ c) (hs : M.IsScalar c) : M.by8 (M.utf8 c ++ r) 0 ≠ 0 := by
  unfold M.IsScalar at hs
  unfold M.utf8
  repeat' split
  all_goals
    simp only [List.cons_append, List.nil_append]
    rw [M.by8_0, M.u8_toNat]
    omega
theorem mayB_pos {c : Nat} (h : mayB c = true) : 9 ≤ c := by rw [mayB_iff] at h; omega

theorem by8_c0 (x : UInt8) (l : List UInt8) (i : Nat) : M.by8 (x :: l) (i + 1) = M.by8 l i := by simp [M.by8]

/-- A text that begins with a sign below 80 is known without a mark. -/
theorem det_plain (e : Nat) (he : 1 ≤ e ∧ e ≤ 5) (f : Nat) (hf : 32 ≤ f ∧ f ≤ 126) (cs : List Nat) (hm : ∀ c ∈ cs, mayB c = true) (hs : ∀ c ∈ cs, M.IsScalar c) : det (M.encAll e (f :: cs)) = ((e : Int), 0) := by
  have u0 : (M.u8 f).toNat = f := by rw [M.u8_toNat]; omega
  have u1 : (M.u8 (f / 256)).toNat = 0 := by rw [M.u8_toNat]; omega
  have u2 : (M.u8 (f / 65536)).toNat = 0 := by rw [M.u8_toNat]; omega
  have u3 : (M.u8 (f / 16777216)).toNat = 0 := by rw [M.u8_toNat]; omega
  rw [M.encAll_cons]
  rcases M.five he with rfl | rfl | rfl | rfl | rfl
  · have e1 : M.enc1 1 f = [M.u8 f] := by rw [M.enc1_1, M.utf8, if_pos (by omega)]
    rw [e1, List.cons_append, List.nil_append]
    have h1 : 2 ≤ (M.u8 f :: M.encAll 1 cs).length → zb (M.u8 f :: M.encAll 1 cs) 1 ≠ 0 := by
      intro hl
      rw [zbd, by8_c0]
      cases cs with
      | nil => simp [M.encAll] at hl
      | cons c cs =>
        have := utf8_head c (M.encAll 1 cs) (by have := mayB_pos (hm c (by simp)); omega) (hs c (by simp))
        rw [M.encAll_cons, M.enc1_1]; omega
    have h0 : zb (M.u8 f :: M.encAll 1 cs) 0 = f := by rw [zb0, u0]
    unfold det det4
    rw [if_neg, det3, if_neg (by rw [h0]; omega), det1, if_neg]
    · rfl
    · rintro ⟨hl, h⟩
      refine h ?_
      unfold det2
      have := h1 hl
      rw [if_neg (by rw [h0]; omega), if_neg (by rw [h0]; omega), if_neg (by rw [h0]; omega), if_neg (by omega)]
    · rintro ⟨hl, h⟩
      refine h ?_
      have := h1 (by omega)
      rw [if_neg (by rw [h0]; omega), if_neg (by rw [h0]; omega), if_neg (by rw [h0]; omega), if_neg (by omega)]
  · have e1 : M.enc1 2 f = [M.u8 (f / 256), M.u8 f] := by rw [M.enc1_2, M.utf16, if_pos (by omega)]; rfl
    rw [e1, List.cons_append, List.cons_append, List.nil_append]
    have h0 : zb (M.u8 (f / 256) :: M.u8 f :: M.encAll 2 cs) 0 = 0 := by rw [zb0, u1]; rfl
    have h1 : zb (M.u8 (f / 256) :: M.u8 f :: M.encAll 2 cs) 1 = f := by rw [zb1, u0]
    unfold det det4
    rw [if_neg, det3, if_neg (by rw [h0]; omega), det1, if_pos]
    · unfold det2; rw [h0, h1, if_neg (by omega), if_pos (by omega)]; rfl
    · refine ⟨by simp, ?_⟩
      unfold det2; rw [h0, h1, if_neg (by omega), if_pos (by omega)]; decide
    · rintro ⟨hl, h⟩
      refine h ?_
      rw [h0, h1, if_neg (by omega), if_neg (by omega), if_neg (by omega), if_neg (by omega)]
  · have e1 : M.enc1 3 f = [M.u8 f, M.u8 (f / 256)] := by rw [M.enc1_3, M.utf16, if_pos (by omega)]; rfl
    rw [e1, List.cons_append, List.cons_append, List.nil_append]
    have h0 : zb (M.u8 f :: M.u8 (f / 256) :: M.encAll 3 cs) 0 = f := by rw [zb0, u0]
    have h1 : zb (M.u8 f :: M.u8 (f / 256) :: M.encAll 3 cs) 1 = 0 := by rw [zb1, u1]; rfl
    have h23 : 4 ≤ (M.u8 f :: M.u8 (f / 256) :: M.encAll 3 cs).length → ¬ (zb (M.u8 f :: M.u8 (f / 256) :: M.encAll 3 cs) 2 = 0 ∧ zb (M.u8 f :: M.u8 (f / 256) :: M.encAll 3 cs) 3 = 0) := by
      intro hl
      rw [zbd, zbd, by8_c0, by8_c0, by8_c0, by8_c0]
      by_cases hc : cs = []
      · subst hc; simp [M.encAll] at hl
      · have := le_head cs [] hm hs hc
        rw [List.append_nil] at this
        omega
    unfold det det4
    rw [if_neg, det3, if_neg (by rw [h0]; omega), det1, if_pos]
    · unfold det2; rw [h0, h1, if_neg (by omega), if_neg (by omega), if_neg (by omega), if_pos (by omega)]; rfl
    · refine ⟨by simp, ?_⟩
      unfold det2; rw [h0, h1, if_neg (by omega), if_neg (by omega), if_neg (by omega), if_pos (by omega)]; decide
    · rintro ⟨hl, h⟩
      refine h ?_
      have := h23 hl
      rw [h0, h1, if_neg (by omega), if_neg (by omega), if_neg (by omega), if_neg (by omega)]
  · have e1 : M.enc1 4 f = [M.u8 (f / 16777216), M.u8 (f / 65536), M.u8 (f / 256), M.u8 f] := by rw [M.enc1_4]; rfl
    rw [e1]
    simp only [List.cons_append, List.nil_append]
    unfold det
    rw [zb0, zb1, zb2, zb3, u0, u1, u2, u3, if_pos]
    · unfold det4; rw [if_neg (by omega), if_pos (by omega)]; rfl
    · refine ⟨by simp, ?_⟩
      unfold det4; rw [if_neg (by omega), if_pos (by omega)]; decide
  · have e1 : M.enc1 5 f = [M.u8 f, M.u8 (f / 256), M.u8 (f / 65536), M.u8 (f / 16777216)] := by rw [M.enc1_5]; rfl
    rw [e1]
    simp only [List.cons_append, List.nil_append]
    unfold det
    rw [zb0, zb1, zb2, zb3, u0, u1, u2, u3, if_pos]
    · unfold det4; rw [if_neg (by omega), if_neg (by omega), if_neg (by omega), if_pos (by omega)]; rfl
    · refine ⟨by simp, ?_⟩
      unfold det4; rw [if_neg (by omega), if_neg (by omega), if_neg (by omega), if_pos (by omega)]; decide

/-- Decode of what was encoded without a mark. -/
theorem decode_plain (e : Nat) (he : 1 ≤ e ∧ e ≤ 5) (f : Nat) (hf : 32 ≤ f ∧ f ≤ 126) (cs : List Nat) (hs : ∀ c ∈ cs, M.IsScalar c) (hm : ∀ c ∈ cs, mayB c = true) (hl : cs.length ≤ 2000) (g : Nat) (w : World) (hT : Tabs w) (hg : g < w.heap.size) (hb : HasBytes w g 0 (M.encAll e (f :: cs))) :
    Calls Tryd.prog 13 #[.slice (some ⟨g, 0, none⟩) (M.encAll e (f :: cs)).length (M.encAll e (f :: cs)).length] w fun r w' => r = okEnd e 0 (bA (M.encAll 1 (f :: cs))) ∧ Below w.heap.size w w' := by
  have hlb := M.encAll_le e (f :: cs)
  rw [List.length_cons] at hlb
  refine (decode_any g 0 _ _ w hT hb hg (Nat.le_refl _) (by omega)).mono ?_
  rintro r w' ⟨h, hbw⟩
  rw [det_plain e he f hf cs hm hs] at h
  simp only [Int.toNat_natCast] at h
  refine ⟨h.ok he ?_ ?_, hbw⟩
  · intro c hc
    rcases List.mem_cons.1 hc with h | h
    · rw [h]; left; omega
    · exact hs c h
  · rfl

set_option maxRecDepth 100000 in
set_option maxHeartbeats 4000000 in
theorem unmarked_any (a0 : Int) (s : ByteArray) (x : Int) (w : World) (hT : Tabs w) (ha : 0 ≤ a0 ∧ a0 ≤ 255) (hs : s.size ≤ maxLen) (hx : 0 ≤ x ∧ x ≤ 255) :
    Calls Tryd.prog 8 #[.int .u8 a0, .string s, .int .u8 x] w fun r w' => r = .returned (.bool true) ∧ Below w.heap.size w w' := by
  obtain ⟨k, hk⟩ : ∃ k : Nat, x % 5 = (k : Int) := ⟨(x % 5).toNat, by omega⟩
  have hk5 : k < 5 := by omega
  obtain ⟨q, hq⟩ : ∃ q : Nat, a0 % 95 = (q : Int) := ⟨(a0 % 95).toNat, by omega⟩
  have hq5 : q < 95 := by omega
  have hfew := fun w => few_any s w hs
  unfold maxLen at hs
  go_enter Tryd.func8, Tryd.ntmps8
  go_wp2_with fail
  refine (known_any _ hT).mono ?_
  rintro r w1 ⟨rfl, hb⟩
  have hT1 := hT.below hb
  go_wp2_with fail
  refine (hfew _).mono ?_
  rintro r w2 ⟨⟨b, rfl, hf⟩, rfl⟩
  cases b with
  | false =>
    clear hf hfew
    go_wp2
    go_ret
    exact ⟨rfl, hb⟩
  | true =>
    obtain ⟨hs3, cs, hw, hm⟩ := hf rfl
    have HM := Lib.hid hm
    have HW := Lib.hid hw
    have hcl := M.wf_len hw
    rw [← sz_list] at hcl
    clear hm hw hf hfew
    obtain ⟨F, hF⟩ : ∃ F, F = bA [M.u8 (32 + q)] := ⟨_, rfl⟩
    have hFz : F.size ≤ 1 := by rw [hF, bA_size]; simp
    have hcv : (convert 22 9 (.slice (some ⟨w1.heap.size, 0, none⟩) 1 1)).run Tryd.prog (w1.alloc (.cells #[.int .u8 (32 + (q : Int))] 5)) = .ok (.string F) (w1.alloc (.cells #[.int .u8 (32 + (q : Int))] 5)) := by
      rw [hF]
      refine run_convert_bytes_back _ 22 9 5 ⟨w1.heap.size, 0, none⟩ 1 [M.u8 (32 + q)] Tryd.underlying22 Tryd.underlying5 Tryd.underlying9 ?_
      intro j hj
      obtain rfl : j = 0 := by simp at hj; exact hj
      rw [show (⟨w1.heap.size, 0, none⟩ : Addr).add 0 = ⟨w1.heap.size, 0, none⟩ by simp [Addr.add], World.cell?_alloc_mark]
      have e : ((M.u8 (32 + q)).toNat : Int) = 32 + (q : Int) := by rw [M.u8_toNat]; omega
      simp [e]
    have hE : 1 ≤ 1 + k ∧ 1 + k ≤ 5 := by omega
    have hez : ((1 + k : Nat) : Int) = 1 + (k : Int) := by omega
    have hfr : 32 ≤ 32 + q ∧ 32 + q ≤ 126 := by omega
    have hwF : M.Wf F.data.toList [32 + q] := by
      refine ⟨?_, ?_⟩
      · intro c hc; rw [List.mem_singleton.1 hc]; left; omega
      · rw [hF, bA_toList, M.encAll_cons, M.encAll_nil, M.enc1_1, M.utf8, if_pos (by omega)]; rfl
    have hwt : M.Wf (F ++ s).data.toList ((32 + q) :: cs) := by rw [append_list]; exact hwF.append HW.out
    have hbW : Below w1.heap.size w1 (w1.alloc (.cells #[.int .u8 (32 + (q : Int))] 5)) := (Below.refl _ _).alloc (Nat.le_refl _) _
    have c1 := encode_ne (1 + k) hE (F ++ s) ((32 + q) :: cs) _ (hT1.below hbW) (by rw [append_sz]; omega) hwt (by simp)
    have c2 := fun g w' hT' hg hb' => decode_plain (1 + k) hE (32 + q) hfr cs HW.out.1 HM.out (by omega) g w' hT' hg hb'
    have hbs : bA (M.encAll 1 ((32 + q) :: cs)) = F ++ s := by rw [← hwt.2, bA_of]
    rw [hbs] at c2
    unfold okEnd at c2
    rw [hez] at c1 c2
    generalize M.encAll (1 + k) ((32 + q) :: cs) = LL at *
    have HF := Lib.hid hF
    clear hbs hez hE hwt hwF hF hfr
    go_wp2_with fail
    refine c1.mono ?_
    rintro r w2 ⟨g, rfl, hg1, hg2, hB, hb2⟩
    have hb12 := hbW.trans (hb2.mono hbW.size)
    have hT2 := hT1.below hb12
    have hb02 := hb.trans (hb12.mono hb.size)
    clear c1 hcv hbW
    go_wp2_with fail
    refine (c2 g w2 hT2 hg2 hB).mono ?_
    rintro r w3 ⟨rfl, hb3⟩
    have hT3 := hT2.below hb3
    have hb03 := hb02.trans (hb3.mono hb02.size)
    clear c2 hB hb2 hb3 hb02 hT2 hT1 hb hb12
    go_wp2
    go_ret
    exact ⟨rfl, (hb03.alloc hb03.size _).alloc (by have := hb03.size; simp; omega) _⟩

end Go.Proofs.YthlbeoakaebcpaaDoor
