/- The law UtfBack: its walk. -/
import Derived.Test.YthlbeoakaebcpaaDoorLb
import Derived.Test.YthlbeoakaebcpaaDoorRd
import Derived.Deep.RegionHeld3
namespace Go.Proofs.YthlbeoakaebcpaaDoor
open Go.RowKit

def bomS : ByteArray := ⟨#[239, 187, 191]⟩
theorem wf_bom : M.Wf bomS.data.toList [65279] := ⟨by intro c hc; rw [List.mem_singleton.1 hc]; right; omega, by decide⟩
theorem wf_bom_s {s : ByteArray} {cs : List Nat} (h : M.Wf s.data.toList cs) : M.Wf (bomS ++ s).data.toList (65279 :: cs) := by
  rw [append_list]; exact wf_bom.append h
theorem bom1 : M.enc1 1 65279 = [239, 187, 191] := by decide
theorem bom2 : M.enc1 2 65279 = [254, 255] := by decide
theorem bom3 : M.enc1 3 65279 = [255, 254] := by decide
theorem bom4 : M.enc1 4 65279 = [0, 0, 254, 255] := by decide
theorem bom5 : M.enc1 5 65279 = [255, 254, 0, 0] := by decide

theorem zb0 (x : UInt8) (l : List UInt8) : zb (x :: l) 0 = x.toNat := by unfold zb; rw [M.by8_0]
theorem zb1 (x y : UInt8) (l : List UInt8) : zb (x :: y :: l) 1 = y.toNat := by unfold zb; rw [M.by8_1]
theorem zb2 (x y z : UInt8) (l : List UInt8) : zb (x :: y :: z :: l) 2 = z.toNat := by unfold zb; rw [M.by8_2]
theorem zb3 (x y z u : UInt8) (l : List UInt8) : zb (x :: y :: z :: u :: l) 3 = u.toNat := by unfold zb; rw [M.by8_3]

/-- Marked bytes are known by their mark, but that a mark of Utf16LE with two noughts behind it is another one. -/
theorem det_bom (e : Nat) (he : 1 ≤ e ∧ e ≤ 5) (r : List UInt8) (h3 : e = 3 → ¬ (M.by8 r 0 = 0 ∧ M.by8 r 1 = 0 ∧ 2 ≤ r.length)) : det (M.enc1 e 65279 ++ r) = ((e : Int), (((M.enc1 e 65279).length : Nat) : Int)) := by
  rcases M.five he with rfl | rfl | rfl | rfl | rfl
  · rw [bom1]
    simp only [List.cons_append, List.nil_append]
    have f : det4 (zb (239 :: 187 :: 191 :: r) 0) (zb (239 :: 187 :: 191 :: r) 1) (zb (239 :: 187 :: 191 :: r) 2) (zb (239 :: 187 :: 191 :: r) 3) = (0, 0) := by
      rw [zb0, zb1]; unfold det4
      rw [if_neg (by intro h; exact absurd h.1 (by decide)), if_neg (by intro h; exact absurd h.1 (by decide)), if_neg (by intro h; exact absurd h.1 (by decide)), if_neg (by intro h; exact absurd h.2.1 (by decide))]
    unfold det
    rw [f, if_neg (by simp)]
    unfold det3
    rw [zb0, zb1, zb2, if_pos ⟨by simp, rfl, rfl, rfl⟩]; rfl
  · rw [bom2]
    simp only [List.cons_append, List.nil_append]
    have f : det4 (zb (254 :: 255 :: r) 0) (zb (254 :: 255 :: r) 1) (zb (254 :: 255 :: r) 2) (zb (254 :: 255 :: r) 3) = (0, 0) := by
      rw [zb0, zb1]; unfold det4
      rw [if_neg (by intro h; exact absurd h.1 (by decide)), if_neg (by intro h; exact absurd h.1 (by decide)), if_neg (by intro h; exact absurd h.1 (by decide)), if_neg (by intro h; exact absurd h.2.1 (by decide))]
    unfold det
    rw [f, if_neg (by simp)]
    unfold det3
    rw [zb0, zb1, if_neg (by intro h; exact absurd h.2.1 (by decide))]
    unfold det1
    rw [zb0, zb1, if_pos ⟨by simp, by decide⟩]; rfl
  · rw [bom3]
    simp only [List.cons_append, List.nil_append]
    have f : 4 ≤ (255 :: 254 :: r).length → det4 (zb (255 :: 254 :: r) 0) (zb (255 :: 254 :: r) 1) (zb (255 :: 254 :: r) 2) (zb (255 :: 254 :: r) 3) = (0, 0) := by
      intro hl
      rw [zb0, zb1]; unfold det4
      rw [if_neg (by intro h; exact absurd h.1 (by decide)), if_neg (by intro h; exact absurd h.1 (by decide)), if_neg ?_, if_neg (by intro h; exact absurd h.2.1 (by decide))]
      rintro ⟨_, _, h2, h4⟩
      refine h3 rfl ⟨?_, ?_, by simpa using hl⟩
      · have : zb (255 :: 254 :: r) 2 = M.by8 r 0 := by unfold zb M.by8; simp
        rw [this] at h2; omega
      · have : zb (255 :: 254 :: r) 3 = M.by8 r 1 := by unfold zb M.by8; simp
        rw [this] at h4; omega
    unfold det
    rw [if_neg (by rintro ⟨h1, h2⟩; rw [f h1] at h2; exact h2 rfl)]
    unfold det3
    rw [zb0, zb1, if_neg (by intro h; exact absurd h.2.1 (by decide))]
    unfold det1
    rw [zb0, zb1, if_pos ⟨by simp, by decide⟩]; rfl
  · rw [bom4]
    simp only [List.cons_append, List.nil_append]
    unfold det
    rw [zb0, zb1, zb2, zb3, if_pos ⟨by simp, by decide⟩]; rfl
  · rw [bom5]
    simp only [List.cons_append, List.nil_append]
    unfold det
    rw [zb0, zb1, zb2, zb3, if_pos ⟨by simp, by decide⟩]; rfl

/-- No text whose signs may be begins with two noughts in Utf16LE. -/
theorem le_head (cs : List Nat) (r : List UInt8) (hm : ∀ c ∈ cs, mayB c = true) (hs : ∀ c ∈ cs, M.IsScalar c) (hc : cs ≠ []) : ¬ (M.by8 (M.encAll 3 cs ++ r) 0 = 0 ∧ M.by8 (M.encAll 3 cs ++ r) 1 = 0) := by
  cases cs with
  | nil => exact absurd rfl hc
  | cons c cs =>
    have h1 := (mayB_iff c).1 (hm c (by simp))
    have h2 := hs c (by simp)
    unfold M.IsScalar at h2
    rw [M.encAll_cons, M.enc1_3, M.utf16, List.append_assoc]
    split
    · simp only [M.unit2, Bool.false_eq_true, if_false, List.cons_append, List.nil_append]
      rw [M.by8_0, M.by8_1, M.u8_toNat, M.u8_toNat]
      omega
    · simp only [M.unit2, Bool.false_eq_true, if_false, List.cons_append, List.nil_append]
      rw [M.by8_0, M.by8_1, M.u8_toNat, M.u8_toNat]
      omega

theorem size_bom (e : Nat) (w : World) (hT : Tabs w) :
    Calls Tryd.prog 18 #[.int .i64 e, .string bomS] w fun r w' => r = .returned (.int .i64 ((M.enc1 e 65279).length : Nat)) ∧ Below w.heap.size w w' := by
  have c := size_wf e bomS [65279] w hT (by decide) wf_bom
  rw [Int.toNat_natCast, M.encAll_cons, M.encAll_nil, List.append_nil] at c
  exact c

/-- Decode of what was encoded behind a mark. -/
theorem decode_marked (e : Nat) (he : 1 ≤ e ∧ e ≤ 5) (cs : List Nat) (hs : ∀ c ∈ cs, M.IsScalar c) (hm : ∀ c ∈ cs, mayB c = true) (hl : cs.length ≤ 2000) (g : Nat) (w : World) (hT : Tabs w) (hg : g < w.heap.size) (hb : HasBytes w g 0 (M.encAll e (65279 :: cs))) :
    Calls Tryd.prog 13 #[.slice (some ⟨g, 0, none⟩) (M.encAll e (65279 :: cs)).length (M.encAll e (65279 :: cs)).length] w fun r w' => r = okEnd e (M.enc1 e 65279).length (bA (M.encAll 1 cs)) ∧ Below w.heap.size w w' := by
  have hlb := M.encAll_le e (65279 :: cs)
  rw [List.length_cons] at hlb
  refine (decode_any g 0 _ _ w hT hb hg (Nat.le_refl _) (by omega)).mono ?_
  rintro r w' ⟨h, hbw⟩
  have hd : det (M.encAll e (65279 :: cs)) = ((e : Int), (((M.enc1 e 65279).length : Nat) : Int)) := by
    rw [M.encAll_cons]
    refine det_bom e he _ (fun h3 => ?_)
    subst h3
    by_cases hc : cs = []
    · subst hc; intro h; have := h.2.2; simp [M.encAll] at this
    · intro h
      have := le_head cs [] hm hs hc
      rw [List.append_nil] at this
      exact this ⟨h.1, h.2.1⟩
  rw [hd] at h
  simp only [Int.toNat_natCast] at h
  refine ⟨h.ok he hs ?_, hbw⟩
  rw [M.encAll_cons, List.drop_left]

set_option maxRecDepth 100000 in
set_option maxHeartbeats 4000000 in
theorem back_any (s : ByteArray) (x : Int) (w : World) (hT : Tabs w) (hs : s.size ≤ maxLen) (hx : 0 ≤ x ∧ x ≤ 255) :
    Calls Tryd.prog 4 #[.string s, .int .u8 x] w fun r w' => r = .returned (.bool true) ∧ Below w.heap.size w w' := by
  obtain ⟨k, hk⟩ : ∃ k : Nat, x % 5 = (k : Int) := ⟨(x % 5).toNat, by omega⟩
  have hk5 : k < 5 := by omega
  have hfew := fun w => few_any s w hs
  unfold maxLen at hs
  go_enter Tryd.func4, Tryd.ntmps4
  go_wp2_with fail
  refine (known_any _ hT).mono ?_
  rintro r w1 ⟨rfl, hb⟩
  have hT1 := hT.below hb
  go_wp2_with fail
  refine (hfew _).mono ?_
  rintro r w2 ⟨⟨b, rfl, hf⟩, rfl⟩
  cases b with
  | false =>
    clear hf hfew
    go_wp2
    go_ret
    exact ⟨rfl, hb⟩
  | true =>
    obtain ⟨hs3, cs, hw, hm⟩ := hf rfl
    have HM := Lib.hid hm
    have HW := Lib.hid hw
    have hcl := M.wf_len hw
    rw [← sz_list] at hcl
    clear hm hw hf hfew
    have hE : 1 ≤ 1 + k ∧ 1 + k ≤ 5 := by omega
    have hez : ((1 + k : Nat) : Int) = 1 + (k : Int) := by omega
    have c1 := encode_ne (1 + k) hE (bomS ++ s) (65279 :: cs) w1 hT1 (by rw [append_sz, show bomS.size = 3 from rfl]; omega) (wf_bom_s HW.out) (by simp)
    have c2 := fun g w' hT' hg hb' => decode_marked (1 + k) hE cs HW.out.1 HM.out (by omega) g w' hT' hg hb'
    have c3 := fun w' hT' => size_bom (1 + k) w' hT'
    have hbs : bA (M.encAll 1 cs) = s := by rw [← HW.out.2, bA_of]
    rw [hbs] at c2
    unfold okEnd at c2
    unfold bomS at c1 c3
    rw [hez] at c1 c2 c3
    have hmk := M.enc1_length (1 + k) 65279 hE
    generalize (M.enc1 (1 + k) 65279).length = m at *
    generalize M.encAll (1 + k) (65279 :: cs) = LL at *
    clear hbs hez hE
    go_wp2_with fail
    refine c1.mono ?_
    rintro r w2 ⟨g, rfl, hg1, hg2, hB, hb2⟩
    have hT2 := hT1.below hb2
    have hb02 := hb.trans (hb2.mono hb.size)
    clear c1
    go_wp2_with fail
    refine (c2 g w2 hT2 hg2 hB).mono ?_
    rintro r w3 ⟨rfl, hb3⟩
    have hT3 := hT2.below hb3
    have hb03 := hb02.trans (hb3.mono hb02.size)
    clear c2 hB hb2 hb3 hb02 hT2 hT1 hb
    go_wp2
    obtain ⟨W, hWe⟩ : ∃ W, W = (w3.alloc (.cells #[.int .i64 (1 + (k : Int)), .int .i64 m, .string s] 27)).alloc (.cells #[.int .i64 0, .int .i64 0] 30) := ⟨_, rfl⟩
    rw [← hWe]
    have hWz : W.heap.size = w3.heap.size + 1 + 1 := by rw [hWe]; simp
    have hb3W : Below w3.heap.size w3 W := by rw [hWe]; exact ((Below.refl _ _).alloc (Nat.le_refl _) _).alloc (by simp) _
    have hW0 : W.heap[w3.heap.size]? = some (.cells #[.int .i64 (1 + (k : Int)), .int .i64 m, .string s] 27 (0, 0)) := by
      rw [hWe]; exact (Below.heap_alloc _ _ _ (by simp)).trans (heap_alloc_new w3 _)
    have hW1 : W.heap[w3.heap.size + 1]? = some (.cells #[.int .i64 0, .int .i64 0] 30 (0, 0)) := by
      rw [hWe]; have h := heap_alloc_new (w3.alloc (.cells #[.int .i64 (1 + (k : Int)), .int .i64 m, .string s] 27)) (.cells #[.int .i64 0, .int .i64 0] 30); simpa using h
    clear hWe
    have hTW := hT3.below hb3W
    have hb0W := hb03.trans (hb3W.mono hb03.size)
    obtain ⟨K, hK⟩ : ∃ K, K = w3.heap.size := ⟨_, rfl⟩
    rw [← hK] at hWz hW0 hW1 ⊢
    have p0 : W.cell? ⟨K, 0, none⟩ = some (.int .i64 (1 + (k : Int))) := by simp [World.cell?, hW0]
    have p1 : W.cell? ⟨K, 1, none⟩ = some (.int .i64 m) := by simp [World.cell?, hW0]
    have p2 : W.cell? ⟨K, 2, none⟩ = some (.string s) := by simp [World.cell?, hW0]
    have q0 : W.cell? ⟨K + 1, 0, none⟩ = some (.int .i64 0) := by simp [World.cell?, hW1]
    have hKW : K < W.heap.size := by omega
    have hKW1 : K + 1 < W.heap.size := by omega
    clear hW0 hW1 hWz hK hb3W hT3 hb03 hT hk
    go_region_held3 (fun w' => w'.cell? ⟨K, 0, none⟩ = some (.int .i64 (1 + (k : Int))) ∧ w'.cell? ⟨K, 1, none⟩ = some (.int .i64 m) ∧ w'.cell? ⟨K, 2, none⟩ = some (.string s) ∧ w'.cell? ⟨K + 1, 0, none⟩ = some (.int .i64 0))
      (first
        | go_keep
        | (exact ⟨(hb5.cell (p := ⟨K, 0, none⟩) hKW).trans p0, (hb5.cell (p := ⟨K, 1, none⟩) hKW).trans p1, (hb5.cell (p := ⟨K, 2, none⟩) hKW).trans p2, (hb5.cell (p := ⟨K + 1, 0, none⟩) hKW1).trans q0⟩))
      (first | (go_at_call 18; refine (c3 _ ?_).mono ?_; (exact hTW); rintro r w5 ⟨rfl, hb5⟩))
    go_wp2
    go_ret
    exact ⟨rfl, hb0W.drew.trans (hb5.mono hb0W.size)⟩

end Go.Proofs.YthlbeoakaebcpaaDoor
