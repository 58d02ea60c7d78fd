/- What Decode comes to where it is known; walk of targumlaw1.known. -/
import Derived.Test.YthlbeoakaebcpaaDoorWi
namespace Go.Proofs.YthlbeoakaebcpaaDoor
open Go.RowKit

def okEnd (e m : Nat) (s : ByteArray) : Ending := .returned (.tuple #[.agg #[.int .i64 e, .int .i64 m, .string s], .agg #[.int .i64 0, .int .i64 0]])
def badEnd (i : Nat) : Ending := .returned (.tuple #[.agg #[.int .i64 0, .int .i64 0, .string ⟨#[]⟩], .agg #[.int .i64 10, .int .i64 i]])

theorem DecPost.ok {l : List UInt8} {e m : Nat} {r : Ending} (h : DecPost l e m r) (he : 1 ≤ e ∧ e ≤ 5) {cs : List Nat} (hs : ∀ c ∈ cs, M.IsScalar c) (hl : l.drop m = M.encAll e cs) : r = okEnd e m (bA (M.encAll 1 cs)) := by
  obtain ⟨ds, i, hmi, hil, hst, _, hr⟩ := h
  have S := M.Steps.enc e he cs hs []
  rw [List.append_nil, ← hl] at S
  have hstuck : (M.nx e (l.drop i)).2 = 0 := by
    rcases hr with ⟨hi, _⟩ | ⟨_, h, _⟩
    · rw [hi, List.drop_length, M.nx_nil]
    · exact h
  obtain ⟨rfl, h2⟩ := S.det (by rw [M.nx_nil]) hst hstuck
  rcases hr with ⟨_, hr⟩ | ⟨hi, _, _⟩
  · exact hr
  · have := congrArg List.length h2
    simp at this
    omega
theorem DecPost.bad {l : List UInt8} {e m : Nat} {r : Ending} (h : DecPost l e m r) {cs : List Nat} {rest : List UInt8} (hs : M.Steps e (l.drop m) cs rest) (hn : (M.nx e rest).2 = 0) (hr0 : rest ≠ []) : r = badEnd (l.length - rest.length) := by
  obtain ⟨ds, i, hmi, hil, hst, _, hr⟩ := h
  have hstuck : (M.nx e (l.drop i)).2 = 0 := by
    rcases hr with ⟨hi, _⟩ | ⟨_, h, _⟩
    · rw [hi, List.drop_length, M.nx_nil]
    · exact h
  obtain ⟨rfl, h2⟩ := hs.det hn hst hstuck
  have hlen := congrArg List.length h2
  rw [List.length_drop] at hlen
  have hpos : 0 < rest.length := List.length_pos_iff.2 hr0
  rcases hr with ⟨hi, hr⟩ | ⟨hi, _, hr⟩
  · omega
  · rw [hr, show i = l.length - rest.length by omega]; rfl

theorem wf_a : M.Wf (bA [97]).data.toList [97] := ⟨by intro c hc; rw [List.mem_singleton.1 hc]; left; omega, by decide⟩

theorem HasBytes.lit (w : World) (l : List UInt8) : HasBytes (w.alloc (.cells (l.map bcell).toArray 5)) w.heap.size 0 l := fun j hj => by
  rw [World.cell?_alloc_mark, Nat.zero_add]
  simp [hj, bcell_by8]
theorem k1 (w : World) : Calls Tryd.prog 11 #[.slice (some ⟨w.heap.size, 0, none⟩) 2 2] (w.alloc (.cells #[.int .u8 97, .int .u8 0] 5)) fun r w' => r = .returned (.tuple #[.int .i64 3, .int .i64 0]) ∧ Below w.heap.size w w' := by
  refine (detect_any w.heap.size 0 2 [97, 0] _ (HasBytes.lit w [97, 0])).mono ?_
  rintro r w' ⟨rfl, rfl⟩
  exact ⟨ret_int2 (by decide) (by decide), (Below.refl _ _).alloc (Nat.le_refl _) _⟩
theorem decode_lit (w : World) (l : List UInt8) (hT : Tabs w) (hl : l.length ≤ 100000) :
    Calls Tryd.prog 13 #[.slice (some ⟨w.heap.size, 0, none⟩) l.length l.length] (w.alloc (.cells (l.map bcell).toArray 5)) fun r w' => DecPost l (det l).1.toNat (det l).2.toNat r ∧ Below w.heap.size w w' := by
  have hb := (Below.refl w.heap.size w).alloc (Nat.le_refl _) (.cells (l.map bcell).toArray 5)
  refine (decode_any w.heap.size 0 l.length l _ (hT.below hb) (HasBytes.lit w l) (by simp) (Nat.le_refl _) hl).mono ?_
  rintro r w' ⟨h1, h2⟩
  exact ⟨h1, hb.trans (h2.mono (by simp))⟩
theorem k2 (w : World) (hT : Tabs w) : Calls Tryd.prog 13 #[.slice (some ⟨w.heap.size, 0, none⟩) 4 4] (w.alloc (.cells #[.int .u8 239, .int .u8 187, .int .u8 191, .int .u8 97] 5)) fun r w' => r = okEnd 1 3 ⟨#[97]⟩ ∧ Below w.heap.size w w' := by
  refine (decode_lit w [239, 187, 191, 97] hT (by decide)).mono ?_
  rintro r w' ⟨h, hb⟩
  have e1 : (det [239, 187, 191, 97]).1.toNat = 1 := by decide
  have e2 : (det [239, 187, 191, 97]).2.toNat = 3 := by decide
  rw [e1, e2] at h
  exact ⟨h.ok (by omega) (cs := [97]) (by intro c hc; rw [List.mem_singleton.1 hc]; left; omega) (by decide), hb⟩
theorem k3 (w : World) (hT : Tabs w) : Calls Tryd.prog 13 #[.slice (some ⟨w.heap.size, 0, none⟩) 2 2] (w.alloc (.cells #[.int .u8 97, .int .u8 255] 5)) fun r w' => r = badEnd 1 ∧ Below w.heap.size w w' := by
  refine (decode_lit w [97, 255] hT (by decide)).mono ?_
  rintro r w' ⟨h, hb⟩
  have e1 : (det [97, 255]).1.toNat = 1 := by decide
  have e2 : (det [97, 255]).2.toNat = 0 := by decide
  rw [e1, e2] at h
  have S := M.Steps.enc 1 (by omega) [97] (by intro c hc; rw [List.mem_singleton.1 hc]; left; omega) [255]
  exact ⟨h.bad (cs := [97]) (rest := [255]) S (by decide) (by decide), hb⟩
theorem k4 (w : World) (hT : Tabs w) : Calls Tryd.prog 18 #[.int .i64 2, .string ⟨#[97]⟩] w fun r w' => r = .returned (.int .i64 2) ∧ Below w.heap.size w w' := by
  refine (size_wf 2 ⟨#[97]⟩ [97] w hT (by decide) wf_a).mono ?_
  rintro r w' ⟨rfl, hb⟩
  exact ⟨ret_int (by decide), hb⟩
theorem k5 (w : World) (hT : Tabs w) : Calls Tryd.prog 16 #[.int .i64 9, .string ⟨#[97]⟩] w fun r w' => r = .returned (.slice none 0 0) ∧ Below w.heap.size w w' := by
  refine (encode_wf 9 ⟨#[97]⟩ [97] w hT (by decide) wf_a).mono ?_
  rintro r w' ⟨h, hb⟩
  rcases h with ⟨_, h⟩ | ⟨h, _⟩
  · exact ⟨h, hb⟩
  · exact absurd (by decide) h

set_option maxRecDepth 100000 in
set_option maxHeartbeats 2000000 in
theorem known_any (w : World) (hT : Tabs w) :
    Calls Tryd.prog 10 #[] w fun r w' => r = .returned (.bool true) ∧ Below w.heap.size w w' := by
  go_enter Tryd.func10, Tryd.ntmps10
  go_wp2_with fail
  refine (k1 w).mono ?_
  rintro r w1 ⟨rfl, hb1⟩
  have hT1 := hT.below hb1
  go_wp2_with fail
  refine (k2 w1 hT1).mono ?_
  rintro r w2 ⟨rfl, hb2⟩
  have hT2 := hT1.below hb2
  have hb02 := hb1.trans (hb2.mono hb1.size)
  unfold okEnd
  go_wp2_with fail
  obtain ⟨W, hWe⟩ : ∃ W, W = (w2.alloc (.cells #[.int .i64 1, .int .i64 3, .string ⟨#[97]⟩] 27)).alloc (.cells #[.int .i64 0, .int .i64 0] 30) := ⟨_, rfl⟩
  have hWz : W.heap.size = w2.heap.size + 1 + 1 := by rw [hWe]; simp
  have hb2W : Below w2.heap.size w2 W := by rw [hWe]; exact ((Below.refl _ _).alloc (Nat.le_refl _) _).alloc (by simp) _
  have hW0 : W.heap[w2.heap.size]? = some (.cells #[.int .i64 1, .int .i64 3, .string ⟨#[97]⟩] 27 (0, 0)) := by
    rw [hWe]; exact (Below.heap_alloc _ _ _ (by simp)).trans (heap_alloc_new w2 _)
  have hW1 : W.heap[w2.heap.size + 1]? = some (.cells #[.int .i64 0, .int .i64 0] 30 (0, 0)) := by
    rw [hWe]; have h := heap_alloc_new (w2.alloc (.cells #[.int .i64 1, .int .i64 3, .string ⟨#[97]⟩] 27)) (.cells #[.int .i64 0, .int .i64 0] 30); simpa using h
  have hTW := hT2.below hb2W
  have c3 := k3 W hTW
  rw [hWz, hWe] at c3
  refine c3.mono ?_
  rw [← hWe]
  clear c3 hWe
  rintro r w3 ⟨rfl, hb3⟩
  have g0 := (hb3.block w2.heap.size (by omega)).trans hW0
  have g1 := (hb3.block (w2.heap.size + 1) (by omega)).trans hW1
  have hb03 := hb02.trans ((hb2W.mono hb02.size).trans (hb3.mono (by have := hb02.size; omega)))
  have z3a : w2.heap.size < w3.heap.size := by have := hb3.size; omega
  have z3b : w2.heap.size + 1 < w3.heap.size := by have := hb3.size; omega
  have p0 : w3.cell? ⟨w2.heap.size, 0, none⟩ = some (.int .i64 1) := by simp [World.cell?, g0]
  have p1 : w3.cell? ⟨w2.heap.size, 1, none⟩ = some (.int .i64 3) := by simp [World.cell?, g0]
  have p2 : w3.cell? ⟨w2.heap.size, 2, none⟩ = some (.string ⟨#[97]⟩) := by simp [World.cell?, g0]
  have q0 : w3.cell? ⟨w2.heap.size + 1, 0, none⟩ = some (.int .i64 0) := by simp [World.cell?, g1]
  have q1 : w3.cell? ⟨w2.heap.size + 1, 1, none⟩ = some (.int .i64 0) := by simp [World.cell?, g1]
  have hT3 : Tabs w3 := hT.below hb03
  have hw3 := hb03.size
  clear g0 g1 hb3 hW0 hW1 hb2W hTW hWz hT2 hb02 hT1 hb2 hT
  unfold badEnd
  go_wp2_with fail
  have hbx : Below w3.heap.size w3 ((w3.alloc (.cells #[.int .i64 0, .int .i64 0, .string ⟨#[]⟩] 27)).alloc (.cells #[.int .i64 10, .int .i64 1] 30)) := ((Below.refl _ _).alloc (Nat.le_refl _) _).alloc (by simp) _
  refine (k4 _ (hT3.below hbx)).mono ?_
  rintro r w4 ⟨rfl, hb4⟩
  have hb34 : Below w3.heap.size w3 w4 := hbx.trans (hb4.mono (by simp; omega))
  have hT4 := hT3.below hb34
  clear hbx hb4 p0 p1 p2 q0 q1 hT3
  go_wp2_with fail
  refine (k5 _ hT4).mono ?_
  rintro r w5 ⟨rfl, hb5⟩
  go_wp2
  go_ret
  exact ⟨rfl, (hb03.trans (hb34.mono hw3)).trans (hb5.mono (by have := hb34.size; omega))⟩

end Go.Proofs.YthlbeoakaebcpaaDoor
