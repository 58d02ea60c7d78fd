/- Walk of targum/utf's Encode. -/
import Derived.Test.YthlbeoakaebcpaaDoorWh
import Derived.Lib.OthersKept
namespace Go.Proofs.YthlbeoakaebcpaaDoor
open Go.RowKit

theorem Tryd.info5 : (Tryd.prog.info? 5).map (fun i => (i.zero, i.size, i.bytes)) = some (some (.int .u8 0), 1, 1) := by kernel_rfl

/-- What Encode answers: new memory that holds these bytes, or nothing. -/
def EncPost (L : List UInt8) (w : World) (r : Ending) (w' : World) : Prop :=
  (L = [] ∧ r = .returned (.slice none 0 0)) ∨ (L ≠ [] ∧ ∃ g, r = .returned (.slice (some ⟨g, 0, none⟩) L.length L.length) ∧ w.heap.size ≤ g ∧ g < w'.heap.size ∧ HasBytes w' g 0 L)

/-- Encode's loop at its head. -/
structure EncRel (e : Nat) (s : ByteArray) (cs : List Nat) (g K N : Nat) (w : World) (k : Nat) (wr : World) : Prop where
  le : k ≤ cs.length
  iter : wr.heap[K]? = some (.stringIter s (M.encAll 1 (cs.take k)).length)
  has : HasBytes wr g 0 (M.encAll e (cs.take k))
  can : Can wr g 0 N
  below : Below w.heap.size w wr
  size : g < wr.heap.size

theorem by8_append_left (a b : List UInt8) (j : Nat) (h : j < a.length) : M.by8 (a ++ b) j = M.by8 a j := by simp [M.by8, List.getElem?_append_left h]
theorem by8_append_right (a b : List UInt8) (j : Nat) (h : a.length ≤ j) : M.by8 (a ++ b) j = M.by8 b (j - a.length) := by simp [M.by8, List.getElem?_append_right h]
theorem bcell_by8 (l : List UInt8) (j : Nat) (h : j < l.length) : bcell l[j] = .int .u8 (M.by8 l j) := by simp [bcell, M.by8, h]
/-- Bytes written behind others. -/
theorem HasBytes.wrote {w w' : World} {b off : Nat} {a x : List UInt8} (h : HasBytes w b off a) (hw : Wrote w w' b (off + a.length) (x.map bcell)) : HasBytes w' b off (a ++ x) := fun j hj => by
  by_cases ha : j < a.length
  · rw [hw.out (off + j) (Or.inl (by omega)), by8_append_left _ _ _ ha]; exact h j ha
  · rw [List.length_append] at hj
    have := hw.inn (j - a.length) (by rw [List.length_map]; omega)
    rw [show off + a.length + (j - a.length) = off + j by omega] at this
    rw [this, List.getElem_map, bcell_by8, by8_append_right _ _ _ (by omega)]
theorem EncRel.next {e : Nat} {s : ByteArray} {cs : List Nat} {g K N : Nat} {w : World} {k : Nat} {wr w1 : World} (h : EncRel e s cs g K N w k wr) (hgK : g ≠ K) (hg : w.heap.size ≤ g) (hK : w.heap.size ≤ K) (hk : k < cs.length)
    (hw : Wrote (wr.iterAt K s (M.encAll 1 (cs.take (k + 1))).length) w1 g (M.encAll e (cs.take k)).length ((M.enc1 e cs[k]).map bcell)) : EncRel e s cs g K N w (k + 1) w1 := by
  have hc : ∀ j, (wr.iterAt K s (M.encAll 1 (cs.take (k + 1))).length).cell? ⟨g, j, none⟩ = wr.cell? ⟨g, j, none⟩ := fun j => World.cell?_of_block (Lib.iterAt_other _ _ _ _ _ hgK)
  have hf : ∀ j, (wr.iterAt K s (M.encAll 1 (cs.take (k + 1))).length).frozen? ⟨g, j, none⟩ = wr.frozen? ⟨g, j, none⟩ := fun j => World.frozen?_of_block (Lib.iterAt_other _ _ _ _ _ hgK)
  refine ⟨hk, ?_, ?_, ?_, ?_, ?_⟩
  · rw [hw.block K (Ne.symm hgK)]; exact Lib.iterAt_heap _ _ _ _ _ h.iter
  · rw [M.encAll_take_succ e cs k hk]
    refine HasBytes.wrote (fun j hj => (hc _).trans (h.has j hj)) ?_
    rw [Nat.zero_add]; exact hw
  · exact hw.can (fun j hj => ⟨by rw [hc]; exact (h.can j hj).1, by rw [hf]; exact (h.can j hj).2⟩)
  · refine (Lib.below_iterAt h.below hK s _).trans ⟨hw.os, hw.tape, hw.output, by rw [hw.size]; exact Nat.le_refl _, fun i hi => hw.block i (by omega)⟩
  · rw [hw.size, Lib.iterAt_size]; exact h.size

set_option maxRecDepth 100000 in
set_option maxHeartbeats 2000000 in
theorem encode_wf (e : Int) (s : ByteArray) (cs : List Nat) (w : World) (hT : Tabs w) (hs : s.size ≤ 2000) (hw : M.Wf s.data.toList cs) :
    Calls Tryd.prog 16 #[.int .i64 e, .string s] w fun r w' => EncPost (M.encAll e.toNat cs) w r w' ∧ Below w.heap.size w w' := by
  have c1 := size_wf e s cs w hT hs hw
  have hcl := M.wf_len hw
  rw [← sz_list] at hcl
  have hN : (M.encAll e.toNat cs).length ≤ 8000 := by have := M.encAll_le e.toNat cs; omega
  obtain ⟨N, hNe⟩ : ∃ N, (M.encAll e.toNat cs).length = N := ⟨_, rfl⟩
  rw [hNe] at c1 hN
  have HN := Lib.hid hNe
  have HW := Lib.hid hw
  clear hNe hw
  obtain ⟨i0, hi, hz0, hz1, hz2⟩ := info_parts Tryd.info5
  go_enter Tryd.func16, Tryd.ntmps16
  go_wp2_with fail
  refine c1.mono ?_
  rintro r w1 ⟨rfl, hb1⟩
  obtain ⟨W, hrun, hown, hgrow⟩ := run_make_full (P := Tryd.prog) w1 w1.heap.size 22 5 i0 (.int .u8 0) 1 Tryd.underlying22 hi hz0 hz1 .i64 .i64 N (by rw [hz2]; omega) (by unfold maxLen; omega) (Nat.le_refl _)
  have hbW : Below w.heap.size w W := hb1.grown hgrow hb1.size (by simp)
  have hcan : Can W w1.heap.size 0 N := fun j hj => by
    have hc := hown.cellAt j (by omega)
    have hx := hown.1
    rw [Nat.zero_add, hc, List.getElem?_eq_getElem (by omega)]
    exact ⟨rfl, hown.frozenAt j⟩
  clear hgrow hown c1
  by_cases hN0 : N = 0
  · subst hN0
    have hrun0 : (Instr.makeSlice 22 (.int .i64 0) (.int .i64 0)).run Tryd.prog w1 = .ok (.slice (some ⟨w1.heap.size, 0, none⟩) 0 0) W := hrun
    clear hrun
    go_wp2
    go_ret
    exact ⟨Or.inl ⟨List.length_eq_zero_iff.1 HN.out, rfl⟩, hbW⟩
  · have hNb : ((N : Int) == 0) = false := by simp; omega
    have hgW : w1.heap.size < W.heap.size := by
      have h := (hcan 0 (by omega)).1
      obtain ⟨u, hu⟩ := Option.isSome_iff_exists.1 h
      exact World.block_lt_of_cell? W _ hu
    have hee : 1 ≤ e.toNat ∧ e.toNat ≤ 5 := by
      rcases Decidable.em (1 ≤ e.toNat ∧ e.toNat ≤ 5) with h | h
      · exact h
      · have := HN.out; rw [M.encAll_none _ h] at this; simp at this; omega
    have hw1 := hb1.size
    obtain ⟨en, rfl⟩ := Int.eq_ofNat_of_zero_le (show 0 ≤ e by omega)
    rw [Int.toNat_natCast] at *
    go_wp2
    go_loopw [6] (fun v wr => ∃ k : Nat, v = .int .i64 ((M.encAll en (cs.take k)).length : Nat) ∧ EncRel en s cs w1.heap.size W.heap.size N w k wr) (fun _ wr => s.size - wr.iterPos W.heap.size)
    case atStart =>
      refine ⟨0, rfl, Nat.zero_le _, ?_, fun j hj => by simp [M.encAll] at hj, ?_, hbW.alloc hbW.size _, by show _ < (W.alloc _).heap.size; simp; omega⟩
      · exact World.iter_heap W s 0
      · intro j hj
        have h := hcan j hj
        have hbb : Below W.heap.size W (W.iter s 0) := (Below.refl W.heap.size W).alloc (Nat.le_refl _) (.stringIter s 0)
        exact ⟨by rw [hbb.cell (p := ⟨w1.heap.size, 0 + j, none⟩) hgW]; exact h.1, by rw [hbb.frozen (p := ⟨w1.heap.size, 0 + j, none⟩) hgW]; exact h.2⟩
    case round =>
      obtain ⟨k, rfl, hrel⟩ := hrel
      by_cases hlt : k < cs.length
      · have hp := pos_lt s cs HW.out k hlt
        have hnx : ∀ ty, (Instr.next (.pointer (some ⟨W.heap.size, 0, none⟩)) true ty).run Tryd.prog wr = _ := fun ty => Lib.run_next_any_at wr W.heap.size s _ ty hrel.iter hp
        rw [decode_wf s cs HW.out k hlt] at hnx
        have hsc := HW.out.1 _ (List.getElem_mem hlt)
        have hnext := fun w' => hrel.next (w1 := w') (by omega) (by omega) (by omega) hlt
        rw [M.encAll_take_succ 1 cs k hlt, List.length_append] at hnext
        have htl := M.take_lt en hee cs k hlt
        rw [HN.out] at htl
        have b3 := M.enc1_length en cs[k] hee
        have hcan1 := hrel.can
        have hc2 : ∀ P, Can (wr.iterAt W.heap.size s P) w1.heap.size (M.encAll en (cs.take k)).length (M.enc1 en cs[k]).length := fun P j hj => by
          have h := hcan1 ((M.encAll en (cs.take k)).length + j) (by omega)
          rw [Nat.zero_add] at h
          exact ⟨by rw [World.cell?_of_block (Lib.iterAt_other _ _ _ _ _ (by simp; omega))]; exact h.1, by rw [World.frozen?_of_block (Lib.iterAt_other _ _ _ _ _ (by simp; omega))]; exact h.2⟩
        have H1 := Lib.hid (M.encAll_take_succ en cs k hlt)
        have b4 := M.enc1_length 1 cs[k] (by omega)
        have HP := Lib.hid (iterPos_of hrel.iter)
        have HQ := Lib.hid (M.encAll_take_succ 1 cs k hlt)
        have c2 := fun P => put_any en hee w1.heap.size (M.encAll en (cs.take k)).length (N - (M.encAll en (cs.take k)).length) (N - (M.encAll en (cs.take k)).length) cs[k] (wr.iterAt W.heap.size s P) hsc (by omega) (Nat.le_refl _) (hc2 P)
        have c3 := fun w => sizeOf_any (en : Int) cs[k] w hsc
        rw [Int.toNat_natCast] at c3
        clear hsc hcan1 hc2 hcan hrun hrel
        generalize cs[k] = c at *
        generalize hA : (M.encAll 1 (cs.take k)).length = A at *
        generalize hE : (M.encAll en (cs.take k)).length = E at *
        have HA := Lib.hid hA
        have HE := Lib.hid hE
        clear hA hE
        have hEN : (E : Int) ≤ (N : Int) := by omega
        have hEN2 : E < N := by omega
        have hEb : E ≤ 8000 := by omega
        have hcb : (M.enc1 en c).length ≤ 4 := b3.2
        go_wp2_with fail
        refine (c2 _).mono ?_
        rintro r w2 ⟨rfl, hw2⟩
        have hr2 := hnext _ hw2
        have HR2 := Lib.hid hr2
        clear hr2 hw2 hnext c2 hnx b3 b4
        go_wp2_with fail
        refine (c3 _).mono ?_
        rintro r w3 ⟨rfl, rfl⟩
        go_wp2
        go_roundw
        case rel => exact ⟨k + 1, by rw [H1.out, List.length_append, HE.out]; go_num, HR2.out⟩
        case measure =>
          have h1 := iterPos_of HR2.out.iter
          have h2 := HP.out
          rw [HQ.out, List.length_append, HA.out] at h1
          have := M.utf8_length c
          rw [M.enc1_1] at h1
          simp only [h1, h2]
          omega
      · have hkk : k = cs.length := by have := hrel.le; omega
        subst hkk
        have hp := pos_end s cs HW.out
        have hit := hrel.iter
        rw [List.take_length] at hp hit ⊢
        have hnx : ∀ ty, (Instr.next (.pointer (some ⟨W.heap.size, 0, none⟩)) true ty).run Tryd.prog wr = _ := fun ty => Lib.run_next_end_at wr W.heap.size s _ ty hit (by omega)
        have hh := hrel.has
        rw [List.take_length] at hh
        have HH := Lib.hid hh
        have HB := Lib.hid hrel.below
        have hsz := hrel.size
        clear hp hit hh hrel hcan hrun
        go_wp2
        go_ret
        refine ⟨?_, HB.out⟩
        rw [Int.toNat_natCast]
        refine Or.inr ⟨?_, w1.heap.size, ?_, hw1, hsz, HH.out⟩
        · intro h; have := HN.out; rw [h] at this; simp at this; omega
        · rw [HN.out]; rfl

set_option maxRecDepth 100000 in
set_option maxHeartbeats 2000000 in
theorem encode_bad (e : Int) (s : ByteArray) (w : World) (hT : Tabs w) (hs : s.size ≤ 2000) (hv : Lib.validD s.data.toList = false) :
    Calls Tryd.prog 16 #[.int .i64 e, .string s] w fun r w' => r = .returned (.slice none 0 0) ∧ Below w.heap.size w w' := by
  have c1 := size_bad e s w hT hs hv
  clear hv
  obtain ⟨i0, hi, hz0, hz1, hz2⟩ := info_parts Tryd.info5
  go_enter Tryd.func16, Tryd.ntmps16
  go_wp2_with fail
  refine c1.mono ?_
  rintro r w1 ⟨rfl, hb1⟩
  obtain ⟨W, hrun, hown, hgrow⟩ := run_make_full (P := Tryd.prog) w1 w1.heap.size 22 5 i0 (.int .u8 0) 1 Tryd.underlying22 hi hz0 hz1 .i64 .i64 0 (by rw [hz2]; omega) (by unfold maxLen; omega) (Nat.le_refl _)
  have hbW : Below w.heap.size w W := hb1.grown hgrow hb1.size (by simp)
  have hrun0 : (Instr.makeSlice 22 (.int .i64 0) (.int .i64 0)).run Tryd.prog w1 = .ok (.slice (some ⟨w1.heap.size, 0, none⟩) 0 0) W := hrun
  clear hgrow hown c1 hrun
  go_wp2
  go_ret
  exact ⟨rfl, hbW⟩

end Go.Proofs.YthlbeoakaebcpaaDoor
