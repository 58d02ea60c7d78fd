/- Walks of the document's answers (targumref1), on: Encode, Size; targumhelp.Bytes. -/
import Derived.Test.YthlbeoakaebcpaaDoorTf
namespace Go.Proofs.YthlbeoakaebcpaaDoor
open Go.RowKit

set_option maxRecDepth 100000 in
theorem bytes_any (v1 v2 : Value) (s : ByteArray) (w : World) (h1 : (convert 22 9 v1).run Tryd.prog w = .ok (.string s) w) (h2 : (convert 22 9 v2).run Tryd.prog w = .ok (.string s) w) :
    Calls Tryd.prog 15 #[v1, v2] w fun r w' => r = .returned (.bool true) ∧ w = w' := by
  go_enter Tryd.func15, Tryd.ntmps15
  go_wp2
  go_ret
  exact ⟨rfl, rfl⟩

/-- What targumref1.Encode answers: a row of its own that holds these bytes. -/
def ROwn (L : List UInt8) (w : World) (r : Ending) (w' : World) : Prop := ∃ v, r = .returned v ∧ w'.ownsRow w.heap.size 5 1 v L.length (L.map bcell) ∧ Below w.heap.size w w'

set_option maxRecDepth 100000 in
set_option maxHeartbeats 1000000 in
theorem rencode_out (e : Int) (s : ByteArray) (w : World) (hs : s.size ≤ 10000) (h : e < 1 ∨ 5 < e ∨ Lib.validD s.data.toList = false) :
    Calls Tryd.prog 17 #[.int .i64 e, .string s] w fun r w' => r = .returned (.slice none 0 0) ∧ w = w' := by
  have c1 := well_any s w (by omega)
  by_cases h1 : e < 1
  · have d1 : decide (e < 1) = true := by simpa using h1
    clear h h1 c1
    go_enter Tryd.func17, Tryd.ntmps17
    go_wp2
    go_ret
    exact ⟨rfl, rfl⟩
  by_cases h2 : 5 < e
  · have d1 : decide (e < 1) = false := by simpa using h1
    have d2 : decide (5 < e) = true := by simpa using h2
    clear h h1 h2 c1
    go_enter Tryd.func17, Tryd.ntmps17
    go_wp2
    go_ret
    exact ⟨rfl, rfl⟩
  have d1 : decide (e < 1) = false := by simpa using h1
  have d2 : decide (5 < e) = false := by simpa using h2
  have hv : Lib.validD s.data.toList = false := by rcases h with h | h | h; exact absurd h h1; exact absurd h h2; exact h
  rw [hv] at c1
  clear h h1 h2 hv
  go_enter Tryd.func17, Tryd.ntmps17
  go_wp2_with (go_at_call 21; refine c1.mono ?_; rintro r w2 ⟨rfl, rfl⟩)
  go_ret
  exact ⟨rfl, rfl⟩

/-- Encode's loop at its head. -/
def REnc (e : Nat) (cs : List Nat) (w : World) (v : Value) (k : Nat) (wr : World) : Prop :=
  k ≤ cs.length ∧ wr.ownsRow w.heap.size 5 1 v (M.encAll e (cs.take k)).length ((M.encAll e (cs.take k)).map bcell) ∧ Below w.heap.size w wr

theorem nx8_wf (s : ByteArray) (cs : List Nat) (hw : M.Wf s.data.toList cs) (k : Nat) (hk : k < cs.length) : M.nx8 (s.data.toList.drop (M.encAll 1 (cs.take k)).length) = (cs[k], (M.enc1 1 cs[k]).length) := by
  rw [hw.2, M.drop_at cs k hk, M.nx8_enc _ _ (hw.1 _ (List.getElem_mem hk)), M.enc1_1]

set_option maxRecDepth 100000 in
set_option maxHeartbeats 4000000 in
theorem rencode_1 (s : ByteArray) (cs : List Nat) (w : World) (hs : s.size ≤ 2000) (hw : M.Wf s.data.toList cs) :
    Calls Tryd.prog 17 #[.int .i64 1, .string s] w fun r w' => ROwn (M.encAll 1 cs) w r w' := by
  have c1 := well_any s w (by omega)
  rw [M.valid_wf hw] at c1
  have hcl := M.wf_len hw
  rw [← sz_list] at hcl
  have HW := Lib.hid hw
  clear hw
  obtain ⟨i0, hi, hz0, hz1, hz2⟩ := info_parts Tryd.info5
  go_enter Tryd.func17, Tryd.ntmps17
  go_wp2_with (go_at_call 21; refine c1.mono ?_; rintro r w2 ⟨rfl, rfl⟩)
  clear c1
  go_loopw [5, 6] (fun v u wr => ∃ k : Nat, u = .int .i64 ((M.encAll 1 (cs.take k)).length : Nat) ∧ REnc 1 cs w v k wr) (fun _ u _ => s.size - (intOf u).toNat)
  case atStart => exact ⟨0, rfl, Nat.zero_le _, World.ownsRow_nil _ _ _ _, Below.refl _ _⟩
  case round =>
    obtain ⟨k, rfl, hk, hown, hbw⟩ := hrel
    have hwsz := hbw.size
    by_cases hlt : k < cs.length
    · have hp := pos_lt s cs HW.out k hlt
      have c2 := rnext_any s _ wr hp (by omega)
      rw [nx8_wf s cs HW.out k hlt] at c2
      simp only at c2
      have hsc := HW.out.1 _ (List.getElem_mem hlt)
      have hcb : cs[k] ≤ 1114111 := by unfold M.IsScalar at hsc; omega
      have H2 := Lib.hid (M.encAll_take_succ 1 cs k hlt)
      have b3 := M.enc1_length 1 cs[k] (by omega)
      rw [M.enc1_1] at c2 b3 H2
      clear hsc
      generalize cs[k] = c at *
      generalize M.encAll 1 (cs.take k) = A at *
      have hltd : decide (A.length < s.size) = true := by simpa using hp
      go_wp2_with fail
      refine c2.mono ?_
      rintro r w3 ⟨rfl, rfl⟩
      clear c2
      go_wp2_with fail
      refine (rutf8_any c wr hcb).mono ?_
      rintro r w4 ⟨g, rfl, hg1, hg2, hB, hb4⟩
      have hown4 := ownsRow_below hown hb4
      have hb04 : Below w.heap.size w w4 := hbw.trans (hb4.mono (by omega))
      have hz4 := hb04.size
      clear hown hb4 hbw
      generalize M.utf8 c = U at *
      go_wp2_with (first | (at_builtin; refine wpList_append_own _ rfl (.tmp 42) (.tmp 44) 22 rfl w.heap.size 5 i0 (.int .u8 0) 1 1 Tryd.underlying22 hi hz0 hz1 hz2 rfl (by decide) u5 A.length (A.map bcell) rfl hown4 ⟨g, 0, none⟩ U.length U.length (U.map bcell) rfl (by simp) (has_news hB) (bcell_one _) (by unfold maxLen; omega) (by omega) hz4 ?_; intro v5 w5 hown5 hgrow5 _; have hb05 : Below w.heap.size w w5 := hb04.grown hgrow5 hz4 (fun k hk => (hown4.lt k hk).1); have HO := Lib.hid hown5; clear hgrow5 hown5 hown4) | fail)
      go_roundw
      case rel => exact ⟨k + 1, by rw [H2.out, List.length_append]; go_num, hlt, by rw [H2.out, List.length_append, List.map_append]; exact HO.out, hb05⟩
      case measure => simp [intOf]; omega
    · obtain rfl : k = cs.length := by omega
      have hp := pos_end s cs HW.out
      rw [List.take_length] at hp hown ⊢
      have hltd : decide ((M.encAll 1 cs).length < s.size) = false := by simp; omega
      have HO := Lib.hid hown
      clear hp hown hi hz0 hz1 hz2
      generalize hA : M.encAll 1 cs = A at *
      have HA := Lib.hid hA
      clear hA
      go_wp2
      go_ret
      exact ⟨u5, rfl, by rw [HA.out]; exact HO.out, hbw⟩

end Go.Proofs.YthlbeoakaebcpaaDoor
