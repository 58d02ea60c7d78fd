/- Walks of the document's answers (targumref1), on: Encode in units; Size. -/
import Derived.Test.YthlbeoakaebcpaaDoorTh
namespace Go.Proofs.YthlbeoakaebcpaaDoor
open Go.RowKit

theorem utf16_small (be : Bool) (c : Nat) (h : c < 65536) : M.utf16 be c = M.unit2 be c := by unfold M.utf16; rw [if_pos h]
theorem utf16_great (be : Bool) (c : Nat) (h : ¬ c < 65536) : M.utf16 be c = M.unit2 be (55296 + (c - 65536) / 1024) ++ M.unit2 be (56320 + (c - 65536) % 1024) := by unfold M.utf16; rw [if_neg h]

set_option maxRecDepth 100000 in
set_option maxHeartbeats 4000000 in
theorem rencode_4 (s : ByteArray) (cs : List Nat) (w : World) (hs : s.size ≤ 2000) (hw : M.Wf s.data.toList cs) :
    Calls Tryd.prog 17 #[.int .i64 4, .string s] w fun r w' => ROwn (M.encAll 4 cs) w r w' := by
  have c1 := well_any s w (by omega)
  rw [M.valid_wf hw] at c1
  have hcl := M.wf_len hw
  rw [← sz_list] at hcl
  have HW := Lib.hid hw
  clear hw
  obtain ⟨i0, hi, hz0, hz1, hz2⟩ := info_parts Tryd.info5
  go_enter Tryd.func17, Tryd.ntmps17
  go_wp2_with (go_at_call 21; refine c1.mono ?_; rintro r w2 ⟨rfl, rfl⟩)
  clear c1
  go_loopw [5, 6] (fun v u wr => ∃ k : Nat, u = .int .i64 ((M.encAll 1 (cs.take k)).length : Nat) ∧ REnc 4 cs w v k wr) (fun _ u _ => s.size - (intOf u).toNat)
  case atStart => exact ⟨0, rfl, Nat.zero_le _, World.ownsRow_nil _ _ _ _, Below.refl _ _⟩
  case round =>
    obtain ⟨k, rfl, hk, hown, hbw⟩ := hrel
    have hwsz := hbw.size
    by_cases hlt : k < cs.length
    · have hp := pos_lt s cs HW.out k hlt
      have c2 := rnext_any s _ wr hp (by omega)
      rw [nx8_wf s cs HW.out k hlt] at c2
      simp only at c2
      have hsc := HW.out.1 _ (List.getElem_mem hlt)
      have hcb : cs[k] ≤ 1114111 := by unfold M.IsScalar at hsc; omega
      have H2 := Lib.hid (M.encAll_take_succ 1 cs k hlt)
      have H3 := Lib.hid (M.encAll_take_succ 4 cs k hlt)
      have hAl := M.encAll_le 4 (cs.take k)
      rw [List.length_take] at hAl
      have b3 := M.enc1_length 1 cs[k] (by omega)
      rw [M.enc1_1] at c2 b3 H2
      rw [M.enc1_4] at H3
      clear hsc
      generalize cs[k] = c at *
      generalize M.encAll 1 (cs.take k) = B at *
      generalize M.encAll 4 (cs.take k) = A at *
      generalize hul0 : (M.utf8 c).length = ul at *
      have HUL0 := Lib.hid hul0
      clear hul0
      have hA8 : A.length ≤ 8000 := by omega
      have hltd : decide (B.length < s.size) = true := by simpa using hp
      have hcz : (c : Int) ≤ 1114111 := by omega
      clear hAl
      have c3 := fun w' => runits_4 c false w' hcb
      rw [show (!false) = true from rfl] at c3
      have hul := M.unit4_length true c
      generalize M.unit4 true c = U at *
      have hu4 : U.length ≤ 4 := by omega
      clear hul
      go_wp2_with fail
      refine c2.mono ?_
      rintro r w3 ⟨rfl, rfl⟩
      clear c2
      go_wp2_with fail
      refine (c3 wr).mono ?_
      rintro r w4 ⟨g4, rfl, hg1, hg2, hB4, hb4⟩
      have hown4 := ownsRow_below hown hb4
      have hb04 : Below w.heap.size w w4 := hbw.trans (hb4.mono (by omega))
      have hz4 := hb04.size
      clear hown hb4 hbw c3
      go_wp2_with (first | (at_builtin; refine wpList_append_own _ rfl (.tmp 34) (.tmp 38) 22 rfl w.heap.size 5 i0 (.int .u8 0) 1 1 Tryd.underlying22 hi hz0 hz1 hz2 rfl (by decide) u5 A.length (A.map bcell) rfl hown4 ⟨g4, 0, none⟩ U.length U.length (U.map bcell) rfl (by simp) (has_news hB4) (bcell_one _) (by unfold maxLen; omega) (by omega) hz4 ?_; intro v5 w5 hown5 hgrow5 _; have hb05 : Below w.heap.size w w5 := hb04.grown hgrow5 hz4 (fun k hk => (hown4.lt k hk).1); clear hgrow5) | fail)
      have HO := Lib.hid hown5
      clear hown5 hown4
      go_roundw
      case rel => exact ⟨k + 1, by rw [H2.out, List.length_append, HUL0.out]; go_num, hlt, by rw [H3.out, List.length_append, List.map_append]; exact HO.out, hb05⟩
      case measure => simp [intOf]; omega
    · obtain rfl : k = cs.length := by omega
      have hp := pos_end s cs HW.out
      rw [List.take_length] at hp hown ⊢
      have hltd : decide ((M.encAll 1 cs).length < s.size) = false := by simp; omega
      have HO := Lib.hid hown
      clear hp hown hi hz0 hz1 hz2
      generalize M.encAll 1 cs = B at *
      generalize hA : M.encAll 4 cs = A at *
      have HA := Lib.hid hA
      clear hA
      go_wp2
      go_ret
      exact ⟨u5, rfl, by rw [HA.out]; exact HO.out, hbw⟩

set_option maxRecDepth 100000 in
set_option maxHeartbeats 4000000 in
theorem rencode_5 (s : ByteArray) (cs : List Nat) (w : World) (hs : s.size ≤ 2000) (hw : M.Wf s.data.toList cs) :
    Calls Tryd.prog 17 #[.int .i64 5, .string s] w fun r w' => ROwn (M.encAll 5 cs) w r w' := by
  have c1 := well_any s w (by omega)
  rw [M.valid_wf hw] at c1
  have hcl := M.wf_len hw
  rw [← sz_list] at hcl
  have HW := Lib.hid hw
  clear hw
  obtain ⟨i0, hi, hz0, hz1, hz2⟩ := info_parts Tryd.info5
  go_enter Tryd.func17, Tryd.ntmps17
  go_wp2_with (go_at_call 21; refine c1.mono ?_; rintro r w2 ⟨rfl, rfl⟩)
  clear c1
  go_loopw [5, 6] (fun v u wr => ∃ k : Nat, u = .int .i64 ((M.encAll 1 (cs.take k)).length : Nat) ∧ REnc 5 cs w v k wr) (fun _ u _ => s.size - (intOf u).toNat)
  case atStart => exact ⟨0, rfl, Nat.zero_le _, World.ownsRow_nil _ _ _ _, Below.refl _ _⟩
  case round =>
    obtain ⟨k, rfl, hk, hown, hbw⟩ := hrel
    have hwsz := hbw.size
    by_cases hlt : k < cs.length
    · have hp := pos_lt s cs HW.out k hlt
      have c2 := rnext_any s _ wr hp (by omega)
      rw [nx8_wf s cs HW.out k hlt] at c2
      simp only at c2
      have hsc := HW.out.1 _ (List.getElem_mem hlt)
      have hcb : cs[k] ≤ 1114111 := by unfold M.IsScalar at hsc; omega
      have H2 := Lib.hid (M.encAll_take_succ 1 cs k hlt)
      have H3 := Lib.hid (M.encAll_take_succ 5 cs k hlt)
      have hAl := M.encAll_le 5 (cs.take k)
      rw [List.length_take] at hAl
      have b3 := M.enc1_length 1 cs[k] (by omega)
      rw [M.enc1_1] at c2 b3 H2
      rw [M.enc1_5] at H3
      clear hsc
      generalize cs[k] = c at *
      generalize M.encAll 1 (cs.take k) = B at *
      generalize M.encAll 5 (cs.take k) = A at *
      generalize hul0 : (M.utf8 c).length = ul at *
      have HUL0 := Lib.hid hul0
      clear hul0
      have hA8 : A.length ≤ 8000 := by omega
      have hltd : decide (B.length < s.size) = true := by simpa using hp
      have hcz : (c : Int) ≤ 1114111 := by omega
      clear hAl
      have c3 := fun w' => runits_4 c true w' hcb
      rw [show (!true) = false from rfl] at c3
      have hul := M.unit4_length false c
      generalize M.unit4 false c = U at *
      have hu4 : U.length ≤ 4 := by omega
      clear hul
      go_wp2_with fail
      refine c2.mono ?_
      rintro r w3 ⟨rfl, rfl⟩
      clear c2
      go_wp2_with fail
      refine (c3 wr).mono ?_
      rintro r w4 ⟨g4, rfl, hg1, hg2, hB4, hb4⟩
      have hown4 := ownsRow_below hown hb4
      have hb04 : Below w.heap.size w w4 := hbw.trans (hb4.mono (by omega))
      have hz4 := hb04.size
      clear hown hb4 hbw c3
      go_wp2_with (first | (at_builtin; refine wpList_append_own _ rfl (.tmp 34) (.tmp 38) 22 rfl w.heap.size 5 i0 (.int .u8 0) 1 1 Tryd.underlying22 hi hz0 hz1 hz2 rfl (by decide) u5 A.length (A.map bcell) rfl hown4 ⟨g4, 0, none⟩ U.length U.length (U.map bcell) rfl (by simp) (has_news hB4) (bcell_one _) (by unfold maxLen; omega) (by omega) hz4 ?_; intro v5 w5 hown5 hgrow5 _; have hb05 : Below w.heap.size w w5 := hb04.grown hgrow5 hz4 (fun k hk => (hown4.lt k hk).1); clear hgrow5) | fail)
      have HO := Lib.hid hown5
      clear hown5 hown4
      go_roundw
      case rel => exact ⟨k + 1, by rw [H2.out, List.length_append, HUL0.out]; go_num, hlt, by rw [H3.out, List.length_append, List.map_append]; exact HO.out, hb05⟩
      case measure => simp [intOf]; omega
    · obtain rfl : k = cs.length := by omega
      have hp := pos_end s cs HW.out
      rw [List.take_length] at hp hown ⊢
      have hltd : decide ((M.encAll 1 cs).length < s.size) = false := by simp; omega
      have HO := Lib.hid hown
      clear hp hown hi hz0 hz1 hz2
      generalize M.encAll 1 cs = B at *
      generalize hA : M.encAll 5 cs = A at *
      have HA := Lib.hid hA
      clear hA
      go_wp2
      go_ret
      exact ⟨u5, rfl, by rw [HA.out]; exact HO.out, hbw⟩

set_option maxRecDepth 100000 in
set_option maxHeartbeats 4000000 in
theorem rencode_2 (s : ByteArray) (cs : List Nat) (w : World) (hs : s.size ≤ 2000) (hw : M.Wf s.data.toList cs) :
    Calls Tryd.prog 17 #[.int .i64 2, .string s] w fun r w' => ROwn (M.encAll 2 cs) w r w' := by
  have c1 := well_any s w (by omega)
  rw [M.valid_wf hw] at c1
  have hcl := M.wf_len hw
  rw [← sz_list] at hcl
  have HW := Lib.hid hw
  clear hw
  obtain ⟨i0, hi, hz0, hz1, hz2⟩ := info_parts Tryd.info5
  go_enter Tryd.func17, Tryd.ntmps17
  go_wp2_with (go_at_call 21; refine c1.mono ?_; rintro r w2 ⟨rfl, rfl⟩)
  clear c1
  go_loopw [5, 6] (fun v u wr => ∃ k : Nat, u = .int .i64 ((M.encAll 1 (cs.take k)).length : Nat) ∧ REnc 2 cs w v k wr) (fun _ u _ => s.size - (intOf u).toNat)
  case atStart => exact ⟨0, rfl, Nat.zero_le _, World.ownsRow_nil _ _ _ _, Below.refl _ _⟩
  case round =>
    obtain ⟨k, rfl, hk, hown, hbw⟩ := hrel
    have hwsz := hbw.size
    by_cases hlt : k < cs.length
    · have hp := pos_lt s cs HW.out k hlt
      have c2 := rnext_any s _ wr hp (by omega)
      rw [nx8_wf s cs HW.out k hlt] at c2
      simp only at c2
      have hsc := HW.out.1 _ (List.getElem_mem hlt)
      have hcb : cs[k] ≤ 1114111 := by unfold M.IsScalar at hsc; omega
      have H2 := Lib.hid (M.encAll_take_succ 1 cs k hlt)
      have H3 := Lib.hid (M.encAll_take_succ 2 cs k hlt)
      have hAl := M.encAll_le 2 (cs.take k)
      rw [List.length_take] at hAl
      have b3 := M.enc1_length 1 cs[k] (by omega)
      rw [M.enc1_1] at c2 b3 H2
      rw [M.enc1_2] at H3
      clear hsc
      generalize cs[k] = c at *
      generalize M.encAll 1 (cs.take k) = B at *
      generalize M.encAll 2 (cs.take k) = A at *
      generalize hul0 : (M.utf8 c).length = ul at *
      have HUL0 := Lib.hid hul0
      clear hul0
      have hA8 : A.length ≤ 8000 := by omega
      have hltd : decide (B.length < s.size) = true := by simpa using hp
      have hcz : (c : Int) ≤ 1114111 := by omega
      clear hAl
      by_cases h6 : c < 65536
      · rw [utf16_small _ _ h6] at H3
        have d6 : decide ((65536 : Int) ≤ (c : Int)) = false := by simp; omega
        have c3 := fun w' => runits_2 c false w' h6
        rw [show (!false) = true from rfl] at c3
        have hul := M.unit2_length true c
        generalize M.unit2 true c = U at *
        have hu4 : U.length ≤ 2 := by omega
        clear hul h6
        go_wp2_with fail
        refine c2.mono ?_
        rintro r w3 ⟨rfl, rfl⟩
        clear c2
        go_wp2_with fail
        refine (c3 wr).mono ?_
        rintro r w4 ⟨g4, rfl, hg1, hg2, hB4, hb4⟩
        have hown4 := ownsRow_below hown hb4
        have hb04 : Below w.heap.size w w4 := hbw.trans (hb4.mono (by omega))
        have hz4 := hb04.size
        clear hown hb4 hbw c3
        go_wp2_with (first | (at_builtin; refine wpList_append_own _ rfl (.tmp 64) (.tmp 68) 22 rfl w.heap.size 5 i0 (.int .u8 0) 1 1 Tryd.underlying22 hi hz0 hz1 hz2 rfl (by decide) u5 A.length (A.map bcell) rfl hown4 ⟨g4, 0, none⟩ U.length U.length (U.map bcell) rfl (by simp) (has_news hB4) (bcell_one _) (by unfold maxLen; omega) (by omega) hz4 ?_; intro v5 w5 hown5 hgrow5 _; have hb05 : Below w.heap.size w w5 := hb04.grown hgrow5 hz4 (fun k hk => (hown4.lt k hk).1); clear hgrow5) | fail)
        have HO := Lib.hid hown5
        clear hown5 hown4
        go_roundw
        case rel => exact ⟨k + 1, by rw [H2.out, List.length_append, HUL0.out]; go_num, hlt, by rw [H3.out, List.length_append, List.map_append]; exact HO.out, hb05⟩
        case measure => simp [intOf]; omega
      · rw [utf16_great _ _ h6] at H3
        obtain ⟨x, rfl⟩ : ∃ x, c = x + 65536 := ⟨c - 65536, by omega⟩
        rw [show x + 65536 - 65536 = x by omega] at H3
        have d6 : decide ((65536 : Int) ≤ (x : Int) + 65536) = true := by simp; omega
        have c3 := fun w' => runits_2 (55296 + x / 1024) false w' (by omega)
        have c4 := fun w' => runits_2 (56320 + x % 1024) false w' (by omega)
        rw [show (!false) = true from rfl] at c3 c4
        rw [show ((55296 + x / 1024 : Nat) : Int) = 55296 + (x : Int) / 1024 by omega] at c3
        rw [show ((56320 + x % 1024 : Nat) : Int) = 56320 + (x : Int) % 1024 by omega] at c4
        have hul := M.unit2_length true (55296 + x / 1024)
        have hvl := M.unit2_length true (56320 + x % 1024)
        generalize M.unit2 true (55296 + x / 1024) = U at *
        generalize M.unit2 true (56320 + x % 1024) = V at *
        have hu4 : U.length ≤ 2 := by omega
        have hv4 : V.length ≤ 2 := by omega
        have hxb : x < 1048576 := by omega
        rw [show ((x + 65536 : Nat) : Int) = (x : Int) + 65536 by omega] at c2
        clear hul hvl h6 hcb hcz
        go_wp2_with fail
        refine c2.mono ?_
        rintro r w3 ⟨rfl, rfl⟩
        clear c2
        go_wp2_with fail
        refine (c3 wr).mono ?_
        rintro r w4 ⟨g4, rfl, hg1, hg2, hB4, hb4⟩
        have hown4 := ownsRow_below hown hb4
        have hb04 : Below w.heap.size w w4 := hbw.trans (hb4.mono (by omega))
        have hz4 := hb04.size
        clear hown hb4 hbw c3 hg1 hg2
        go_wp2_with (first | (at_builtin; refine wpList_append_own _ rfl (.tmp 51) (.tmp 58) 22 rfl w.heap.size 5 i0 (.int .u8 0) 1 1 Tryd.underlying22 hi hz0 hz1 hz2 rfl (by decide) u5 A.length (A.map bcell) rfl hown4 ⟨g4, 0, none⟩ U.length U.length (U.map bcell) rfl (by simp) (has_news hB4) (bcell_one _) (by unfold maxLen; omega) (by omega) hz4 ?_; intro v5 w5 hown5 hgrow5 _; have hb05 : Below w.heap.size w w5 := hb04.grown hgrow5 hz4 (fun k hk => (hown4.lt k hk).1); clear hgrow5) | fail)
        refine (c4 w5).mono ?_
        rintro r w6 ⟨g6, rfl, hg1, hg2, hB6, hb6⟩
        have hown6 := ownsRow_below hown5 hb6
        have hz5 := hb05.size
        have hb06 : Below w.heap.size w w6 := hb05.trans (hb6.mono hz5)
        have hz6 := hb06.size
        clear hown5 hown4 hb6 hb05 hb04 hB4 c4
        go_wp2_with (first | (at_builtin; refine wpList_append_own _ rfl (.tmp 64) (.tmp 68) 22 rfl w.heap.size 5 i0 (.int .u8 0) 1 1 Tryd.underlying22 hi hz0 hz1 hz2 rfl (by decide) v5 (A.length + U.length) (A.map bcell ++ U.map bcell) rfl hown6 ⟨g6, 0, none⟩ V.length V.length (V.map bcell) rfl (by simp) (has_news hB6) (bcell_one _) (by unfold maxLen; omega) (by omega) hz6 ?_; intro v7 w7 hown7 hgrow7 _; have hb07 : Below w.heap.size w w7 := hb06.grown hgrow7 hz6 (fun k hk => (hown6.lt k hk).1); clear hgrow7) | fail)
        have HO := Lib.hid hown7
        clear hown7 hown6
        go_roundw
        case rel => exact ⟨k + 1, by rw [H2.out, List.length_append, HUL0.out]; go_num, hlt, by rw [H3.out, List.length_append, List.length_append, List.map_append, List.map_append, ← Nat.add_assoc, ← List.append_assoc]; exact HO.out, hb07⟩
        case measure => simp [intOf]; omega
    · obtain rfl : k = cs.length := by omega
      have hp := pos_end s cs HW.out
      rw [List.take_length] at hp hown ⊢
      have hltd : decide ((M.encAll 1 cs).length < s.size) = false := by simp; omega
      have HO := Lib.hid hown
      clear hp hown hi hz0 hz1 hz2
      generalize M.encAll 1 cs = B at *
      generalize hA : M.encAll 2 cs = A at *
      have HA := Lib.hid hA
      clear hA
      go_wp2
      go_ret
      exact ⟨u5, rfl, by rw [HA.out]; exact HO.out, hbw⟩

set_option maxRecDepth 100000 in
set_option maxHeartbeats 4000000 in
theorem rencode_3 (s : ByteArray) (cs : List Nat) (w : World) (hs : s.size ≤ 2000) (hw : M.Wf s.data.toList cs) :
    Calls Tryd.prog 17 #[.int .i64 3, .string s] w fun r w' => ROwn (M.encAll 3 cs) w r w' := by
  have c1 := well_any s w (by omega)
  rw [M.valid_wf hw] at c1
  have hcl := M.wf_len hw
  rw [← sz_list] at hcl
  have HW := Lib.hid hw
  clear hw
  obtain ⟨i0, hi, hz0, hz1, hz2⟩ := info_parts Tryd.info5
  go_enter Tryd.func17, Tryd.ntmps17
  go_wp2_with (go_at_call 21; refine c1.mono ?_; rintro r w2 ⟨rfl, rfl⟩)
  clear c1
  go_loopw [5, 6] (fun v u wr => ∃ k : Nat, u = .int .i64 ((M.encAll 1 (cs.take k)).length : Nat) ∧ REnc 3 cs w v k wr) (fun _ u _ => s.size - (intOf u).toNat)
  case atStart => exact ⟨0, rfl, Nat.zero_le _, World.ownsRow_nil _ _ _ _, Below.refl _ _⟩
  case round =>
    obtain ⟨k, rfl, hk, hown, hbw⟩ := hrel
    have hwsz := hbw.size
    by_cases hlt : k < cs.length
    · have hp := pos_lt s cs HW.out k hlt
      have c2 := rnext_any s _ wr hp (by omega)
      rw [nx8_wf s cs HW.out k hlt] at c2
      simp only at c2
      have hsc := HW.out.1 _ (List.getElem_mem hlt)
      have hcb : cs[k] ≤ 1114111 := by unfold M.IsScalar at hsc; omega
      have H2 := Lib.hid (M.encAll_take_succ 1 cs k hlt)
      have H3 := Lib.hid (M.encAll_take_succ 3 cs k hlt)
      have hAl := M.encAll_le 3 (cs.take k)
      rw [List.length_take] at hAl
      have b3 := M.enc1_length 1 cs[k] (by omega)
      rw [M.enc1_1] at c2 b3 H2
      rw [M.enc1_3] at H3
      clear hsc
      generalize cs[k] = c at *
      generalize M.encAll 1 (cs.take k) = B at *
      generalize M.encAll 3 (cs.take k) = A at *
      generalize hul0 : (M.utf8 c).length = ul at *
      have HUL0 := Lib.hid hul0
      clear hul0
      have hA8 : A.length ≤ 8000 := by omega
      have hltd : decide (B.length < s.size) = true := by simpa using hp
      have hcz : (c : Int) ≤ 1114111 := by omega
      clear hAl
      by_cases h6 : c < 65536
      · rw [utf16_small _ _ h6] at H3
        have d6 : decide ((65536 : Int) ≤ (c : Int)) = false := by simp; omega
        have c3 := fun w' => runits_2 c true w' h6
        rw [show (!true) = false from rfl] at c3
        have hul := M.unit2_length false c
        generalize M.unit2 false c = U at *
        have hu4 : U.length ≤ 2 := by omega
        clear hul h6
        go_wp2_with fail
        refine c2.mono ?_
        rintro r w3 ⟨rfl, rfl⟩
        clear c2
        go_wp2_with fail
        refine (c3 wr).mono ?_
        rintro r w4 ⟨g4, rfl, hg1, hg2, hB4, hb4⟩
        have hown4 := ownsRow_below hown hb4
        have hb04 : Below w.heap.size w w4 := hbw.trans (hb4.mono (by omega))
        have hz4 := hb04.size
        clear hown hb4 hbw c3
        go_wp2_with (first | (at_builtin; refine wpList_append_own _ rfl (.tmp 64) (.tmp 68) 22 rfl w.heap.size 5 i0 (.int .u8 0) 1 1 Tryd.underlying22 hi hz0 hz1 hz2 rfl (by decide) u5 A.length (A.map bcell) rfl hown4 ⟨g4, 0, none⟩ U.length U.length (U.map bcell) rfl (by simp) (has_news hB4) (bcell_one _) (by unfold maxLen; omega) (by omega) hz4 ?_; intro v5 w5 hown5 hgrow5 _; have hb05 : Below w.heap.size w w5 := hb04.grown hgrow5 hz4 (fun k hk => (hown4.lt k hk).1); clear hgrow5) | fail)
        have HO := Lib.hid hown5
        clear hown5 hown4
        go_roundw
        case rel => exact ⟨k + 1, by rw [H2.out, List.length_append, HUL0.out]; go_num, hlt, by rw [H3.out, List.length_append, List.map_append]; exact HO.out, hb05⟩
        case measure => simp [intOf]; omega
      · rw [utf16_great _ _ h6] at H3
        obtain ⟨x, rfl⟩ : ∃ x, c = x + 65536 := ⟨c - 65536, by omega⟩
        rw [show x + 65536 - 65536 = x by omega] at H3
        have d6 : decide ((65536 : Int) ≤ (x : Int) + 65536) = true := by simp; omega
        have c3 := fun w' => runits_2 (55296 + x / 1024) true w' (by omega)
        have c4 := fun w' => runits_2 (56320 + x % 1024) true w' (by omega)
        rw [show (!true) = false from rfl] at c3 c4
        rw [show ((55296 + x / 1024 : Nat) : Int) = 55296 + (x : Int) / 1024 by omega] at c3
        rw [show ((56320 + x % 1024 : Nat) : Int) = 56320 + (x : Int) % 1024 by omega] at c4
        have hul := M.unit2_length false (55296 + x / 1024)
        have hvl := M.unit2_length false (56320 + x % 1024)
        generalize M.unit2 false (55296 + x / 1024) = U at *
        generalize M.unit2 false (56320 + x % 1024) = V at *
        have hu4 : U.length ≤ 2 := by omega
        have hv4 : V.length ≤ 2 := by omega
        have hxb : x < 1048576 := by omega
        rw [show ((x + 65536 : Nat) : Int) = (x : Int) + 65536 by omega] at c2
        clear hul hvl h6 hcb hcz
        go_wp2_with fail
        refine c2.mono ?_
        rintro r w3 ⟨rfl, rfl⟩
        clear c2
        go_wp2_with fail
        refine (c3 wr).mono ?_
        rintro r w4 ⟨g4, rfl, hg1, hg2, hB4, hb4⟩
        have hown4 := ownsRow_below hown hb4
        have hb04 : Below w.heap.size w w4 := hbw.trans (hb4.mono (by omega))
        have hz4 := hb04.size
        clear hown hb4 hbw c3 hg1 hg2
        go_wp2_with (first | (at_builtin; refine wpList_append_own _ rfl (.tmp 51) (.tmp 58) 22 rfl w.heap.size 5 i0 (.int .u8 0) 1 1 Tryd.underlying22 hi hz0 hz1 hz2 rfl (by decide) u5 A.length (A.map bcell) rfl hown4 ⟨g4, 0, none⟩ U.length U.length (U.map bcell) rfl (by simp) (has_news hB4) (bcell_one _) (by unfold maxLen; omega) (by omega) hz4 ?_; intro v5 w5 hown5 hgrow5 _; have hb05 : Below w.heap.size w w5 := hb04.grown hgrow5 hz4 (fun k hk => (hown4.lt k hk).1); clear hgrow5) | fail)
        refine (c4 w5).mono ?_
        rintro r w6 ⟨g6, rfl, hg1, hg2, hB6, hb6⟩
        have hown6 := ownsRow_below hown5 hb6
        have hz5 := hb05.size
        have hb06 : Below w.heap.size w w6 := hb05.trans (hb6.mono hz5)
        have hz6 := hb06.size
        clear hown5 hown4 hb6 hb05 hb04 hB4 c4
        go_wp2_with (first | (at_builtin; refine wpList_append_own _ rfl (.tmp 64) (.tmp 68) 22 rfl w.heap.size 5 i0 (.int .u8 0) 1 1 Tryd.underlying22 hi hz0 hz1 hz2 rfl (by decide) v5 (A.length + U.length) (A.map bcell ++ U.map bcell) rfl hown6 ⟨g6, 0, none⟩ V.length V.length (V.map bcell) rfl (by simp) (has_news hB6) (bcell_one _) (by unfold maxLen; omega) (by omega) hz6 ?_; intro v7 w7 hown7 hgrow7 _; have hb07 : Below w.heap.size w w7 := hb06.grown hgrow7 hz6 (fun k hk => (hown6.lt k hk).1); clear hgrow7) | fail)
        have HO := Lib.hid hown7
        clear hown7 hown6
        go_roundw
        case rel => exact ⟨k + 1, by rw [H2.out, List.length_append, HUL0.out]; go_num, hlt, by rw [H3.out, List.length_append, List.length_append, List.map_append, List.map_append, ← Nat.add_assoc, ← List.append_assoc]; exact HO.out, hb07⟩
        case measure => simp [intOf]; omega
    · obtain rfl : k = cs.length := by omega
      have hp := pos_end s cs HW.out
      rw [List.take_length] at hp hown ⊢
      have hltd : decide ((M.encAll 1 cs).length < s.size) = false := by simp; omega
      have HO := Lib.hid hown
      clear hp hown hi hz0 hz1 hz2
      generalize M.encAll 1 cs = B at *
      generalize hA : M.encAll 3 cs = A at *
      have HA := Lib.hid hA
      clear hA
      go_wp2
      go_ret
      exact ⟨u5, rfl, by rw [HA.out]; exact HO.out, hbw⟩

theorem rencode_wf (e : Nat) (he : 1 ≤ e ∧ e ≤ 5) (s : ByteArray) (cs : List Nat) (w : World) (hs : s.size ≤ 2000) (hw : M.Wf s.data.toList cs) :
    Calls Tryd.prog 17 #[.int .i64 e, .string s] w fun r w' => ROwn (M.encAll e cs) w r w' := by
  rcases M.five he with rfl | rfl | rfl | rfl | rfl
  · exact rencode_1 s cs w hs hw
  · exact rencode_2 s cs w hs hw
  · exact rencode_3 s cs w hs hw
  · exact rencode_4 s cs w hs hw
  · exact rencode_5 s cs w hs hw

end Go.Proofs.YthlbeoakaebcpaaDoor
