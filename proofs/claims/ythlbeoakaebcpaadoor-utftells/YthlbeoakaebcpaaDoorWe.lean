/- Walks of targum/utf's Size and Detect. -/
import Derived.Test.YthlbeoakaebcpaaDoorWc
import Derived.Test.YthlbeoakaebcpaaDoorWd
import Derived.Test.YthlbeoakaebcpaaDoorMb
import Derived.Laws.RangeString
import Derived.Laws.RangeAny
import Derived.LoopTactic
namespace Go.Proofs.YthlbeoakaebcpaaDoor
open Go.RowKit

theorem validString_any (s : ByteArray) (w : World) (hT : Tabs w) (hs : s.size ≤ 9223372036854775807) :
    Calls Tryd.prog 34 #[.string s] w fun e w' => e = .returned (.bool (Lib.validD s.data.toList)) ∧ Below w.heap.size w w' :=
  Any.utf8_ValidString Tryd.lays196 s w hs hT

theorem sz_list (s : ByteArray) : s.size = s.data.toList.length := by cases s; simp [ByteArray.size]

/-- The scalar at a place of a well-formed text. -/
theorem decode_wf (s : ByteArray) (cs : List Nat) (hw : M.Wf s.data.toList cs) (k : Nat) (hk : k < cs.length) :
    Utf8.decode s (M.encAll 1 (cs.take k)).length = (cs[k], (M.enc1 1 cs[k]).length) := by
  rw [M.decode_drop, hw.2, M.drop_at cs k hk, M.dN_enc _ _ (hw.1 _ (List.getElem_mem hk)), M.enc1_1]
theorem pos_lt (s : ByteArray) (cs : List Nat) (hw : M.Wf s.data.toList cs) (k : Nat) (hk : k < cs.length) : (M.encAll 1 (cs.take k)).length < s.size := by
  have h := M.take_lt 1 (by omega) cs k hk
  have h2 := M.utf8_length cs[k]
  rw [M.enc1_1] at h
  rw [sz_list, hw.2]; omega
theorem pos_end (s : ByteArray) (cs : List Nat) (hw : M.Wf s.data.toList cs) : (M.encAll 1 (cs.take cs.length)).length = s.size := by
  rw [sz_list, hw.2, List.take_length]

set_option maxRecDepth 100000 in
set_option maxHeartbeats 1000000 in
theorem size_wf (e : Int) (s : ByteArray) (cs : List Nat) (w : World) (hT : Tabs w) (hs : s.size ≤ 2000) (hw : M.Wf s.data.toList cs) :
    Calls Tryd.prog 18 #[.int .i64 e, .string s] w fun r w' => r = .returned (.int .i64 ((M.encAll e.toNat cs).length : Nat)) ∧ Below w.heap.size w w' := by
  have c1 := validString_any s w hT (by omega)
  rw [M.valid_wf hw] at c1
  have hcl := M.wf_len hw
  rw [← sz_list] at hcl
  have HW := Lib.hid hw
  clear hw
  go_enter Tryd.func18, Tryd.ntmps18
  go_wp2_with (go_at_call 34; refine c1.mono ?_; rintro r w1 ⟨rfl, hb⟩)
  go_loopw [5] (fun n wr => ∃ k : Nat, k ≤ cs.length ∧ wr = w1.iter s (M.encAll 1 (cs.take k)).length ∧ n = .int .i64 ((M.encAll e.toNat (cs.take k)).length : Nat)) (fun _ wr => s.size - wr.iterPos w1.heap.size)
  case atStart => exact ⟨0, Nat.zero_le _, rfl, rfl⟩
  case round =>
    obtain ⟨k, hk, rfl, rfl⟩ := hrel
    by_cases hlt : k < cs.length
    · have hp := pos_lt s cs HW.out k hlt
      have hnx : ∀ ty, (Instr.next (.pointer (some ⟨w1.heap.size, 0, none⟩)) true ty).run Tryd.prog (w1.iter s (M.encAll 1 (cs.take k)).length) = _ := fun ty => run_next_any w1 s _ ty hp
      rw [decode_wf s cs HW.out k hlt] at hnx
      have hsc := HW.out.1 _ (List.getElem_mem hlt)
      have H1 := Lib.hid (M.encAll_take_succ e.toNat cs k hlt)
      have H2 := Lib.hid (M.encAll_take_succ 1 cs k hlt)
      have b1 : (M.encAll e.toNat (cs.take k)).length ≤ 8000 := by have := M.encAll_le e.toNat (cs.take k); have := List.length_take_le k cs; omega
      have b2 := M.enc1_le e.toNat cs[k]
      have b3 := M.enc1_length 1 cs[k] (by omega)
      generalize cs[k] = c at *
      generalize hA : M.encAll 1 (cs.take k) = A at *
      generalize hE : M.encAll e.toNat (cs.take k) = E at *
      have HA := Lib.hid hA
      have HE := Lib.hid hE
      clear hA hE
      go_wp2_with (go_at_call 31; refine (sizeOf_any _ _ _ hsc).mono ?_; rintro r w' ⟨rfl, rfl⟩)
      go_roundw
      case rel => exact ⟨k + 1, by omega, by rw [H2.out, List.length_append], by rw [H1.out, List.length_append]; go_num⟩
      case measure => simp; omega
    · obtain rfl : k = cs.length := by omega
      have hp := pos_end s cs HW.out
      rw [List.take_length] at hp ⊢
      have hnx : ∀ ty, (Instr.next (.pointer (some ⟨w1.heap.size, 0, none⟩)) true ty).run Tryd.prog (w1.iter s (M.encAll 1 cs).length) = _ := fun ty => run_next_end w1 s _ ty (by omega)
      clear hp
      go_wp2
      go_ret
      refine ⟨rfl, ?_⟩
      exact hb.alloc hb.size _

set_option maxRecDepth 100000 in
set_option maxHeartbeats 1000000 in
theorem size_bad (e : Int) (s : ByteArray) (w : World) (hT : Tabs w) (hs : s.size ≤ 2000) (hv : Lib.validD s.data.toList = false) :
    Calls Tryd.prog 18 #[.int .i64 e, .string s] w fun r w' => r = .returned (.int .i64 0) ∧ Below w.heap.size w w' := by
  have c1 := validString_any s w hT (by omega)
  rw [hv] at c1
  clear hv
  go_enter Tryd.func18, Tryd.ntmps18
  go_wp2_with (go_at_call 34; refine c1.mono ?_; rintro r w1 ⟨rfl, hb⟩)
  go_ret
  exact ⟨rfl, hb⟩

end Go.Proofs.YthlbeoakaebcpaaDoor
