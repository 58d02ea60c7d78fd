/- Walk: targumlaw4's digits. -/
import Derived.Test.YtocegiffbgnogaaDoorWk
set_option linter.unusedVariables false
namespace Go.Proofs.YtocegiffbgnogaaDoor
open Go.RowKit

/-- A digit out of any byte. -/
def dig (c : UInt8) : UInt8 := UInt8.ofNat (48 + c.toNat % 10)
def digs (l : List UInt8) : List UInt8 := l.map dig
theorem dig_dv (c : UInt8) : M.dv (dig c) = c.toNat % 10 := M.dv_dig _ (by omega)
theorem digs_all (l : List UInt8) : M.allD 10 (digs l) = true := by
  rw [M.allD_iff]
  intro c hc
  obtain ⟨d, _, rfl⟩ := List.mem_map.1 hc
  rw [dig_dv]; omega
theorem digs_length (l : List UInt8) : (digs l).length = l.length := by simp [digs]
theorem digs_ok (l : List UInt8) (h : 0 < l.length) : M.okD 10 (digs l) = true := by
  rw [M.okD_iff]
  exact ⟨by intro e; have := digs_length l; rw [e] at this; simp at this; omega, digs_all l⟩
theorem dig_cast2 (c : UInt8) : ((dig c).toNat : Int) = 48 + (c.toNat : Int) % 10 := by
  unfold dig; rw [dig_u8 _ (by omega)]; omega

set_option maxRecDepth 100000 in
set_option maxHeartbeats 1000000 in
theorem digits_any (s : ByteArray) (w : World) (hs : s.size ≤ 1000) :
    Calls Tryd.prog 13 #[.string s] w fun e w' => e = .returned (.string (bA (digs s.data.toList))) ∧ Below w.heap.size w w' := by
  obtain ⟨i0, hi, hz0, hz1, hz2⟩ := info_parts Tryd.info5
  go_enter Tryd.func13, Tryd.ntmps13
  go_wp2_with (first | (at_make; refine wpList_make_full w rfl (.tmp 6) (.tmp 6) 22 rfl w.heap.size 5 i0 (.int .u8 0) 1 Tryd.underlying22 hi hz0 hz1 .i64 .i64 _ _ s.size rfl rfl (by simp) (by simp) (by rw [hz2]; omega) (by unfold maxLen; omega) (Nat.le_refl _) ?_; intro w1 ho1 hg1; obtain ⟨hR1, hB1⟩ := made_mem w w1 _ ho1 hg1; have HR1 := Lib.hid hR1; clear ho1 hg1 hR1) | fail)
  go_loopw [4] (fun iv wr => ∃ (k m : Nat), iv = .int .i64 k ∧ k + m = s.size ∧ Hid (Row wr w.heap.size (digs (s.data.toList.take k) ++ List.replicate m 0)) ∧ Below w.heap.size w wr) (fun iv _ => s.size - (intOf iv).toNat)
  case atStart => exact ⟨0, s.size, rfl, by omega, by show Row _ _ _; simpa [digs] using HR1.out, hB1⟩
  case round =>
    obtain ⟨k, m, rfl, hkm, hrow, hbw⟩ := hrel
    by_cases hlt : k < s.size
    · have hltd : decide (k < s.size) = true := by simpa using hlt
      obtain ⟨m', rfl⟩ : ∃ m', m = m' + 1 := ⟨m - 1, by omega⟩
      have htl : (digs (s.data.toList.take k)).length = k := by rw [digs_length, List.length_take, ← sz_list]; omega
      have hfr := hrow.out.frozen k
      obtain ⟨x, hx⟩ : ∃ x, wr.cell? ⟨w.heap.size, k, none⟩ = some (.int .u8 x) := ⟨_, hrow.out.cell k (by simp; omega)⟩
      have hset := hrow.out.set k (dig s[k])
      have hsl := set_left (digs (s.data.toList.take k)) m' (dig s[k])
      rw [htl] at hsl
      rw [hsl, dig_cast2, show digs (s.data.toList.take k) ++ [dig s[k]] = digs (s.data.toList.take (k + 1)) by rw [take_snoc s k hlt]; simp [digs]] at hset
      have HSET := Lib.hid hset
      clear hset hsl htl hrow
      go_wp2
      go_roundw
      case rel => exact ⟨k + 1, m', by go_num, by omega, HSET.out, hbw.setCell (Nat.le_refl _) _⟩
      case measure => simp [intOf]; omega
    · obtain rfl : k = s.size := by omega
      obtain rfl : m = 0 := by omega
      have hltd : decide (s.size < s.size) = false := by simp
      have hr := hrow.out
      rw [take_all, List.replicate_zero, List.append_nil] at hr
      have hcv := Row.conv0 hr s.size
      rw [digs_length, ← sz_list] at hcv
      clear hr hrow
      go_wp2
      go_ret
      exact ⟨rfl, hbw⟩
end Go.Proofs.YtocegiffbgnogaaDoor
