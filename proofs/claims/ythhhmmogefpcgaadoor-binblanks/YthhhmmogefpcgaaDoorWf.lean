/- Walks: bin's bare. -/
import Derived.Test.YthhhmmogefpcgaaDoorWe
set_option linter.unusedVariables false
namespace Go.Proofs.YthhhmmogefpcgaaDoor
open Go.RowKit

theorem bare_snoc (l : List UInt8) (c : UInt8) : M.bare (l ++ [c]) = if M.bl c = true then M.bare l else M.bare l ++ [c] := by
  rw [M.bare_append, M.bare_one]
  split <;> simp
theorem bare_le (l : List UInt8) : (M.bare l).length ≤ l.length := List.length_filter_le ..
set_option maxRecDepth 100000 in
set_option maxHeartbeats 2000000 in
theorem bare_any (s : ByteArray) (w : World) (hs : s.size ≤ 10000) :
    Calls Tryd.prog 13 #[.string s] w fun e w' => ∃ v, e = .returned v ∧ OwnB w' w.heap.size v (M.bare s.data.toList) ∧ Below w.heap.size w w' := by
  obtain ⟨i0, hi, hz0, hz1, hz2⟩ := info_parts info_b
  go_enter Tryd.func13, Tryd.ntmps13
  go_wp2_with (first | (refine wpList_make rfl (.tmp 6) rfl s.size _ rfl rfl (by omega) ?_; intro v1 w1 hown1 hb1) | fail)
  go_wp2_with fail
  go_loopw [3, 10] (fun bv iv wr => ∃ k : Nat, iv = .int .i64 k ∧ k ≤ s.size ∧ OwnB wr w.heap.size bv (M.bare (s.data.toList.take k)) ∧ Below w.heap.size w wr) (fun _ iv _ => s.size - (intOf iv).toNat)
  case atStart => exact ⟨0, rfl, Nat.zero_le _, hown1, hb1⟩
  case round =>
    obtain ⟨k, rfl, hk, hown, hbw⟩ := hrel
    have hwsz : w.heap.size ≤ wr.heap.size := hbw.size
    by_cases hlt : k < s.size
    · have hltd : decide (k < s.size) = true := by simpa using hlt
      have hltd2 : decide ((k : Int) < (s.size : Int)) = true := decide_eq_true (by omega)
      have hsn := bare_snoc (s.data.toList.take k) s[k]
      rw [← take_snoc s k hlt] at hsn
      have hle := bare_le (s.data.toList.take k)
      rw [List.length_take] at hle
      have hle' : (M.bare (s.data.toList.take k)).length ≤ 10000 := by omega
      clear hle
      have c1 := fun W => space_any s[k] W
      generalize M.bare (s.data.toList.take k) = L at *
      generalize hc : s[k] = c at *
      have h256 := c.toNat_lt
      cases hb : M.bl c with
      | true =>
        rw [hb] at c1
        rw [hb, if_pos rfl] at hsn
        have HS := Lib.hid hsn
        have HO := Lib.hid hown
        have hq : s[k].toNat = c.toNat := by rw [hc]
        clear hsn hown hb hc
        generalize hN : c.toNat = n at *
        go_wp2_with fail
        refine (c1 _).mono ?_
        rintro r w' ⟨rfl, rfl⟩
        clear c1
        go_wp2_with fail
        go_roundw
        case rel => exact ⟨k + 1, by go_num, by omega, by rw [HS.out]; exact HO.out, hbw⟩
        case measure => simp [intOf]; omega
      | false =>
        rw [hb] at c1
        rw [hb, if_neg (by simp)] at hsn
        have HS := Lib.hid hsn
        have HO := Lib.hid hown
        have hq : s[k].toNat = c.toNat := by rw [hc]
        clear hsn hown hb hc
        generalize hN : c.toNat = n at *
        go_wp2_with fail
        refine (c1 _).mono ?_
        rintro r w' ⟨rfl, rfl⟩
        clear c1
        have hown := HO.out
        unfold OwnB at hown
        go_wp2_with (first | (at_builtin; refine wpList_append_own _ rfl (.tmp 18) (.tmp 22) 22 rfl w.heap.size 5 i0 (.int .u8 0) 1 1 Tryd.underlying22 hi hz0 hz1 hz2 rfl (by decide) _ L.length (L.map bc) rfl (World.ownsRow.alloc hown _) ⟨w'.heap.size, 0, none⟩ 1 1 [.int .u8 (n : Int)] rfl rfl (bc_news _ _ _) (bc_one _) (by unfold maxLen; omega) (by omega) (by simp; omega) ?_; intro v5 w5 hown5 hgrow5 _; have hb5 : Below w.heap.size w w5 := (hbw.alloc hwsz _).grown hgrow5 (by simp; omega) (fun k hk => (World.ownsRow.lt hown k hk).1); have HO5 := Lib.hid hown5; clear hgrow5 hown5 hown) | fail)
        go_roundw
        case rel => exact ⟨k + 1, by go_num, by omega, by rw [HS.out]; subst hN; exact OwnB.snoc HO5.out, hb5⟩
        case measure => simp [intOf]; omega
    · obtain rfl : k = s.size := by omega
      have hltd : decide (s.size < s.size) = false := by simp
      rw [take_all] at hown
      have HO := Lib.hid hown
      clear hown
      go_wp2
      go_ret
      exact ⟨_, rfl, HO.out, hbw⟩
end Go.Proofs.YthhhmmogefpcgaaDoor
