/- Walk of big.written: the digits of pieces. -/
import Derived.Test.YthgkmcidlcdjlaaDoorWd
set_option linter.unusedVariables false
namespace Go.Proofs.YthgkmcidlcdjlaaDoor
open Go.RowKit

theorem dig_cast (p : Nat) : ((UInt8.ofNat (48 + p % 10)).toNat : Int) = 48 + (p : Int) % 10 := by
  have : (UInt8.ofNat (48 + p % 10)).toNat = 48 + p % 10 := by simp; omega
  rw [this]; omega
theorem cast_div10 (k : Nat) : ((k / 10 : Nat) : Int) = (k : Int) / 10 := by rw [Int.natCast_ediv]; rfl
theorem made_mem (w w1 : World) (n : Nat) (ho : w1.ownsRow w.heap.size 5 1 (.slice (some ⟨w.heap.size, 0, none⟩) n n) n (madeCells (Value.int .u8 0).cells (n * 1)).toList) (hg : w.grownBy w1 none) :
    Row w1 w.heap.size (List.replicate n 0) ∧ Below w.heap.size w w1 :=
  ⟨Row.made ho, (Below.refl _ _).grown hg (Nat.le_refl _) (fun k hk => by cases hk)⟩

set_option maxRecDepth 100000 in
set_option maxHeartbeats 4000000 in
theorem written_any (v : Value) (ps : List Nat) (B : Nat) (w : World) (ho : Own w B v ps) (hsm : M.Small ps) (hn : ps.length ≤ 100000) :
    Calls Tryd.prog 44 #[v] w fun r w' => r = .returned (.string (bA (M.wr ps))) ∧ Below w.heap.size w w' := by
  obtain ⟨ao, cap, g, rfl, hao⟩ := ho.form
  have HAO := Lib.hid hao
  have hglt : 0 < ps.length → g < w.heap.size := by
    intro h
    obtain ⟨rfl, _⟩ := hao h
    exact (World.ownsRow.lt ho g rfl).2
  have HG := Lib.hid hglt
  have HSM := Lib.hid hsm
  clear hao hglt hsm
  obtain ⟨i0, hi, hz0, hz1, hz2⟩ := info_parts Tryd.info5
  go_enter Tryd.func44, Tryd.ntmps44
  go_wp2_with (first | (at_make; refine wpList_make_full w rfl (.tmp 9) (.tmp 9) 22 rfl w.heap.size 5 i0 (.int .u8 0) 1 Tryd.underlying22 hi hz0 hz1 .i64 .i64 _ _ (7 * ps.length) rfl rfl (by simp) (by simp) (by rw [hz2]; omega) (by unfold maxLen; omega) (Nat.le_refl _) ?_; intro w1 ho1 hg1; obtain ⟨hR1, hB1⟩ := made_mem w w1 _ ho1 hg1; have HR1 := Lib.hid hR1; clear ho1 hg1 hR1) | fail)
  go_loopw [4, 15] (fun av iv wr => ∃ (i a : Nat), iv = .int .i64 i ∧ i ≤ ps.length ∧ av = .int .i64 (a : Int) ∧ a + 7 * i ≤ 7 * ps.length ∧ 7 * ps.length ≤ a + 7 * i ∧ Hid (Row wr w.heap.size (List.replicate a 0 ++ M.wr (ps.take i))) ∧ Below w.heap.size w wr) (fun _ iv _ => ps.length - (intOf iv).toNat)
  case atStart => exact ⟨0, 7 * ps.length, rfl, Nat.zero_le _, by go_num, by omega, by omega, by show Row _ _ _; simpa [M.wr] using HR1.out, hB1⟩
  case round =>
    obtain ⟨i, a, rfl, hik, rfl, ha1, ha2, hrow, hbw⟩ := hrel
    by_cases hlt : i < ps.length
    · have hltd : decide (i < ps.length) = true := by simpa using hlt
      obtain ⟨rfl, _⟩ := HAO.out (by omega)
      have hg := HG.out (by omega)
      have hc : wr.cell? ⟨g, i, none⟩ = some (.int .u64 (ps[i] : Nat)) := (hbw.cell (p := ⟨g, i, none⟩) hg).trans (ho.cell i hlt)
      have htk : ps.take (i + 1) = ps.take i ++ [ps[i]] := by rw [List.take_succ_eq_append_getElem hlt]
      obtain ⟨p, hp⟩ : ∃ p, ps[i] = p := ⟨_, rfl⟩
      have hpl : p < 10000000 := by rw [← hp]; exact HSM.out _ (List.getElem_mem _)
      rw [hp] at hc htk
      have hwr : M.wr (ps.take (i + 1)) = M.lastD 7 p (M.wr (ps.take i)) := by rw [htk, M.wr_snoc, M.lastD_append 7 p (M.wr _)]
      have HWR := Lib.hid hwr
      have hwl := M.wr_length (ps.take i)
      rw [List.length_take, Nat.min_eq_left hik] at hwl
      obtain ⟨r0, hr0⟩ : ∃ r0, M.wr (ps.take i) = r0 := ⟨_, rfl⟩
      rw [hr0] at hrow HWR hwl
      have HWL := Lib.hid hwl
      clear hwr hwl hr0 hp htk ho
      go_wp2
      go_loopw [4, 6, 19] (fun av pv cv wr2 => ∃ (c q b : Nat) (acc : List UInt8), cv = .int .i64 (c : Int) ∧ c ≤ 7 ∧ pv = .int .u64 (q : Int) ∧ q < 10000000 ∧ av = .int .i64 (b : Int) ∧ b + c ≤ a ∧ a ≤ b + c ∧ Hid (M.lastD (7 - c) q acc = M.lastD 7 p r0) ∧ Hid (Row wr2 w.heap.size (List.replicate b 0 ++ acc)) ∧ Below w.heap.size w wr2) (fun _ _ cv _ => 7 - (intOf cv).toNat)
      case atStart => exact ⟨0, p, a, r0, rfl, Nat.zero_le _, rfl, hpl, rfl, by omega, by omega, rfl, hrow, hbw⟩
      case round =>
        obtain ⟨c, q, b, acc, rfl, hc7, rfl, hq7, rfl, hb1, hb2, hL, hrow2, hbw2⟩ := hrel
        by_cases hcl : c < 7
        · have hcd : decide ((c : Int) < 7) = true := by simp; omega
          obtain ⟨b', rfl⟩ : ∃ b', b = b' + 1 := ⟨b - 1, by omega⟩
          have hfr := hrow2.out.frozen b'
          obtain ⟨x, hx⟩ : ∃ x, wr.cell? ⟨w.heap.size, b', none⟩ = some (.int .u8 x) := ⟨_, hrow2.out.cell b' (by simp; omega)⟩
          have hset := hrow2.out.set b' (UInt8.ofNat (48 + q % 10))
          rw [set_rep, dig_cast] at hset
          have hL1 := hL.out
          obtain ⟨d, hd⟩ : ∃ d, 7 - c = d + 1 := ⟨6 - c, by omega⟩
          rw [hd, M.lastD] at hL1
          have hL2 : M.lastD (7 - (c + 1)) (q / 10) (UInt8.ofNat (48 + q % 10) :: acc) = M.lastD 7 p r0 := by rw [← hL1]; congr 1; omega
          have HL := Lib.hid hL2
          have HSET := Lib.hid hset
          clear hL hL1 hL2 hd hset hrow2
          go_wp2
          go_roundw
          case rel => exact ⟨c + 1, q / 10, b', _, by go_num, by omega, by rw [cast_div10], by omega, by go_num, by omega, by omega, HL.out, HSET.out, hbw2.setCell (Nat.le_refl _) _⟩
          case measure => simp [intOf]; omega
        · obtain rfl : c = 7 := by omega
          have hcd : decide (((7 : Nat) : Int) < 7) = false := by decide
          have hL1 := hL.out
          rw [Nat.sub_self, M.lastD, ← HWR.out] at hL1
          rw [hL1] at hrow2
          clear hL hL1
          go_wp2
          go_roundw
          case rel => exact ⟨i + 1, b, by go_num, by omega, rfl, by omega, by omega, hrow2, hbw2⟩
          case measure => simp [intOf]; omega
    · obtain rfl : i = ps.length := by omega
      obtain rfl : a = 0 := by omega
      have hltd : decide (ps.length < ps.length) = false := by simp
      have hrow1 := hrow.out
      rw [List.take_of_length_le (Nat.le_refl _), List.replicate_zero, List.nil_append] at hrow1
      have hv := Row.conv0 hrow1
      rw [M.wr_length] at hv
      clear hrow1 hrow
      go_wp2
      go_ret
      exact ⟨rfl, hbw⟩
end Go.Proofs.YthgkmcidlcdjlaaDoor
