/- Walks: tagged: signs of a kind, of a seed. -/
import Derived.Test.YtcahleaaicebbaaK
set_option linter.unusedVariables false
namespace Go.Proofs.Ytcahleaaicebbaa
open Go.RowKit

theorem cut_one (G : List UInt8) (q : Nat) (h : q < G.length) : M.cut G q (q + 1) = [G.getD q 0] := by
  unfold M.cut
  rw [Nat.add_sub_cancel_left, List.getD_eq_getElem?_getD, List.getElem?_eq_getElem h]
  simp
  rw [List.drop_eq_getElem_cons h]; rfl
set_option maxRecDepth 100000 in
set_option maxHeartbeats 1000000 in
theorem tg_any (s : ByteArray) (G : List UInt8) (w : World) (hs : s.size ≤ 1000) (hG : 0 < G.length) (hG2 : G.length ≤ 100) : Calls Try.prog 17 #[.string s, .string (bA G)] w fun e w' => e = .returned (.string (bA (M.tg G s.data.toList))) ∧ Below w.heap.size w w' := by
  obtain ⟨S, hS⟩ : ∃ S, bA G = S := ⟨_, rfl⟩
  have hSz : S.size = G.length := by rw [← hS, bA_size]
  have HSL := Lib.hid (show S.data.toList = G by rw [← hS, bA_toList])
  have HR := Lib.hid (show M.tg G (s.data.toList.take s.size) = M.tg G s.data.toList by rw [take_all])
  rw [hS]
  clear hS
  obtain ⟨R, hR⟩ : ∃ R, bA (M.tg G s.data.toList) = R := ⟨_, rfl⟩
  rw [hR]
  have HRR := Lib.hid hR
  clear hR
  go_enter Try.func17, Try.ntmps17
  go_wp2
  go_loopw [5, 6] (fun x iv wr => ∃ k : Nat, iv = .int .i64 k ∧ k ≤ s.size ∧ x = .string (bA (M.tg G (s.data.toList.take k))) ∧ Below w.heap.size w wr) (fun _ iv _ => s.size - (intOf iv).toNat)
  case atStart => exact ⟨0, rfl, Nat.zero_le _, rfl, Below.refl _ _⟩
  case round =>
    obtain ⟨k, rfl, hk, rfl, hb⟩ := hrel
    by_cases hlt : k < s.size
    · have hltd : decide (k < s.size) = true := decide_eq_true hlt
      have hlti : decide ((k : Int) < (s.size : Int)) = true := decide_eq_true (by omega)
      have hc : s[k].toNat < 256 := s[k].toNat_lt
      have hst := take_snoc s k hlt
      have hsn := M.tg_snoc G (s.data.toList.take k) s[k]
      rw [← hst] at hsn
      have hq := Nat.mod_lt s[k].toNat hG
      obtain ⟨q, hqq⟩ : ∃ q, s[k].toNat % G.length = q := ⟨_, rfl⟩
      rw [hqq] at hq hsn
      have hlen : (M.tg G (s.data.toList.take k)).length = k := by rw [M.tg_len, List.length_take, ← sz_list]; omega
      have hx : S.extract q (q + 1) = bA [G.getD q 0] := by rw [extract_bA _ _ _ (by omega), HSL.out, cut_one G q hq]
      have happ : bA (M.tg G (s.data.toList.take k)) ++ bA [G.getD q 0] = bA (M.tg G (s.data.toList.take (k + 1))) := by rw [bA_append, hsn]
      have hz : (bA (M.tg G (s.data.toList.take k))).size ≤ 1000 := by rw [bA_size, hlen]; omega
      have htm : Int.tmod (s[k].toNat : Int) (S.size : Int) = (q : Int) := by
        rw [Int.tmod_eq_emod_of_nonneg (by omega), hSz, ← hqq]; rfl
      have hS0 : ((S.size : Int) == 0) = false := beq_eq_false_iff_ne.2 (by omega)
      have y1 : decide ((0 : Int) ≤ (q : Int)) = true := decide_eq_true (by omega)
      have y2 : decide ((q : Int) ≤ (q : Int) + 1) = true := decide_eq_true (by omega)
      have y3 : decide ((q : Int) + 1 ≤ (S.size : Int)) = true := decide_eq_true (by omega)
      have y4 : q + 1 ≤ S.size := by omega
      have y5 : (q : Int) + 1 ≤ (S.size : Int) := by omega
      have hidx : ∀ n, (Instr.index 9 (.string s) (.int .i64 (k : Int))).run Try.prog (wr.drewN n) = .ok (.int .u8 ((s[k].toNat : Nat) : Int)) (wr.drewN n) := by
        intro n
        rw [run_index_string (h := Try.underlying9), dif_pos ⟨by omega, by omega⟩]
        rfl
      have hwc : IntKind.i64.wrap ((s[k].toNat : Nat) : Int) = ((s[k].toNat : Nat) : Int) := by
        rw [IntKind.wrap_i64]; omega
      have hS1 : ¬ ((S.size : Int) = 0) := by omega
      have hS2 : ¬ (S.size = 0) := by omega
      have hwq : IntKind.i64.wrap ((q : Int) + 1) = (q : Int) + 1 := by rw [IntKind.wrap_i64]; omega
      have hsl : ∀ n, (Instr.sliceAt 9 (.string S) (some (.int .i64 (q : Int))) (some (.int .i64 ((q : Int) + 1))) none).run Try.prog (wr.drewN n) = .ok (.string (bA [G.getD q 0])) (wr.drewN n) := by
        intro n
        have e := run_slice_string (P := Try.prog) (w := wr.drewN n) 9 S .i64 .i64 (q : Int) ((q : Int) + 1) Try.underlying9 (by omega) (by omega) (by omega)
        rw [run_sliceAt_string (h := Try.underlying9), e, show ((q : Int) + 1).toNat = q + 1 from by omega, Int.toNat_natCast, hx]
      have hp1 : (0 : Int) ≤ (q : Int) + 1 := by omega
      have hp2 : (0 : Int) ≤ (q : Int) := by omega
      have hp3 : (q : Int) ≤ (q : Int) + 1 := by omega
      have hp4 : ((q : Int) + 1).toNat = q + 1 := by omega
      have hp5 : q ≤ q + 1 := by omega
      have hz2 : (bA [G.getD q 0]).size ≤ 1 := by rw [bA_size]; simp
      clear hst hsn hqq hlen HRR HR hSz
      obtain ⟨X1, hX1⟩ : ∃ X, bA (M.tg G (s.data.toList.take k)) = X := ⟨_, rfl⟩
      obtain ⟨Y1, hY1⟩ : ∃ X, bA [G.getD q 0] = X := ⟨_, rfl⟩
      rw [hX1] at happ hz ⊢
      rw [hY1] at happ hz2 hx hsl
      have HAP := Lib.hid happ
      clear hX1 hY1 happ
      have hcc : ¬ ((9223372036854775807 : Int) < (X1.size : Int) + (Y1.size : Int)) := by omega
      have hcd : ((X1.size : Int) + (Y1.size : Int)) ≤ (9223372036854775807 : Int) := by omega
      have hce : ¬ (((X1.size + Y1.size : Nat) : Int) > IntKind.i64.max) := by show ¬ (_ > (9223372036854775807 : Int)); omega
      go_wp2_with fail
      go_quiet (fail)
      go_wp2
      go_roundw
      case rel => exact ⟨k + 1, by go_num, by omega, by rw [HAP.out], below_dN hb _⟩
      case measure => simp [intOf]; omega
    · obtain rfl : k = s.size := by omega
      have hltd : decide (s.size < s.size) = false := by simp
      have hf : bA (M.tg G (s.data.toList.take s.size)) = R := by rw [HR.out, HRR.out]
      rw [hf]
      go_wp2
      go_ret
      exact ⟨rfl, hb⟩
end Go.Proofs.Ytcahleaaicebbaa
