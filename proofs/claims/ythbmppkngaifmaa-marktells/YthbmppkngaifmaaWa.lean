/- Walks of strings.HasPrefix and of targum/brk's Break, oldBreak. -/
import Derived.Test.YthbmppkngaifmaaRb
import Derived.Test.YthbmppkngaifmaaMl
import Derived.Lib.IndexBytes
import Derived.Lib.Strings
set_option linter.unusedVariables false
namespace Go.Proofs.Ythbmppkngaifmaa
open Go.RowKit

set_option maxHeartbeats 1000000 in
theorem hasPrefix_in (s p : ByteArray) (w : World) :
    Calls Try.prog 29 #[.string s, .string p] w fun e w' => e = .returned (.bool (Lib.hasPrefix s.data.toList p.data.toList)) ∧ w = w' := by
  rw [← Lib.hasPrefix_raw]
  go_enter Try.func29, Try.ntmps29
  go_wp2
  · rename_i h
    go_ret
    refine ⟨?_, rfl⟩
    show Ending.returned (Value.bool ((s.extract 0 p.size).toList == p.toList)) = _
    simp [h]
  · rename_i h
    go_ret
    refine ⟨?_, rfl⟩
    show Ending.returned (Value.bool false) = _
    simp [h]
set_option maxHeartbeats 1000000 in
theorem hasPrefix_any (s p : ByteArray) (w : World) :
    Calls Try.prog 27 #[.string s, .string p] w fun e w' => e = .returned (.bool (Lib.hasPrefix s.data.toList p.data.toList)) ∧ w = w' := by
  have c1 := hasPrefix_in s p w
  go_enter Try.func27, Try.ntmps27
  go_wp2_with (go_at_call 29; refine c1.mono ?_; rintro r w' ⟨rfl, rfl⟩)
  go_ret
  exact ⟨rfl, rfl⟩

theorem extract_list (s : ByteArray) (a : Nat) : (s.extract a s.size).data.toList = s.data.toList.drop a := by
  rw [Lib.extract_to_end]

theorem prefix1 (l : List UInt8) (a : UInt8) (h0 : a.toNat ≠ 0) : Lib.hasPrefix l [a] = decide (M.by8 l 0 = a.toNat) := by
  match l with
  | [] => simp [Lib.hasPrefix, M.by8]; omega
  | x :: r =>
    rw [M.by8_0]
    simp only [Lib.hasPrefix, List.isPrefixOf, Bool.and_true]
    rw [Bool.eq_iff_iff]
    simp only [beq_iff_eq, decide_eq_true_eq, ← UInt8.toNat_inj]
    exact eq_comm
theorem prefix2 (l : List UInt8) (a b : UInt8) (h0 : a.toNat ≠ 0) (h1 : b.toNat ≠ 0) : Lib.hasPrefix l [a, b] = decide (M.by8 l 0 = a.toNat ∧ M.by8 l 1 = b.toNat) := by
  match l with
  | [] => simp [Lib.hasPrefix, M.by8]; omega
  | [x] => simp [Lib.hasPrefix, M.by8, List.isPrefixOf]; omega
  | x :: y :: r =>
    rw [M.by8_0, M.by8_1]
    simp only [Lib.hasPrefix, List.isPrefixOf, Bool.and_true]
    rw [Bool.eq_iff_iff]
    simp only [Bool.and_eq_true, beq_iff_eq, decide_eq_true_eq, ← UInt8.toNat_inj]
    exact ⟨fun h => ⟨h.1.symm, h.2.symm⟩, fun h => ⟨h.1.symm, h.2.symm⟩⟩
theorem prefix3 (l : List UInt8) (a b c : UInt8) (h0 : a.toNat ≠ 0) (h1 : b.toNat ≠ 0) (h2 : c.toNat ≠ 0) : Lib.hasPrefix l [a, b, c] = decide (M.by8 l 0 = a.toNat ∧ M.by8 l 1 = b.toNat ∧ M.by8 l 2 = c.toNat) := by
  match l with
  | [] => simp [Lib.hasPrefix, M.by8]; omega
  | [x] => simp [Lib.hasPrefix, M.by8, List.isPrefixOf]; omega
  | [x, y] => simp [Lib.hasPrefix, M.by8, List.isPrefixOf]; omega
  | x :: y :: z :: r =>
    rw [M.by8_0, M.by8_1, M.by8_2]
    simp only [Lib.hasPrefix, List.isPrefixOf, Bool.and_true]
    rw [Bool.eq_iff_iff]
    simp only [Bool.and_eq_true, beq_iff_eq, decide_eq_true_eq, ← UInt8.toNat_inj]
    exact ⟨fun h => ⟨h.1.symm, h.2.1.symm, h.2.2.symm⟩, fun h => ⟨h.1.symm, h.2.1.symm, h.2.2.symm⟩⟩

def oldN (l : List UInt8) : Nat := if M.by8 l 0 = 194 ∧ M.by8 l 1 = 133 then 2 else if M.by8 l 0 = 226 ∧ M.by8 l 1 = 128 ∧ (M.by8 l 2 = 168 ∨ M.by8 l 2 = 169) then 3 else 0

set_option maxRecDepth 100000 in
set_option maxHeartbeats 1000000 in
theorem oldBreak_any (s : ByteArray) (w : World) :
    Calls Try.prog 28 #[.string s] w fun e w' => e = .returned (.int .i64 (oldN s.data.toList : Nat)) ∧ w = w' := by
  have c1 := hasPrefix_any s ⟨#[194, 133]⟩ w
  have c2 := hasPrefix_any s ⟨#[226, 128, 168]⟩ w
  have c3 := hasPrefix_any s ⟨#[226, 128, 169]⟩ w
  simp only at c1 c2 c3
  rw [prefix2 _ 194 133 (by decide) (by decide)] at c1
  rw [prefix3 _ 226 128 168 (by decide) (by decide) (by decide)] at c2
  rw [prefix3 _ 226 128 169 (by decide) (by decide) (by decide)] at c3
  unfold oldN
  by_cases h1 : M.by8 s.data.toList 0 = 194 ∧ M.by8 s.data.toList 1 = 133
  · rw [if_pos h1]
    rw [show decide (M.by8 s.data.toList 0 = UInt8.toNat 194 ∧ M.by8 s.data.toList 1 = UInt8.toNat 133) = true from decide_eq_true h1] at c1
    clear h1 c2 c3
    go_enter Try.func28, Try.ntmps28
    go_wp2_with (go_at_call 27; refine c1.mono ?_; rintro r w' ⟨rfl, rfl⟩)
    go_ret
    exact ⟨rfl, rfl⟩
  · rw [if_neg h1]
    rw [show decide (M.by8 s.data.toList 0 = UInt8.toNat 194 ∧ M.by8 s.data.toList 1 = UInt8.toNat 133) = false from decide_eq_false h1] at c1
    by_cases h2 : M.by8 s.data.toList 0 = 226 ∧ M.by8 s.data.toList 1 = 128 ∧ M.by8 s.data.toList 2 = 168
    · rw [if_pos ⟨h2.1, h2.2.1, Or.inl h2.2.2⟩]
      rw [show decide (M.by8 s.data.toList 0 = UInt8.toNat 226 ∧ M.by8 s.data.toList 1 = UInt8.toNat 128 ∧ M.by8 s.data.toList 2 = UInt8.toNat 168) = true from decide_eq_true h2] at c2
      clear h1 h2 c3
      go_enter Try.func28, Try.ntmps28
      go_wp2_with (first | (go_at_call 27; refine c1.mono ?_; rintro r w' ⟨rfl, rfl⟩) | (go_at_call 27; refine c2.mono ?_; rintro r w' ⟨rfl, rfl⟩))
      go_ret
      exact ⟨rfl, rfl⟩
    · rw [show decide (M.by8 s.data.toList 0 = UInt8.toNat 226 ∧ M.by8 s.data.toList 1 = UInt8.toNat 128 ∧ M.by8 s.data.toList 2 = UInt8.toNat 168) = false from decide_eq_false h2] at c2
      by_cases h3 : M.by8 s.data.toList 0 = 226 ∧ M.by8 s.data.toList 1 = 128 ∧ M.by8 s.data.toList 2 = 169
      · rw [if_pos ⟨h3.1, h3.2.1, Or.inr h3.2.2⟩]
        rw [show decide (M.by8 s.data.toList 0 = UInt8.toNat 226 ∧ M.by8 s.data.toList 1 = UInt8.toNat 128 ∧ M.by8 s.data.toList 2 = UInt8.toNat 169) = true from decide_eq_true h3] at c3
        clear h1 h2 h3
        go_enter Try.func28, Try.ntmps28
        go_wp2_with (first | (go_at_call 27; refine c1.mono ?_; rintro r w' ⟨rfl, rfl⟩) | (go_at_call 27; refine c2.mono ?_; rintro r w' ⟨rfl, rfl⟩) | (go_at_call 27; refine c3.mono ?_; rintro r w' ⟨rfl, rfl⟩))
        go_ret
        exact ⟨rfl, rfl⟩
      · rw [show decide (M.by8 s.data.toList 0 = UInt8.toNat 226 ∧ M.by8 s.data.toList 1 = UInt8.toNat 128 ∧ M.by8 s.data.toList 2 = UInt8.toNat 169) = false from decide_eq_false h3] at c3
        rw [if_neg (by rintro ⟨a, b, c | c⟩; exact h2 ⟨a, b, c⟩; exact h3 ⟨a, b, c⟩)]
        clear h1 h2 h3
        go_enter Try.func28, Try.ntmps28
        go_wp2_with (first | (go_at_call 27; refine c1.mono ?_; rintro r w' ⟨rfl, rfl⟩) | (go_at_call 27; refine c2.mono ?_; rintro r w' ⟨rfl, rfl⟩) | (go_at_call 27; refine c3.mono ?_; rintro r w' ⟨rfl, rfl⟩))
        go_ret
        exact ⟨rfl, rfl⟩

end Go.Proofs.Ythbmppkngaifmaa
