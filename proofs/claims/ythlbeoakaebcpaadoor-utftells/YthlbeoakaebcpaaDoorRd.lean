/- Walks of the document's May and Check, and of Few: texts whose signs may be. -/
import Derived.Test.YthlbeoakaebcpaaDoorRc
namespace Go.Proofs.YthlbeoakaebcpaaDoor
open Go.RowKit

/-- A sign that may be. -/
def mayB (c : Nat) : Bool := decide ((c = 9 ∨ c = 10 ∨ c = 13 ∨ (32 ≤ c ∧ c ≤ 126) ∨ c = 133) ∨ ((160 ≤ c ∧ c ≤ 65533) ∧ c ≠ 65279) ∨ 65536 ≤ c)
theorem mayB_iff (c : Nat) : mayB c = true ↔ ((c = 9 ∨ c = 10 ∨ c = 13 ∨ (32 ≤ c ∧ c ≤ 126) ∨ c = 133) ∨ ((160 ≤ c ∧ c ≤ 65533) ∧ c ≠ 65279) ∨ 65536 ≤ c) := by unfold mayB; simp
theorem mayB_not (c : Nat) : mayB c = false ↔ ¬ ((c = 9 ∨ c = 10 ∨ c = 13 ∨ (32 ≤ c ∧ c ≤ 126) ∨ c = 133) ∨ ((160 ≤ c ∧ c ≤ 65533) ∧ c ≠ 65279) ∨ 65536 ≤ c) := by unfold mayB; simp only [decide_eq_false_iff_not]

set_option maxRecDepth 100000 in
set_option maxHeartbeats 4000000 in
theorem may_any (s : ByteArray) (i : Nat) (w : World) (hi : i < s.size) (hs : s.size ≤ 100000) (c n : Nat) (hcn : M.nx8 (s.data.toList.drop i) = (c, n)) :
    Calls Tryd.prog 46 #[.string s, .int .i64 i] w fun r w' => r = .returned (.int .i64 ((if mayB c = true then n else 0 : Nat) : Int)) ∧ w = w' := by
  have c1 := rnext_any s i w hi hs
  rw [hcn] at c1
  simp only at c1
  clear hcn
  rcases (show (c = 9) ∨ (c = 10) ∨ (c = 13) ∨ (32 ≤ c ∧ c ≤ 126) ∨ (c = 133) ∨ (c ≠ 9 ∧ c ≠ 10 ∧ c ≠ 13 ∧ ¬ (32 ≤ c ∧ c ≤ 126) ∧ c ≠ 133) by omega) with h | h | h | h | h | h
  · subst h
    rw [if_pos (by decide)]
    go_enter Tryd.func46, Tryd.ntmps46
    go_wp2_with (go_at_call 32; refine c1.mono ?_; rintro r w' ⟨rfl, rfl⟩)
    go_ret
    exact ⟨rfl, rfl⟩
  · subst h
    rw [if_pos (by decide)]
    go_enter Tryd.func46, Tryd.ntmps46
    go_wp2_with (go_at_call 32; refine c1.mono ?_; rintro r w' ⟨rfl, rfl⟩)
    go_ret
    exact ⟨rfl, rfl⟩
  · subst h
    rw [if_pos (by decide)]
    go_enter Tryd.func46, Tryd.ntmps46
    go_wp2_with (go_at_call 32; refine c1.mono ?_; rintro r w' ⟨rfl, rfl⟩)
    go_ret
    exact ⟨rfl, rfl⟩
  · have d0 : ((c : Int) == 9) = false := by simp; omega
    have d1 : ((c : Int) == 10) = false := by simp; omega
    have d2 : ((c : Int) == 13) = false := by simp; omega
    have d3 : decide ((32 : Int) ≤ (c : Int)) = true := by simp; omega
    have d4 : decide ((c : Int) ≤ 126) = true := by simp; omega
    rw [if_pos ((mayB_iff c).2 (by omega))]
    clear h
    go_enter Tryd.func46, Tryd.ntmps46
    go_wp2_with (go_at_call 32; refine c1.mono ?_; rintro r w' ⟨rfl, rfl⟩)
    go_ret
    exact ⟨rfl, rfl⟩
  · subst h
    rw [if_pos (by decide)]
    go_enter Tryd.func46, Tryd.ntmps46
    go_wp2_with (go_at_call 32; refine c1.mono ?_; rintro r w' ⟨rfl, rfl⟩)
    go_ret
    exact ⟨rfl, rfl⟩
  · have d0 : ((c : Int) == 9) = false := by simp; omega
    have d1 : ((c : Int) == 10) = false := by simp; omega
    have d2 : ((c : Int) == 13) = false := by simp; omega
    have d5 : ((c : Int) == 133) = false := by simp; omega
    have d34 : (decide ((32 : Int) ≤ (c : Int)) = false) ∨ (decide ((32 : Int) ≤ (c : Int)) = true ∧ decide ((c : Int) ≤ 126) = false) := by simp; omega
    rcases (show (c < 160) ∨ (160 ≤ c ∧ c ≤ 65533 ∧ c = 65279) ∨ (160 ≤ c ∧ c ≤ 65533 ∧ c ≠ 65279) ∨ (65533 < c ∧ c < 65536) ∨ (65536 ≤ c) by omega) with k | k | k | k | k
    · have f0 : decide ((160 : Int) ≤ (c : Int)) = false := by simp; omega
      have f3 : decide ((65536 : Int) ≤ (c : Int)) = false := by simp; omega
      rw [if_neg (by rw [(mayB_not c).2 (by omega)]; decide)]
      clear h k
      rcases d34 with d3 | ⟨d3, d4⟩
      all_goals
        go_enter Tryd.func46, Tryd.ntmps46
        go_wp2_with (go_at_call 32; refine c1.mono ?_; rintro r w' ⟨rfl, rfl⟩)
        go_ret
        exact ⟨rfl, rfl⟩
    · have f0 : decide ((160 : Int) ≤ (c : Int)) = true := by simp; omega
      have f1 : decide ((c : Int) ≤ 65533) = true := by simp; omega
      have f2 : ((c : Int) != 65279) = false := by simp; omega
      have f3 : decide ((65536 : Int) ≤ (c : Int)) = false := by simp; omega
      rw [if_neg (by rw [(mayB_not c).2 (by omega)]; decide)]
      clear h k
      rcases d34 with d3 | ⟨d3, d4⟩
      all_goals
        go_enter Tryd.func46, Tryd.ntmps46
        go_wp2_with (go_at_call 32; refine c1.mono ?_; rintro r w' ⟨rfl, rfl⟩)
        go_ret
        exact ⟨rfl, rfl⟩
    · have f0 : decide ((160 : Int) ≤ (c : Int)) = true := by simp; omega
      have f1 : decide ((c : Int) ≤ 65533) = true := by simp; omega
      have f2 : ((c : Int) != 65279) = true := by simp; omega
      rw [if_pos ((mayB_iff c).2 (by omega))]
      clear h k
      rcases d34 with d3 | ⟨d3, d4⟩
      all_goals
        go_enter Tryd.func46, Tryd.ntmps46
        go_wp2_with (go_at_call 32; refine c1.mono ?_; rintro r w' ⟨rfl, rfl⟩)
        go_ret
        exact ⟨rfl, rfl⟩
    · have f0 : decide ((160 : Int) ≤ (c : Int)) = true := by simp; omega
      have f1 : decide ((c : Int) ≤ 65533) = false := by simp; omega
      have f3 : decide ((65536 : Int) ≤ (c : Int)) = false := by simp; omega
      rw [if_neg (by rw [(mayB_not c).2 (by omega)]; decide)]
      clear h k
      rcases d34 with d3 | ⟨d3, d4⟩
      all_goals
        go_enter Tryd.func46, Tryd.ntmps46
        go_wp2_with (go_at_call 32; refine c1.mono ?_; rintro r w' ⟨rfl, rfl⟩)
        go_ret
        exact ⟨rfl, rfl⟩
    · have f0 : decide ((160 : Int) ≤ (c : Int)) = true := by simp; omega
      have f1 : decide ((c : Int) ≤ 65533) = false := by simp; omega
      have f3 : decide ((65536 : Int) ≤ (c : Int)) = true := by simp; omega
      rw [if_pos ((mayB_iff c).2 (by omega))]
      clear h k
      rcases d34 with d3 | ⟨d3, d4⟩
      all_goals
        go_enter Tryd.func46, Tryd.ntmps46
        go_wp2_with (go_at_call 32; refine c1.mono ?_; rintro r w' ⟨rfl, rfl⟩)
        go_ret
        exact ⟨rfl, rfl⟩

/-- What Check answers: below nought just of texts whose signs may be. -/
def ChkPost (L : List UInt8) (r : Ending) : Prop := ∃ k : Int, r = .returned (.int .i64 k) ∧ (k < 0 → ∃ cs, M.Wf L cs ∧ ∀ c ∈ cs, mayB c = true)

set_option maxRecDepth 100000 in
set_option maxHeartbeats 1000000 in
theorem check_any (s : ByteArray) (w : World) (hs : s.size ≤ 100000) :
    Calls Tryd.prog 35 #[.string s] w fun r w' => ChkPost s.data.toList r ∧ w = w' := by
  have hLl : s.size = s.data.toList.length := sz_list s
  have HLl := Lib.hid hLl
  clear hLl
  go_enter Tryd.func35, Tryd.ntmps35
  go_wp2
  go_loop [3] (fun v => ∃ (i : Nat) (cs : List Nat), v = .int .i64 i ∧ i ≤ s.size ∧ Hid (M.Steps 1 s.data.toList cs (s.data.toList.drop i) ∧ ∀ c ∈ cs, mayB c = true)) (fun v => s.size - (intOf v).toNat)
  case atStart => exact ⟨0, [], rfl, Nat.zero_le _, M.Steps.nil _, by simp⟩
  case round =>
    obtain ⟨i, cs, rfl, hi, hst⟩ := hrel
    by_cases hlt : i < s.size
    · have hltd : decide (i < s.size) = true := by simpa using hlt
      have hok := M.nx_ok 1 (s.data.toList.drop i)
      rw [List.length_drop, ← HLl.out, M.nx_1] at hok
      obtain ⟨⟨c, n⟩, hcn⟩ : ∃ d, M.nx8 (s.data.toList.drop i) = d := ⟨_, rfl⟩
      have c1 := may_any s i w hlt hs c n hcn
      rw [hcn] at hok
      have HCN := Lib.hid hcn
      clear hcn
      simp only at hok
      by_cases hn : mayB c = true ∧ n ≠ 0
      · obtain ⟨hm, hn⟩ := hn
        rw [if_pos hm] at c1
        obtain ⟨_, ok2, ok3⟩ := hok hn
        have hnb : ((n : Int) == 0) = false := by simp; omega
        have HM := Lib.hid hm
        clear hok hm
        go_wp2_with (go_at_call 46; refine c1.mono ?_; rintro r w' ⟨rfl, rfl⟩)
        go_round
        case rel => exact ⟨i + n, cs ++ [c], by go_num, by omega, by
          have h := hst.out.1.snoc (by rw [M.nx_1]; exact HCN.out) hn
          rw [List.drop_drop] at h
          refine ⟨h, ?_⟩
          intro x hx
          rcases List.mem_append.1 hx with h | h
          · exact hst.out.2 x h
          · rw [List.mem_singleton.1 h]; exact HM.out⟩
        case measure => simp [intOf]; omega
      · have hz : (if mayB c = true then n else 0) = 0 := by
          split
          · rename_i h; simp only [h, true_and, ne_eq, Decidable.not_not] at hn; exact hn
          · rfl
        rw [hz] at c1
        clear hok hn hz
        go_wp2_with (go_at_call 46; refine c1.mono ?_; rintro r w' ⟨rfl, rfl⟩)
        go_ret
        exact ⟨⟨i, rfl, fun h => absurd h (by omega)⟩, rfl⟩
    · obtain rfl : i = s.size := by omega
      have hltd : decide (s.size < s.size) = false := by simp
      clear hlt
      go_wp2
      go_ret
      refine ⟨⟨-1, rfl, fun _ => ⟨cs, ?_, hst.out.2⟩⟩, rfl⟩
      have h := steps_wf hst.out.1
      rw [HLl.out, List.drop_length, List.append_nil] at h
      exact h

def FewPost (s : ByteArray) (r : Ending) : Prop := ∃ b : Bool, r = .returned (.bool b) ∧ (b = true → s.size ≤ 300 ∧ ∃ cs, M.Wf s.data.toList cs ∧ ∀ c ∈ cs, mayB c = true)

set_option maxRecDepth 100000 in
set_option maxHeartbeats 1000000 in
theorem few_any (s : ByteArray) (w : World) (hs : s.size ≤ maxLen) :
    Calls Tryd.prog 20 #[.string s, .int .i64 300] w fun r w' => FewPost s r ∧ w = w' := by
  unfold maxLen at hs
  by_cases h : s.size ≤ 300
  · have d1 : decide ((s.size : Int) ≤ 300) = true := by simp; omega
    go_enter Tryd.func20, Tryd.ntmps20
    go_wp2_with fail
    refine (check_any s _ (by omega)).mono ?_
    rintro r w' ⟨⟨k, rfl, hk⟩, rfl⟩
    have HK := Lib.hid hk
    clear hk
    by_cases hk0 : k < 0
    · have dk : decide (k < 0) = true := by simpa using hk0
      go_wp2
      go_ret
      exact ⟨⟨true, rfl, fun _ => ⟨h, HK.out hk0⟩⟩, rfl⟩
    · have dk : decide (k < 0) = false := by simpa using hk0
      go_wp2
      go_ret
      exact ⟨⟨false, rfl, fun h => by cases h⟩, rfl⟩
  · have d1 : decide ((s.size : Int) ≤ 300) = false := by simp; omega
    go_enter Tryd.func20, Tryd.ntmps20
    go_wp2
    go_ret
    exact ⟨⟨false, rfl, fun h => by cases h⟩, rfl⟩

end Go.Proofs.YthlbeoakaebcpaaDoor
