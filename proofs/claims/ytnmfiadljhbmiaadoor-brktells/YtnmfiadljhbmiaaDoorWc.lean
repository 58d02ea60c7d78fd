/- Walks of targum/brk's May and Check. -/
import Derived.Test.YtnmfiadljhbmiaaDoorWa
set_option linter.unusedVariables false
namespace Go.Proofs.YtnmfiadljhbmiaaDoor
open Go.RowKit

theorem decodeGo_list (s : ByteArray) (h : s.data.toList ≠ []) : Lib.decodeGo s = M.dN s.data.toList := by
  have e : s.size ≠ 0 := by rw [sz_list]; intro k; exact h (List.length_eq_zero_iff.1 k)
  unfold Lib.decodeGo
  rw [if_neg e, M.decode_drop, List.drop_zero]

def mayZr (r : Int) : Bool := decide (r = 9 ∨ r = 10 ∨ r = 13 ∨ (32 ≤ r ∧ r ≤ 126) ∨ r = 133 ∨ (160 ≤ r ∧ r ≤ 55295) ∨ (57344 ≤ r ∧ r ≤ 65533 ∧ r ≠ 65279) ∨ (65536 ≤ r ∧ r ≤ 1114111))

set_option maxRecDepth 100000 in
set_option maxHeartbeats 4000000 in
theorem mayBe_any (r : Int) (w : World) :
    Calls Tryd.prog 32 #[.int .i32 r] w fun e w' => e = .returned (.bool (mayZr r)) ∧ w = w' := by
  obtain ⟨R, hR⟩ : ∃ R, mayZr r = R := ⟨_, rfl⟩
  rw [hR]
  have HR := Lib.hid hR
  clear hR
  go_enter Tryd.func32, Tryd.ntmps32
  go_wp2
  all_goals
    go_ret
    refine ⟨ret_bool ?_, rfl⟩
    rw [← HR.out]
    unfold mayZr
    simp only [beq_iff_eq, bne_iff_ne, ne_eq, beq_eq_false_iff_ne, bne_eq_false_iff_eq] at *
    first | exact (decide_eq_true (by omega)).symm | exact (decide_eq_false (by omega)).symm

theorem mayN_dN (l : List UInt8) (hl : l ≠ []) : (M.mayN l : Int) = if (M.dN l).1 = 65533 ∧ (M.dN l).2 < 3 then 0 else if mayZr (M.dN l).1 = true then ((M.dN l).2 : Int) else 0 := by
  have h0 := M.dN_inv l hl
  obtain ⟨⟨c, n⟩, hcn⟩ : ∃ d, M.dN l = d := ⟨_, rfl⟩
  rw [hcn] at h0 ⊢
  by_cases hb : (c, n) = (65533, 1)
  · have e : M.nx8 l = (0, 0) := by unfold M.nx8; rw [if_pos (Or.inr (by rw [hcn]; exact hb))]
    have m : M.mayN l = 0 := by unfold M.mayN; rw [e]; decide
    have h1 : c = 65533 := congrArg Prod.fst hb
    have h2 : n = 1 := congrArg Prod.snd hb
    subst h1; subst h2
    rw [m, if_pos (show (65533 : Nat) = 65533 ∧ (1 : Nat) < 3 by omega)]
    rfl
  · have e : M.nx8 l = (c, n) := by unfold M.nx8; rw [if_neg (by rintro (h | h); exact hl h; exact hb (by rw [← h, hcn]))]; exact hcn
    have m : M.mayN l = if M.mayB c = true then n else 0 := by unfold M.mayN; rw [e]
    have h1 := h0 hb
    simp only at h1 ⊢
    have hsc := h1.1
    unfold M.IsScalar at hsc
    have hu : c = 65533 → n = 3 := fun e => by rw [h1.2.1, e]; decide
    rw [m, if_neg (show ¬ (c = 65533 ∧ n < 3) by omega)]
    by_cases hm : M.mayB c = true
    · have := (M.mayB_iff c).1 hm
      rw [if_pos hm, if_pos (show mayZr (c : Int) = true by unfold mayZr; rw [decide_eq_true_eq]; omega)]
    · have := (M.mayB_not c).1 (by simpa using hm)
      rw [if_neg hm, if_neg (show ¬ mayZr (c : Int) = true by unfold mayZr; rw [decide_eq_true_eq]; omega)]
      rfl

set_option maxRecDepth 100000 in
set_option maxHeartbeats 1000000 in
theorem may_in (s : ByteArray) (i : Nat) (w : World) (hT : Tabs w) (hi : i < s.size) :
    Calls Tryd.prog 12 #[.string s, .int .i64 i] w fun r w' => r = .returned (.int .i64 (M.mayN (s.data.toList.drop i) : Nat)) ∧ Below w.heap.size w w' := by
  have hl : s.data.toList.drop i ≠ [] := by intro h; have := congrArg List.length h; rw [List.length_drop, ← sz_list] at this; simp at this; omega
  have c1 := decode_any (s.extract i s.size) w hT
  rw [decodeGo_list _ (by rw [extract_list]; exact hl), extract_list] at c1
  have hm := mayN_dN (s.data.toList.drop i) hl
  rw [hm]
  obtain ⟨⟨c, n⟩, hcn⟩ : ∃ d, M.dN (s.data.toList.drop i) = d := ⟨_, rfl⟩
  rw [hcn] at c1 ⊢
  simp only at c1 ⊢
  have i0 : decide ((i : Int) < 0) = false := by simp
  have i1 : decide (s.size ≤ i) = false := by simp; omega
  have c2 := fun w => mayBe_any (c : Int) w
  clear hm hcn hl
  by_cases h1 : c = 65533
  · subst h1
    by_cases h2 : n < 3
    · have d2 : decide ((n : Int) < 3) = true := by simp; omega
      rw [if_pos ⟨rfl, h2⟩]
      go_enter Tryd.func12, Tryd.ntmps12
      go_wp2_with (go_at_call 31; refine c1.mono ?_; rintro r w' ⟨rfl, hb⟩)
      go_ret
      exact ⟨rfl, hb⟩
    · have d2 : decide ((n : Int) < 3) = false := by simp; omega
      rw [if_neg (by omega), if_pos (by decide)]
      rw [show mayZr ((65533 : Nat) : Int) = true by decide] at c2
      go_enter Tryd.func12, Tryd.ntmps12
      go_wp2_with (first | (go_at_call 31; refine c1.mono ?_; rintro r w' ⟨rfl, hb⟩) | (go_at_call 32; refine (c2 _).mono ?_; rintro r w' ⟨rfl, rfl⟩))
      go_ret
      exact ⟨rfl, hb⟩
  · have d1 : ((c : Int) == 65533) = false := by simp; omega
    rw [if_neg (by omega)]
    clear h1
    by_cases h3 : mayZr (c : Int) = true
    · rw [if_pos h3]
      rw [h3] at c2
      clear h3
      go_enter Tryd.func12, Tryd.ntmps12
      go_wp2_with (first | (go_at_call 31; refine c1.mono ?_; rintro r w' ⟨rfl, hb⟩) | (go_at_call 32; refine (c2 _).mono ?_; rintro r w' ⟨rfl, rfl⟩))
      go_ret
      exact ⟨rfl, hb⟩
    · rw [if_neg h3]
      rw [show mayZr (c : Int) = false by simpa using h3] at c2
      clear h3
      go_enter Tryd.func12, Tryd.ntmps12
      go_wp2_with (first | (go_at_call 31; refine c1.mono ?_; rintro r w' ⟨rfl, hb⟩) | (go_at_call 32; refine (c2 _).mono ?_; rintro r w' ⟨rfl, rfl⟩))
      go_ret
      exact ⟨rfl, hb⟩

set_option maxHeartbeats 400000 in
theorem may_out (s : ByteArray) (i : Int) (w : World) (hi : i < 0 ∨ (s.size : Int) ≤ i) :
    Calls Tryd.prog 12 #[.string s, .int .i64 i] w fun e w' => e = .returned (.int .i64 0) ∧ w = w' := by
  rcases hi with h | h
  · have i0 : decide (i < 0) = true := by simpa using h
    go_enter Tryd.func12, Tryd.ntmps12
    go_wp2
    go_ret
    exact ⟨rfl, rfl⟩
  · have i0 : decide (i < 0) = false := by simp; omega
    have i1 : decide ((s.size : Int) ≤ i) = true := by simpa using h
    go_enter Tryd.func12, Tryd.ntmps12
    go_wp2
    go_ret
    exact ⟨rfl, rfl⟩

set_option maxRecDepth 100000 in
set_option maxHeartbeats 1000000 in
theorem check_any (s : ByteArray) (w : World) (hT : Tabs w) (hs : s.size ≤ 100000) :
    Calls Tryd.prog 14 #[.string s] w fun r w' => r = .returned (.int .i64 (M.optZ (M.chk s.data.toList))) ∧ Below w.heap.size w w' := by
  have hLl : s.size = s.data.toList.length := sz_list s
  obtain ⟨R, hR⟩ : ∃ R, M.chk s.data.toList = R := ⟨_, rfl⟩
  rw [hR]
  have HR := Lib.hid hR
  have HLl := Lib.hid hLl
  clear hLl hR
  go_enter Tryd.func14, Tryd.ntmps14
  go_wp2
  go_loopw [3] (fun v wr => ∃ i : Nat, v = .int .i64 i ∧ i ≤ s.size ∧ Hid (M.chkFrom s.data.toList i = R) ∧ Below w.heap.size w wr) (fun v _ => s.size - (intOf v).toNat)
  case atStart => exact ⟨0, rfl, Nat.zero_le _, by rw [M.chkFrom_zero]; exact HR.out, Below.refl _ _⟩
  case round =>
    obtain ⟨i, rfl, hi, hst, hbw⟩ := hrel
    by_cases hlt : i < s.size
    · have hltd : decide (i < s.size) = true := by simpa using hlt
      have c1 := may_in s i wr (hT.below hbw) hlt
      have hle := M.mayN_le (s.data.toList.drop i)
      rw [List.length_drop, ← HLl.out] at hle
      obtain ⟨n, hn⟩ : ∃ n, M.mayN (s.data.toList.drop i) = n := ⟨_, rfl⟩
      rw [hn] at c1 hle
      have HN := Lib.hid hn
      clear hn
      by_cases hz : n = 0
      · subst hz
        have hfin := M.chkFrom_bad s.data.toList i (by rw [← HLl.out]; exact hlt) HN.out
        rw [hst.out] at hfin
        have HF := Lib.hid hfin
        clear hfin hle hlt
        go_wp2_with (go_at_call 12; refine c1.mono ?_; rintro r w' ⟨rfl, hb'⟩)
        go_ret
        exact ⟨by rw [HF.out]; rfl, hbw.trans (hb'.mono hbw.size)⟩
      · have hnb : ((n : Int) == 0) = false := by simp; omega
        have hstep := M.chkFrom_step s.data.toList i (by rw [HN.out]; exact hz)
        rw [hst.out, HN.out] at hstep
        have HS := Lib.hid hstep
        have hn1 : 1 ≤ n := by omega
        clear hstep hz
        go_wp2_with (go_at_call 12; refine c1.mono ?_; rintro r w' ⟨rfl, hb'⟩)
        go_roundw
        case rel => exact ⟨i + n, by go_num, by omega, HS.out.symm, hbw.trans (hb'.mono hbw.size)⟩
        case measure => simp [intOf]; omega
    · obtain rfl : i = s.size := by omega
      have hltd : decide (s.size < s.size) = false := by simp
      have hfin := M.chkFrom_end s.data.toList s.size (by rw [← HLl.out]; omega)
      rw [hst.out] at hfin
      have HF := Lib.hid hfin
      clear hfin hlt
      go_wp2
      go_ret
      exact ⟨by rw [HF.out]; rfl, hbw⟩

end Go.Proofs.YtnmfiadljhbmiaaDoor
