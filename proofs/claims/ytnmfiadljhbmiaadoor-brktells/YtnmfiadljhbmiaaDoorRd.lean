/- Walks of the document's May, Check and Break (targumref1). -/
import Derived.Test.YtnmfiadljhbmiaaDoorRc
import Derived.Test.YtnmfiadljhbmiaaDoorWb
set_option linter.unusedVariables false
namespace Go.Proofs.YtnmfiadljhbmiaaDoor
open Go.RowKit

set_option maxRecDepth 100000 in
set_option maxHeartbeats 4000000 in
theorem rmay_in (s : ByteArray) (i : Nat) (w : World) (hi : i < s.size) (hs : s.size ≤ 100000) (c n : Nat) (hcn : M.nx8 (s.data.toList.drop i) = (c, n)) :
    Calls Tryd.prog 13 #[.string s, .int .i64 i] w fun r w' => r = .returned (.int .i64 ((if M.mayB c = true then n else 0 : Nat) : Int)) ∧ w = w' := by
  have c1 := rnext_any s i w hi hs
  rw [hcn] at c1
  simp only at c1
  clear hcn
  rcases (show (c = 9) ∨ (c = 10) ∨ (c = 13) ∨ (32 ≤ c ∧ c ≤ 126) ∨ (c = 133) ∨ (c ≠ 9 ∧ c ≠ 10 ∧ c ≠ 13 ∧ ¬ (32 ≤ c ∧ c ≤ 126) ∧ c ≠ 133) by omega) with h | h | h | h | h | h
  · subst h
    rw [if_pos (by decide)]
    go_enter Tryd.func13, Tryd.ntmps13
    go_wp2_with (go_at_call 30; refine c1.mono ?_; rintro r w' ⟨rfl, rfl⟩)
    go_ret
    exact ⟨rfl, rfl⟩
  · subst h
    rw [if_pos (by decide)]
    go_enter Tryd.func13, Tryd.ntmps13
    go_wp2_with (go_at_call 30; refine c1.mono ?_; rintro r w' ⟨rfl, rfl⟩)
    go_ret
    exact ⟨rfl, rfl⟩
  · subst h
    rw [if_pos (by decide)]
    go_enter Tryd.func13, Tryd.ntmps13
    go_wp2_with (go_at_call 30; refine c1.mono ?_; rintro r w' ⟨rfl, rfl⟩)
    go_ret
    exact ⟨rfl, rfl⟩
  · have d0 : ((c : Int) == 9) = false := by simp; omega
    have d1 : ((c : Int) == 10) = false := by simp; omega
    have d2 : ((c : Int) == 13) = false := by simp; omega
    have d3 : decide ((32 : Int) ≤ (c : Int)) = true := by simp; omega
    have d4 : decide ((c : Int) ≤ 126) = true := by simp; omega
    rw [if_pos ((M.mayB_iff c).2 (by omega))]
    clear h
    go_enter Tryd.func13, Tryd.ntmps13
    go_wp2_with (go_at_call 30; refine c1.mono ?_; rintro r w' ⟨rfl, rfl⟩)
    go_ret
    exact ⟨rfl, rfl⟩
  · subst h
    rw [if_pos (by decide)]
    go_enter Tryd.func13, Tryd.ntmps13
    go_wp2_with (go_at_call 30; refine c1.mono ?_; rintro r w' ⟨rfl, rfl⟩)
    go_ret
    exact ⟨rfl, rfl⟩
  · have d0 : ((c : Int) == 9) = false := by simp; omega
    have d1 : ((c : Int) == 10) = false := by simp; omega
    have d2 : ((c : Int) == 13) = false := by simp; omega
    have d5 : ((c : Int) == 133) = false := by simp; omega
    have d34 : (decide ((32 : Int) ≤ (c : Int)) = false) ∨ (decide ((32 : Int) ≤ (c : Int)) = true ∧ decide ((c : Int) ≤ 126) = false) := by simp; omega
    rcases (show (c < 160) ∨ (160 ≤ c ∧ c ≤ 65533 ∧ c = 65279) ∨ (160 ≤ c ∧ c ≤ 65533 ∧ c ≠ 65279) ∨ (65533 < c ∧ c < 65536) ∨ (65536 ≤ c) by omega) with k | k | k | k | k
    · have f0 : decide ((160 : Int) ≤ (c : Int)) = false := by simp; omega
      have f3 : decide ((65536 : Int) ≤ (c : Int)) = false := by simp; omega
      rw [if_neg (by rw [(M.mayB_not c).2 (by omega)]; decide)]
      clear h k
      rcases d34 with d3 | ⟨d3, d4⟩
      all_goals
        go_enter Tryd.func13, Tryd.ntmps13
        go_wp2_with (go_at_call 30; refine c1.mono ?_; rintro r w' ⟨rfl, rfl⟩)
        go_ret
        exact ⟨rfl, rfl⟩
    · have f0 : decide ((160 : Int) ≤ (c : Int)) = true := by simp; omega
      have f1 : decide ((c : Int) ≤ 65533) = true := by simp; omega
      have f2 : ((c : Int) != 65279) = false := by simp; omega
      have f3 : decide ((65536 : Int) ≤ (c : Int)) = false := by simp; omega
      rw [if_neg (by rw [(M.mayB_not c).2 (by omega)]; decide)]
      clear h k
      rcases d34 with d3 | ⟨d3, d4⟩
      all_goals
        go_enter Tryd.func13, Tryd.ntmps13
        go_wp2_with (go_at_call 30; refine c1.mono ?_; rintro r w' ⟨rfl, rfl⟩)
        go_ret
        exact ⟨rfl, rfl⟩
    · have f0 : decide ((160 : Int) ≤ (c : Int)) = true := by simp; omega
      have f1 : decide ((c : Int) ≤ 65533) = true := by simp; omega
      have f2 : ((c : Int) != 65279) = true := by simp; omega
      rw [if_pos ((M.mayB_iff c).2 (by omega))]
      clear h k
      rcases d34 with d3 | ⟨d3, d4⟩
      all_goals
        go_enter Tryd.func13, Tryd.ntmps13
        go_wp2_with (go_at_call 30; refine c1.mono ?_; rintro r w' ⟨rfl, rfl⟩)
        go_ret
        exact ⟨rfl, rfl⟩
    · have f0 : decide ((160 : Int) ≤ (c : Int)) = true := by simp; omega
      have f1 : decide ((c : Int) ≤ 65533) = false := by simp; omega
      have f3 : decide ((65536 : Int) ≤ (c : Int)) = false := by simp; omega
      rw [if_neg (by rw [(M.mayB_not c).2 (by omega)]; decide)]
      clear h k
      rcases d34 with d3 | ⟨d3, d4⟩
      all_goals
        go_enter Tryd.func13, Tryd.ntmps13
        go_wp2_with (go_at_call 30; refine c1.mono ?_; rintro r w' ⟨rfl, rfl⟩)
        go_ret
        exact ⟨rfl, rfl⟩
    · have f0 : decide ((160 : Int) ≤ (c : Int)) = true := by simp; omega
      have f1 : decide ((c : Int) ≤ 65533) = false := by simp; omega
      have f3 : decide ((65536 : Int) ≤ (c : Int)) = true := by simp; omega
      rw [if_pos ((M.mayB_iff c).2 (by omega))]
      clear h k
      rcases d34 with d3 | ⟨d3, d4⟩
      all_goals
        go_enter Tryd.func13, Tryd.ntmps13
        go_wp2_with (go_at_call 30; refine c1.mono ?_; rintro r w' ⟨rfl, rfl⟩)
        go_ret
        exact ⟨rfl, rfl⟩


set_option maxHeartbeats 400000 in
theorem rnext_out (s : ByteArray) (i : Int) (w : World) (hi : i < 0 ∨ (s.size : Int) ≤ i) :
    Calls Tryd.prog 30 #[.string s, .int .i64 i] w fun r w' => r = .returned (.tuple #[.int .i64 0, .int .i64 0]) ∧ w = w' := by
  rcases hi with h | h
  · have i0 : decide (i < 0) = true := by simpa using h
    go_enter Tryd.func30, Tryd.ntmps30
    go_wp2
    go_ret2
    exact ⟨rfl, rfl⟩
  · have i0 : decide (i < 0) = false := by simp; omega
    have i1 : decide ((s.size : Int) ≤ i) = true := by simpa using h
    go_enter Tryd.func30, Tryd.ntmps30
    go_wp2
    go_ret2
    exact ⟨rfl, rfl⟩
set_option maxRecDepth 100000 in
set_option maxHeartbeats 1000000 in
theorem rmay_out (s : ByteArray) (i : Int) (w : World) (hi : i < 0 ∨ (s.size : Int) ≤ i) :
    Calls Tryd.prog 13 #[.string s, .int .i64 i] w fun r w' => r = .returned (.int .i64 0) ∧ w = w' := by
  have c1 := rnext_out s i w hi
  clear hi
  go_enter Tryd.func13, Tryd.ntmps13
  go_wp2_with (go_at_call 30; refine c1.mono ?_; rintro r w' ⟨rfl, rfl⟩)
  go_ret
  exact ⟨rfl, rfl⟩
/-- What May answers, at any place. -/
def mayZ (L : List UInt8) (i : Int) : Int := if i < 0 then 0 else (M.mayN (L.drop i.toNat) : Nat)
theorem mayZ_nat (L : List UInt8) (i : Nat) : mayZ L (i : Int) = (M.mayN (L.drop i) : Nat) := by unfold mayZ; rw [if_neg (by omega)]; rfl
theorem mayZ_out (s : ByteArray) (i : Int) (hi : i < 0 ∨ (s.size : Int) ≤ i) : mayZ s.data.toList i = 0 := by
  unfold mayZ
  split
  · rfl
  · rw [List.drop_eq_nil_of_le (by rw [← sz_list]; omega), M.mayN_nil]; rfl
theorem rmay_any (s : ByteArray) (i : Int) (w : World) (hs : s.size ≤ 100000) :
    Calls Tryd.prog 13 #[.string s, .int .i64 i] w fun r w' => r = .returned (.int .i64 (mayZ s.data.toList i)) ∧ w = w' := by
  by_cases h : i < 0 ∨ (s.size : Int) ≤ i
  · rw [mayZ_out _ _ h]; exact rmay_out s i w h
  · obtain ⟨n, rfl⟩ := Int.eq_ofNat_of_zero_le (show 0 ≤ i by omega)
    have c := rmay_in s n w (by omega) hs (M.nx8 (s.data.toList.drop n)).1 (M.nx8 (s.data.toList.drop n)).2 rfl
    rw [mayZ_nat]
    exact c

set_option maxRecDepth 100000 in
set_option maxHeartbeats 1000000 in
theorem rcheck_any (s : ByteArray) (w : World) (hs : s.size ≤ 100000) :
    Calls Tryd.prog 15 #[.string s] w fun r w' => r = .returned (.int .i64 (M.optZ (M.chk s.data.toList))) ∧ w = w' := by
  have hLl : s.size = s.data.toList.length := sz_list s
  obtain ⟨R, hR⟩ : ∃ R, M.chk s.data.toList = R := ⟨_, rfl⟩
  rw [hR]
  have HR := Lib.hid hR
  have HLl := Lib.hid hLl
  clear hLl hR
  go_enter Tryd.func15, Tryd.ntmps15
  go_wp2
  go_loop [3] (fun v => ∃ i : Nat, v = .int .i64 i ∧ i ≤ s.size ∧ Hid (M.chkFrom s.data.toList i = R)) (fun v => s.size - (intOf v).toNat)
  case atStart => exact ⟨0, rfl, Nat.zero_le _, by rw [M.chkFrom_zero]; exact HR.out⟩
  case round =>
    obtain ⟨i, rfl, hi, hst⟩ := hrel
    by_cases hlt : i < s.size
    · have hltd : decide (i < s.size) = true := by simpa using hlt
      have c1 := rmay_any s (i : Int) w hs
      rw [mayZ_nat] at c1
      have hle := M.mayN_le (s.data.toList.drop i)
      rw [List.length_drop, ← HLl.out] at hle
      obtain ⟨n, hn⟩ : ∃ n, M.mayN (s.data.toList.drop i) = n := ⟨_, rfl⟩
      rw [hn] at c1 hle
      have HN := Lib.hid hn
      clear hn
      by_cases hz : n = 0
      · subst hz
        have hfin := M.chkFrom_bad s.data.toList i (by rw [← HLl.out]; exact hlt) HN.out
        rw [hst.out] at hfin
        have HF := Lib.hid hfin
        clear hfin hle hlt
        go_wp2_with (go_at_call 13; refine c1.mono ?_; rintro r w' ⟨rfl, rfl⟩)
        go_ret
        exact ⟨by rw [HF.out]; rfl, rfl⟩
      · have hnb : ((n : Int) == 0) = false := by simp; omega
        have hstep := M.chkFrom_step s.data.toList i (by rw [HN.out]; exact hz)
        rw [hst.out, HN.out] at hstep
        have HS := Lib.hid hstep
        have hn1 : 1 ≤ n := by omega
        clear hstep hz
        go_wp2_with (go_at_call 13; refine c1.mono ?_; rintro r w' ⟨rfl, rfl⟩)
        go_round
        case rel => exact ⟨i + n, by go_num, by omega, HS.out.symm⟩
        case measure => simp [intOf]; omega
    · obtain rfl : i = s.size := by omega
      have hltd : decide (s.size < s.size) = false := by simp
      have hfin := M.chkFrom_end s.data.toList s.size (by rw [← HLl.out]; omega)
      rw [hst.out] at hfin
      have HF := Lib.hid hfin
      clear hfin hlt
      go_wp2
      go_ret
      exact ⟨by rw [HF.out]; rfl, rfl⟩

set_option maxRecDepth 100000 in
set_option maxHeartbeats 2000000 in
theorem rbreak_in (v : Int) (s : ByteArray) (i : Nat) (w : World) (hi : i < s.size) (hs : s.size ≤ 100000) :
    Calls Tryd.prog 11 #[.int .i64 v, .string s, .int .i64 i] w fun e w' => e = .returned (.int .i64 (M.brkN (isOld v) (s.data.toList.drop i) : Nat)) ∧ w = w' := by
  have g0 := getB s i hi
  have i0 : decide ((i : Int) < 0) = false := by simp
  have i1 : decide (s.size ≤ i) = false := by simp; omega
  have b0 : M.by8 (s.data.toList.drop i) 0 = M.by8 s.data.toList i := by rw [M.by8_drop, Nat.add_zero]
  have hbz : ((s[i]'hi).toNat : Int) < 256 := by have := M.by8_lt s.data.toList i; omega
  have b1 : M.by8 (s.data.toList.drop i) 1 = M.by8 s.data.toList (i + 1) := by rw [M.by8_drop]
  have c1 := rnext_any s i w hi hs
  obtain ⟨R, hR⟩ : ∃ R, M.brkN (isOld v) (s.data.toList.drop i) = R := ⟨_, rfl⟩
  rw [hR]
  by_cases h13 : M.by8 s.data.toList i = 13
  · have d13 : (((s[i]'hi).toNat : Int) == 13) = true := by simp; omega
    have d10 : (((s[i]'hi).toNat : Int) == 10) = false := by simp; omega
    by_cases hl : i + 1 < s.size
    · have dl : decide (i + 1 < s.size) = true := by simpa using hl
      have g1 := getB s (i + 1) hl
      by_cases h10 : M.by8 s.data.toList (i + 1) = 10
      · have e10 : (((s[i + 1]'hl).toNat : Int) == 10) = true := by simp; omega
        have hfin : R = 2 := by rw [← hR]; unfold M.brkN; rw [if_pos (by omega)]
        subst hfin
        clear hR b0 b1 g0 g1 h13 h10 hbz c1
        go_enter Tryd.func11, Tryd.ntmps11
        go_wp2
        go_ret
        exact ⟨rfl, rfl⟩
      · have e10 : (((s[i + 1]'hl).toNat : Int) == 10) = false := by simp; omega
        have hfin : R = 1 := by rw [← hR]; unfold M.brkN; rw [if_neg (by omega), if_pos (by omega)]
        subst hfin
        clear hR b0 b1 g0 g1 h13 h10 hbz c1
        go_enter Tryd.func11, Tryd.ntmps11
        go_wp2
        all_goals
          go_ret
          first | exact ⟨rfl, rfl⟩ | (exfalso; simp_all)
    · have dl : decide ((i : Int) + 1 < (s.size : Int)) = false := by simp; omega
      have dk : s.size ≤ i + 1 := by omega
      have hz := M.by8_out s.data.toList (i + 1) (by rw [← sz_list]; omega)
      have hfin : R = 1 := by rw [← hR]; unfold M.brkN; rw [if_neg (by omega), if_pos (by omega)]
      subst hfin
      clear hR b0 b1 g0 h13 hbz c1 hz hl
      go_enter Tryd.func11, Tryd.ntmps11
      go_wp2
      go_ret
      exact ⟨rfl, rfl⟩
  · have d13 : (((s[i]'hi).toNat : Int) == 13) = false := by simp; omega
    by_cases h10 : M.by8 s.data.toList i = 10
    · have d10 : (((s[i]'hi).toNat : Int) == 10) = true := by simp; omega
      have hfin : R = 1 := by rw [← hR]; unfold M.brkN; rw [if_neg (by omega), if_pos (by omega)]
      subst hfin
      clear hR b0 b1 g0 h13 h10 hbz c1
      go_enter Tryd.func11, Tryd.ntmps11
      go_wp2
      go_ret
      exact ⟨rfl, rfl⟩
    · have d10 : (((s[i]'hi).toNat : Int) == 10) = false := by simp; omega
      by_cases hv : v = 11
      · subst hv
        have hfin := M.brkN_nx (s.data.toList.drop i) (by omega) (by omega)
        rw [show M.brkN true (s.data.toList.drop i) = R from hR] at hfin
        obtain ⟨⟨c, n⟩, hcn⟩ : ∃ d, M.nx8 (s.data.toList.drop i) = d := ⟨_, rfl⟩
        rw [hcn] at c1 hfin
        simp only at c1 hfin
        clear hR b0 b1 g0 h13 h10 hbz hcn
        by_cases k1 : c = 133
        · have d1 : ((c : Int) == 133) = true := by simp; omega
          rw [if_pos (Or.inl k1)] at hfin
          subst hfin
          clear k1
          go_enter Tryd.func11, Tryd.ntmps11
          go_wp2_with (go_at_call 30; refine c1.mono ?_; rintro r w' ⟨rfl, rfl⟩)
          go_ret
          exact ⟨rfl, rfl⟩
        · have d1 : ((c : Int) == 133) = false := by simp; omega
          by_cases k2 : c = 8232
          · have d2 : ((c : Int) == 8232) = true := by simp; omega
            rw [if_pos (Or.inr (Or.inl k2))] at hfin
            subst hfin
            clear k1 k2
            go_enter Tryd.func11, Tryd.ntmps11
            go_wp2_with (go_at_call 30; refine c1.mono ?_; rintro r w' ⟨rfl, rfl⟩)
            go_ret
            exact ⟨rfl, rfl⟩
          · have d2 : ((c : Int) == 8232) = false := by simp; omega
            by_cases k3 : c = 8233
            · have d3 : ((c : Int) == 8233) = true := by simp; omega
              rw [if_pos (Or.inr (Or.inr k3))] at hfin
              subst hfin
              clear k1 k2 k3
              go_enter Tryd.func11, Tryd.ntmps11
              go_wp2_with (go_at_call 30; refine c1.mono ?_; rintro r w' ⟨rfl, rfl⟩)
              go_ret
              exact ⟨rfl, rfl⟩
            · have d3 : ((c : Int) == 8233) = false := by simp; omega
              rw [if_neg (by omega)] at hfin
              subst hfin
              clear k1 k2 k3
              go_enter Tryd.func11, Tryd.ntmps11
              go_wp2_with (go_at_call 30; refine c1.mono ?_; rintro r w' ⟨rfl, rfl⟩)
              go_ret
              exact ⟨rfl, rfl⟩
      · have dv : (v != 11) = true := by simpa using hv
        have hz : R = 0 := by rw [← hR, show isOld v = false by simpa [isOld] using hv]; exact newN_brk _ (by omega) (by omega)
        subst hz
        clear hR b0 b1 g0 h13 h10 hbz c1 hv
        go_enter Tryd.func11, Tryd.ntmps11
        go_wp2
        go_ret
        exact ⟨rfl, rfl⟩

set_option maxHeartbeats 400000 in
theorem rbreak_out (v : Int) (s : ByteArray) (i : Int) (w : World) (hi : i < 0 ∨ (s.size : Int) ≤ i) :
    Calls Tryd.prog 11 #[.int .i64 v, .string s, .int .i64 i] w fun e w' => e = .returned (.int .i64 0) ∧ w = w' := by
  rcases hi with h | h
  · have i0 : decide (i < 0) = true := by simpa using h
    go_enter Tryd.func11, Tryd.ntmps11
    go_wp2
    go_ret
    exact ⟨rfl, rfl⟩
  · have i0 : decide (i < 0) = false := by simp; omega
    have i1 : decide ((s.size : Int) ≤ i) = true := by simpa using h
    go_enter Tryd.func11, Tryd.ntmps11
    go_wp2
    go_ret
    exact ⟨rfl, rfl⟩
theorem rbreak_any (v : Int) (s : ByteArray) (i : Int) (w : World) (hs : s.size ≤ 100000) :
    Calls Tryd.prog 11 #[.int .i64 v, .string s, .int .i64 i] w fun e w' => e = .returned (.int .i64 (brkZ (isOld v) s.data.toList i)) ∧ w = w' := by
  by_cases h : i < 0 ∨ (s.size : Int) ≤ i
  · rw [brkZ_out _ _ _ h]; exact rbreak_out v s i w h
  · obtain ⟨n, rfl⟩ := Int.eq_ofNat_of_zero_le (show 0 ≤ i by omega)
    rw [brkZ_nat]; exact rbreak_in v s n w (by omega) hs

end Go.Proofs.YtnmfiadljhbmiaaDoor
