/- Walks: stamp's at, isDigit, isBlank, number, Days, isLong; targumref10's Days. -/
import Derived.Test.YtoidlgopibnaaaaDoorK
set_option linter.unusedVariables false
namespace Go.Proofs.YtoidlgopibnaaaaDoor
open Go.RowKit

set_option maxRecDepth 100000 in
theorem at_in (s : ByteArray) (i : Nat) (w : World) (h : i < s.size) (hs : s.size ≤ 1000000) :
    Calls Tryd.prog 28 #[.string s, .int .i64 i] w fun e w' => e = .returned (.int .i64 (s[i].toNat : Nat)) ∧ w = w' := by
  have hd : decide (i < s.size) = true := by simpa using h
  have hc : s[i].toNat < 256 := s[i].toNat_lt
  go_enter Tryd.func28, Tryd.ntmps28
  go_wp2
  go_ret
  exact ⟨ret_int (by first | rfl | (unfold wrap64; omega)), rfl⟩
set_option maxRecDepth 100000 in
theorem at_out (s : ByteArray) (i : Nat) (w : World) (h : ¬ i < s.size) (hs : s.size ≤ 1000000) :
    Calls Tryd.prog 28 #[.string s, .int .i64 i] w fun e w' => e = .returned (.int .i64 (-1)) ∧ w = w' := by
  have hd : decide (i < s.size) = false := by simpa using h
  go_enter Tryd.func28, Tryd.ntmps28
  go_wp2
  go_ret
  exact ⟨rfl, rfl⟩
set_option maxRecDepth 100000 in
theorem dig_end (w : World) : Calls Tryd.prog 40 #[.int .i64 (-1)] w fun e w' => e = .returned (.bool false) ∧ w = w' := by
  go_enter Tryd.func40, Tryd.ntmps40
  go_wp2
  go_ret
  exact ⟨rfl, rfl⟩
set_option maxRecDepth 100000 in
theorem dig_any (c : UInt8) (w : World) : Calls Tryd.prog 40 #[.int .i64 (c.toNat : Nat)] w fun e w' => e = .returned (.bool (M.dB c)) ∧ w = w' := by
  have hc : c.toNat < 256 := c.toNat_lt
  unfold M.dB
  generalize c.toNat = n at *
  by_cases h1 : 48 ≤ n
  · by_cases h2 : n ≤ 57
    · rw [decide_eq_true h1, decide_eq_true h2]
      have e1 : decide ((48 : Int) ≤ (n : Int)) = true := decide_eq_true (by omega)
      have e2 : decide ((n : Int) ≤ 57) = true := decide_eq_true (by omega)
      go_enter Tryd.func40, Tryd.ntmps40
      go_wp2
      go_ret
      exact ⟨rfl, rfl⟩
    · rw [decide_eq_true h1, decide_eq_false h2]
      have e1 : decide ((48 : Int) ≤ (n : Int)) = true := decide_eq_true (by omega)
      have e2 : decide ((n : Int) ≤ 57) = false := decide_eq_false (by omega)
      go_enter Tryd.func40, Tryd.ntmps40
      go_wp2
      go_ret
      exact ⟨rfl, rfl⟩
  · rw [decide_eq_false h1]
    have e1 : decide ((48 : Int) ≤ (n : Int)) = false := decide_eq_false (by omega)
    go_enter Tryd.func40, Tryd.ntmps40
    go_wp2
    go_ret
    exact ⟨rfl, rfl⟩
set_option maxRecDepth 100000 in
theorem bl_end (w : World) : Calls Tryd.prog 30 #[.int .i64 (-1)] w fun e w' => e = .returned (.bool false) ∧ w = w' := by
  go_enter Tryd.func30, Tryd.ntmps30
  go_wp2
  go_ret
  exact ⟨rfl, rfl⟩
set_option maxRecDepth 100000 in
theorem bl_any (c : UInt8) (w : World) : Calls Tryd.prog 30 #[.int .i64 (c.toNat : Nat)] w fun e w' => e = .returned (.bool (M.bB c)) ∧ w = w' := by
  have hc : c.toNat < 256 := c.toNat_lt
  unfold M.bB
  generalize c.toNat = n at *
  by_cases h1 : n = 32
  · subst h1
    go_enter Tryd.func30, Tryd.ntmps30
    go_wp2
    go_ret
    exact ⟨rfl, rfl⟩
  · have e1 : ((n : Int) == 32) = false := beq_eq_false_iff_ne.2 (by omega)
    rw [decide_eq_false h1]
    by_cases h2 : n = 9
    · subst h2
      go_enter Tryd.func30, Tryd.ntmps30
      go_wp2
      go_ret
      exact ⟨rfl, rfl⟩
    · have e2 : ((n : Int) == 9) = false := beq_eq_false_iff_ne.2 (by omega)
      rw [decide_eq_false h2]
      clear h1 h2
      go_enter Tryd.func30, Tryd.ntmps30
      go_wp2
      go_ret
      exact ⟨rfl, rfl⟩

theorem pow_le4 {n : Nat} (h : n ≤ 4) : 10 ^ n ≤ 10000 := Nat.pow_le_pow_right (n := 10) (by omega) h
set_option maxRecDepth 100000 in
set_option maxHeartbeats 1000000 in
theorem number_any (s : ByteArray) (i most : Nat) (w : World) (hs : s.size ≤ 100000) (hi : i ≤ s.size) (hm : most ≤ 4) :
    Calls Tryd.prog 27 #[.string s, .int .i64 i, .int .i64 most] w fun e w' => e = .returned (.tuple #[.int .i64 (M.nv most 0 (s.data.toList.drop i) : Nat), .int .i64 (M.cnt most (s.data.toList.drop i) : Nat)]) ∧ w = w' := by
  obtain ⟨V, hV⟩ : ∃ V, M.nv most 0 (s.data.toList.drop i) = V := ⟨_, rfl⟩
  obtain ⟨C, hC⟩ : ∃ C, M.cnt most (s.data.toList.drop i) = C := ⟨_, rfl⟩
  rw [hV, hC]
  have HV := Lib.hid hV
  have HC := Lib.hid hC
  clear hV hC
  go_enter Tryd.func27, Tryd.ntmps27
  go_wp2_with fail
  go_loop [8, 9] (fun a b => ∃ v n : Nat, a = .int .i64 v ∧ b = .int .i64 n ∧ n ≤ most ∧ i + n ≤ s.size ∧ Hid (v < 10 ^ n) ∧ Hid (M.cnt (most - n) (s.data.toList.drop (i + n)) + n = C) ∧ Hid (M.nv (most - n) v (s.data.toList.drop (i + n)) = V)) (fun _ b => most - (intOf b).toNat)
  case atStart => exact ⟨0, 0, rfl, rfl, Nat.zero_le _, hi, by show 0 < 10 ^ 0; decide, HC.out, HV.out⟩
  case round =>
    obtain ⟨v, n, rfl, rfl, hn, hin, hv, hst, hsv⟩ := hrel
    clear HV HC
    by_cases hlt : n < most
    · have hltd : decide (n < most) = true := decide_eq_true hlt
      have hltd2 : decide ((n : Int) < (most : Int)) = true := decide_eq_true (by omega)
      obtain ⟨k, hk⟩ : ∃ k, most - n = k + 1 := ⟨most - n - 1, by omega⟩
      have e1 := hst.out
      have e2 := hsv.out
      rw [hk] at e1 e2
      by_cases hl : i + n < s.size
      · have c1 := fun W => at_in s (i + n) W hl (by omega)
        have c2 := fun W => dig_any s[i + n] W
        rw [drop_cons s (i + n) hl, M.cnt] at e1
        rw [drop_cons s (i + n) hl, M.nv] at e2
        have hc := s[i + n].toNat_lt
        by_cases hd : M.dB s[i + n] = true
        · rw [if_pos hd] at e1 e2
          rw [hd] at c2
          have hdd : 48 ≤ s[i + n].toNat ∧ s[i + n].toNat ≤ 57 := by simpa [M.dB] using hd
          generalize s[i + n].toNat = x at *
          have hv9 : v ≤ 999 := by
            have h1 := hv.out
            have h2 := Nat.pow_le_pow_right (n := 10) (by omega) (show n ≤ 3 by omega)
            omega
          have hk2 : most - (n + 1) = k := by omega
          have E1 : Hid (M.cnt (most - (n + 1)) (s.data.toList.drop (i + (n + 1))) + (n + 1) = C) := by show _ = _; rw [hk2, ← Nat.add_assoc i n 1]; omega
          have E2 : Hid (M.nv (most - (n + 1)) (v * 10 + (x - 48)) (s.data.toList.drop (i + (n + 1))) = V) := by show _ = _; rw [hk2, ← Nat.add_assoc i n 1]; exact e2
          have E3 : Hid (v * 10 + (x - 48) < 10 ^ (n + 1)) := by
            show _ < _
            have h1 := hv.out
            rw [Nat.pow_succ]; omega
          obtain ⟨hd1, hd2⟩ := hdd
          have E4 : Hid (((v * 10 + (x - 48) : Nat) : Int) = (v : Int) * 10 + (x : Int) - 48) := by show _ = _; omega
          clear e1 e2 hst hsv hv hk hk2 hd
          go_wp2_with fail
          refine (c1 _).mono ?_
          rintro r w' ⟨rfl, rfl⟩
          go_wp2_with fail
          refine (c2 _).mono ?_
          rintro r w' ⟨rfl, rfl⟩
          go_wp2_with fail
          refine (c1 _).mono ?_
          rintro r w' ⟨rfl, rfl⟩
          go_wp2_with fail
          go_round
          case rel => exact ⟨v * 10 + (x - 48), n + 1, by rw [E4.out], by go_num, by omega, by omega, E3, E1, E2⟩
          case measure => simp [intOf]; omega
        · have hd' : M.dB s[i + n] = false := by simpa using hd
          rw [if_neg hd] at e1 e2
          rw [hd'] at c2
          generalize s[i + n].toNat = x at *
          obtain rfl : n = C := by omega
          subst e2
          clear hst hsv hv hk hd hd' e1
          go_wp2_with fail
          refine (c1 _).mono ?_
          rintro r w' ⟨rfl, rfl⟩
          go_wp2_with fail
          refine (c2 _).mono ?_
          rintro r w' ⟨rfl, rfl⟩
          go_wp2
          go_ret2
          exact ⟨rfl, rfl⟩
      · have c1 := fun W => at_out s (i + n) W hl (by omega)
        have c2 := fun W => dig_end W
        rw [drop_nil s (i + n) (by omega), M.cnt] at e1
        rw [drop_nil s (i + n) (by omega), M.nv] at e2
        obtain rfl : n = C := by omega
        subst e2
        clear hst hsv hv hk e1
        go_wp2_with fail
        refine (c1 _).mono ?_
        rintro r w' ⟨rfl, rfl⟩
        go_wp2_with fail
        refine (c2 _).mono ?_
        rintro r w' ⟨rfl, rfl⟩
        go_wp2
        go_ret2
        exact ⟨rfl, rfl⟩
    · obtain rfl : n = most := by omega
      have e1 := hst.out
      have e2 := hsv.out
      rw [Nat.sub_self, M.cnt] at e1
      rw [Nat.sub_self, M.nv] at e2
      obtain rfl : n = C := by omega
      subst e2
      have hltd : decide (n < n) = false := decide_eq_false (by omega)
      clear hst hsv hv e1 hlt
      go_wp2
      go_ret2
      exact ⟨rfl, rfl⟩

theorem tm {y k : Nat} (h : 0 < k) : Int.tmod (y : Int) (k : Int) = ((y % k : Nat) : Int) := by
  rw [← Int.ofNat_tmod]
set_option maxRecDepth 100000 in
set_option maxHeartbeats 1000000 in
theorem long_any (y : Nat) (w : World) (hy : y ≤ 9223372036854775807) : Calls Tryd.prog 26 #[.int .i64 y] w fun e w' => e = .returned (.bool (M.lng y)) ∧ w = w' := by
  unfold M.lng
  obtain ⟨a, ha⟩ : ∃ a, y % 4 = a := ⟨_, rfl⟩
  obtain ⟨b, hb⟩ : ∃ b, y % 100 = b := ⟨_, rfl⟩
  obtain ⟨c, hc⟩ : ∃ c, y % 400 = c := ⟨_, rfl⟩
  have e1 : Int.tmod (y : Int) 4 = (a : Int) := by rw [← ha]; exact tm (k := 4) (by omega)
  have e2 : Int.tmod (y : Int) 100 = (b : Int) := by rw [← hb]; exact tm (k := 100) (by omega)
  have e3 : Int.tmod (y : Int) 400 = (c : Int) := by rw [← hc]; exact tm (k := 400) (by omega)
  have f1 : (y : Int) % 4 = (a : Int) := by rw [← ha]; rfl
  have f2 : (y : Int) % 100 = (b : Int) := by rw [← hb]; rfl
  have f3 : (y : Int) % 400 = (c : Int) := by rw [← hc]; rfl
  rw [ha, hb, hc]
  clear ha hb hc
  by_cases h1 : a = 0
  · subst h1
    by_cases h2 : b = 0
    · subst h2
      by_cases h3 : c = 0
      · subst h3
        go_enter Tryd.func26, Tryd.ntmps26
        go_wp2
        go_ret
        exact ⟨rfl, rfl⟩
      · have g3 : ((c : Int) == 0) = false := beq_eq_false_iff_ne.2 (by omega)
        rw [decide_eq_false h3]
        clear h3
        go_enter Tryd.func26, Tryd.ntmps26
        go_wp2
        go_ret
        exact ⟨rfl, rfl⟩
    · have g2 : ((b : Int) != 0) = true := by simp; omega
      have g2' : ((b : Int) == 0) = false := beq_eq_false_iff_ne.2 (by omega)
      rw [decide_eq_true h2]
      clear h2
      go_enter Tryd.func26, Tryd.ntmps26
      go_wp2
      go_ret
      exact ⟨rfl, rfl⟩
  · have g1 : ((a : Int) == 0) = false := beq_eq_false_iff_ne.2 (by omega)
    rw [decide_eq_false h1]
    clear h1
    go_enter Tryd.func26, Tryd.ntmps26
    go_wp2
    go_ret
    exact ⟨rfl, rfl⟩
end Go.Proofs.YtoidlgopibnaaaaDoor
