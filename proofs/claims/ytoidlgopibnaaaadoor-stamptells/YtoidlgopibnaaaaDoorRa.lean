/- Walks: targumref4's IsDigit, targumref10's digits, sign, part. -/
import Derived.Test.YtoidlgopibnaaaaDoorLz
set_option linter.unusedVariables false
namespace Go.Proofs.YtoidlgopibnaaaaDoor
open Go.RowKit

set_option maxRecDepth 100000 in
theorem risdig_any (c : UInt8) (w : World) : Calls Tryd.prog 36 #[.int .u8 (c.toNat : Nat)] w fun e w' => e = .returned (.bool (M.dB c)) ∧ w = w' := by
  have hc : c.toNat < 256 := c.toNat_lt
  unfold M.dB
  generalize c.toNat = n at *
  by_cases h1 : 48 ≤ n
  · by_cases h2 : n ≤ 57
    · rw [decide_eq_true h1, decide_eq_true h2]
      have e1 : decide ((48 : Int) ≤ (n : Int)) = true := decide_eq_true (by omega)
      have e2 : decide ((n : Int) ≤ 57) = true := decide_eq_true (by omega)
      go_enter Tryd.func36, Tryd.ntmps36
      go_wp2
      go_ret
      exact ⟨rfl, rfl⟩
    · rw [decide_eq_true h1, decide_eq_false h2]
      have e1 : decide ((48 : Int) ≤ (n : Int)) = true := decide_eq_true (by omega)
      have e2 : decide ((n : Int) ≤ 57) = false := decide_eq_false (by omega)
      go_enter Tryd.func36, Tryd.ntmps36
      go_wp2
      go_ret
      exact ⟨rfl, rfl⟩
  · rw [decide_eq_false h1]
    have e1 : decide ((48 : Int) ≤ (n : Int)) = false := decide_eq_false (by omega)
    go_enter Tryd.func36, Tryd.ntmps36
    go_wp2
    go_ret
    exact ⟨rfl, rfl⟩

/-- What digits answers: the number and the place behind it, or that there is none. -/
def dgV (s : ByteArray) (i least most : Nat) : Value :=
  if M.cnt most (s.data.toList.drop i) < least then .tuple #[.int .i64 0, .int .i64 (-1)] else .tuple #[.int .i64 (M.nv most 0 (s.data.toList.drop i) : Nat), .int .i64 ((i + M.cnt most (s.data.toList.drop i) : Nat) : Int)]
set_option maxRecDepth 100000 in
set_option maxHeartbeats 1000000 in
theorem rdigits_any (s : ByteArray) (i least most : Nat) (w : World) (hs : s.size ≤ 100000) (hi : i ≤ s.size) (hm : most ≤ 4) (hl4 : least ≤ 4) :
    Calls Tryd.prog 22 #[.string s, .int .i64 i, .int .i64 least, .int .i64 most] w fun e w' => e = .returned (dgV s i least most) ∧ w = w' := by
  unfold dgV
  obtain ⟨V, hV⟩ : ∃ V, M.nv most 0 (s.data.toList.drop i) = V := ⟨_, rfl⟩
  obtain ⟨C, hC⟩ : ∃ C, M.cnt most (s.data.toList.drop i) = C := ⟨_, rfl⟩
  rw [hV, hC]
  obtain ⟨R, hR⟩ : ∃ R, (if C < least then Value.tuple #[.int .i64 0, .int .i64 (-1)] else .tuple #[.int .i64 (V : Nat), .int .i64 ((i + C : Nat) : Int)]) = R := ⟨_, rfl⟩
  rw [hR]
  have HR := Lib.hid hR
  have HV := Lib.hid hV
  have HC := Lib.hid hC
  clear hV hC hR
  go_enter Tryd.func22, Tryd.ntmps22
  go_wp2_with fail
  go_loop [10, 11] (fun a b => ∃ v n k : Nat, a = .int .i64 v ∧ b = .int .i64 k ∧ n ≤ most ∧ k ≤ s.size ∧ Hid (k = i + n) ∧ Hid (v < 10 ^ n) ∧ Hid (M.cnt (most - n) (s.data.toList.drop k) + n = C) ∧ Hid (M.nv (most - n) v (s.data.toList.drop k) = V)) (fun _ b => s.size - (intOf b).toNat)
  case atStart => exact ⟨0, 0, i, rfl, rfl, Nat.zero_le _, hi, rfl, by show 0 < 10 ^ 0; decide, HC.out, HV.out⟩
  case round =>
    obtain ⟨v, n, k, rfl, rfl, hn, hk, hkn, hv, hst, hsv⟩ := hrel
    clear HV HC
    have hki : i ≤ k := by have := hkn.out; omega
    have e0 : (k : Int) - (i : Int) = (n : Int) := by have := hkn.out; omega
    have fin : ∀ (hc : n = C) (hv2 : v = V), (n < least → R = .tuple #[.int .i64 0, .int .i64 (-1)]) ∧ (¬ n < least → R = .tuple #[.int .i64 (v : Nat), .int .i64 (k : Nat)]) := by
      intro hc hv2
      subst hc hv2
      refine ⟨fun h => by rw [← HR.out, if_pos h], fun h => by rw [← HR.out, if_neg h, hkn.out]⟩
    have HF := Lib.hid fin
    clear fin
    by_cases hl : k < s.size
    · have l1 : decide (k < s.size) = true := decide_eq_true hl
      by_cases hlt : n < most
      · have l2 : decide (n < most) = true := decide_eq_true hlt
        have l3 : decide ((n : Int) < (most : Int)) = true := decide_eq_true (by omega)
        obtain ⟨j, hj⟩ : ∃ j, most - n = j + 1 := ⟨most - n - 1, by omega⟩
        have c2 := fun W => risdig_any s[k] W
        have e1 := hst.out
        have e2 := hsv.out
        rw [hj, drop_cons s k hl, M.cnt] at e1
        rw [hj, drop_cons s k hl, M.nv] at e2
        have hc := s[k].toNat_lt
        by_cases hd : M.dB s[k] = true
        · rw [if_pos hd] at e1 e2
          rw [hd] at c2
          have hdd : 48 ≤ s[k].toNat ∧ s[k].toNat ≤ 57 := by simpa [M.dB] using hd
          have hv9 : v ≤ 999 := by
            have h1 := hv.out
            have h2 := Nat.pow_le_pow_right (n := 10) (by omega) (show n ≤ 3 by omega)
            omega
          have hk2 : most - (n + 1) = j := by omega
          have E1 : Hid (M.cnt (most - (n + 1)) (s.data.toList.drop (k + 1)) + (n + 1) = C) := by show _ = _; rw [hk2]; omega
          have E2 : Hid (M.nv (most - (n + 1)) (v * 10 + (s[k].toNat - 48)) (s.data.toList.drop (k + 1)) = V) := by show _ = _; rw [hk2]; exact e2
          have E3 : Hid (v * 10 + (s[k].toNat - 48) < 10 ^ (n + 1)) := by
            show _ < _
            have h1 := hv.out
            rw [Nat.pow_succ]; omega
          obtain ⟨hd1, hd2⟩ := hdd
          have E4 : Hid (((v * 10 + (s[k].toNat - 48) : Nat) : Int) = 10 * (v : Int) + ((s[k].toNat : Int) - 48)) := by show _ = _; omega
          have E5 : Hid (k + 1 = i + (n + 1)) := by show _ = _; have := hkn.out; omega
          clear e1 e2 hst hsv hv hkn hj hk2 hd HF HR
          go_wp2_with fail
          refine (c2 _).mono ?_
          rintro r w' ⟨rfl, rfl⟩
          go_wp2_with fail
          go_round
          case rel => exact ⟨v * 10 + (s[k].toNat - 48), n + 1, k + 1, by rw [E4.out], by go_num, by omega, by omega, E5, E3, E1, E2⟩
          case measure => simp [intOf]; omega
        · have hd' : M.dB s[k] = false := by simpa using hd
          rw [if_neg hd] at e1 e2
          rw [hd'] at c2
          have ff := HF.out (by omega) e2
          clear hst hsv hv hkn hj hd hd' e1 e2 HF HR
          by_cases hle : n < least
          · have g1 : decide (n < least) = true := decide_eq_true hle
            have g2 : decide ((n : Int) < (least : Int)) = true := decide_eq_true (by omega)
            obtain rfl := ff.1 hle
            clear ff
            go_wp2_with fail
            refine (c2 _).mono ?_
            rintro r w' ⟨rfl, rfl⟩
            go_wp2
            go_ret2
            exact ⟨rfl, rfl⟩
          · have g1 : decide (n < least) = false := decide_eq_false hle
            have g2 : decide ((n : Int) < (least : Int)) = false := decide_eq_false (by omega)
            obtain rfl := ff.2 hle
            clear ff
            go_wp2_with fail
            refine (c2 _).mono ?_
            rintro r w' ⟨rfl, rfl⟩
            go_wp2
            go_ret2
            exact ⟨rfl, rfl⟩
      · have hnm : n = most := by omega
        have l2 : decide (n < most) = false := decide_eq_false hlt
        have l3 : decide ((n : Int) < (most : Int)) = false := decide_eq_false (by omega)
        have e1 := hst.out
        have e2 := hsv.out
        rw [hnm, Nat.sub_self, M.cnt] at e1
        rw [hnm, Nat.sub_self, M.nv] at e2
        have ff := HF.out (by omega) e2
        clear hst hsv hv hkn e1 e2 HF HR hnm
        by_cases hle : n < least
        · have g1 : decide (n < least) = true := decide_eq_true hle
          have g2 : decide ((n : Int) < (least : Int)) = true := decide_eq_true (by omega)
          obtain rfl := ff.1 hle
          clear ff
          go_wp2
          go_ret2
          exact ⟨rfl, rfl⟩
        · have g1 : decide (n < least) = false := decide_eq_false hle
          have g2 : decide ((n : Int) < (least : Int)) = false := decide_eq_false (by omega)
          obtain rfl := ff.2 hle
          clear ff
          go_wp2
          go_ret2
          exact ⟨rfl, rfl⟩
    · have l1 : decide (k < s.size) = false := decide_eq_false hl
      have e1 := hst.out
      have e2 := hsv.out
      rw [drop_nil s k (by omega)] at e1 e2
      have z1 : ∀ x, M.cnt x [] = 0 := fun x => by cases x <;> rfl
      have z2 : ∀ x y, M.nv x y [] = y := fun x y => by cases x <;> rfl
      rw [z1] at e1
      rw [z2] at e2
      have ff := HF.out (by omega) e2
      clear hst hsv hv hkn e1 e2 HF HR z1 z2
      by_cases hle : n < least
      · have g1 : decide (n < least) = true := decide_eq_true hle
        have g2 : decide ((n : Int) < (least : Int)) = true := decide_eq_true (by omega)
        obtain rfl := ff.1 hle
        clear ff
        go_wp2
        go_ret2
        exact ⟨rfl, rfl⟩
      · have g1 : decide (n < least) = false := decide_eq_false hle
        have g2 : decide ((n : Int) < (least : Int)) = false := decide_eq_false (by omega)
        obtain rfl := ff.2 hle
        clear ff
        go_wp2
        go_ret2
        exact ⟨rfl, rfl⟩

set_option maxRecDepth 100000 in
theorem sign_out (s c : ByteArray) (i : Nat) (w : World) (hs : s.size ≤ 100000) (h : ¬ i < s.size) (hi : i ≤ 100000) :
    Calls Tryd.prog 24 #[.string s, .int .i64 i, .string c] w fun e w' => e = .returned (.int .i64 (-1)) ∧ Below w.heap.size w w' := by
  have d1 : decide (s.size ≤ i) = true := decide_eq_true (by omega)
  go_enter Tryd.func24, Tryd.ntmps24
  go_wp2
  go_ret
  exact ⟨rfl, Below.refl _ _⟩
set_option maxRecDepth 100000 in
set_option maxHeartbeats 1000000 in
theorem sign_in (s c : ByteArray) (i : Nat) (w : World) (hs : s.size ≤ 100000) (h : i < s.size) (hc : c.size ≤ 2) :
    Calls Tryd.prog 24 #[.string s, .int .i64 i, .string c] w fun e w' => e = .returned (.int .i64 (if s[i] ∈ c.data.toList then ((i + 1 : Nat) : Int) else -1)) ∧ Below w.heap.size w w' := by
  obtain ⟨R, hR⟩ : ∃ R : Int, (if s[i] ∈ c.data.toList then ((i + 1 : Nat) : Int) else -1) = R := ⟨_, rfl⟩
  rw [hR]
  have HR := Lib.hid hR
  clear hR
  have d1 : decide (s.size ≤ i) = false := decide_eq_false (by omega)
  have hb := s[i].toNat_lt
  go_enter Tryd.func24, Tryd.ntmps24
  go_wp2_with fail
  go_loopw [7] (fun kv wr => ∃ k : Nat, kv = .int .i64 k ∧ k ≤ c.size ∧ Hid (∀ x ∈ c.data.toList.take k, s[i] ≠ x) ∧ Below w.heap.size w wr) (fun kv _ => c.size - (intOf kv).toNat)
  case atStart => exact ⟨0, rfl, Nat.zero_le _, by intro x hx; simp at hx, Below.refl _ _⟩
  case round =>
    obtain ⟨k, rfl, hk, hn, hbw⟩ := hrel
    by_cases hlt : k < c.size
    · have l1 : decide (k < c.size) = true := decide_eq_true hlt
      have hcb := c[k].toNat_lt
      by_cases he : s[i] = c[k]
      · have e1 : ((s[i].toNat : Int) == (c[k].toNat : Int)) = true := by rw [he]; simp
        have hR2 : R = ((i + 1 : Nat) : Int) := by rw [← HR.out, if_pos (by rw [he]; exact List.mem_of_getElem? (get_list c k hlt))]
        clear hn he
        subst hR2
        go_wp2_with fail
        go_quiet (fail)
        go_wp2
        go_ret
        exact ⟨ret_int (by omega), below_dN hbw _⟩
      · have e1 : ((s[i].toNat : Int) == (c[k].toNat : Int)) = false := by
          refine beq_eq_false_iff_ne.2 fun e => he (UInt8.toNat_inj.1 (by omega))
        have hnn : Hid (∀ x ∈ c.data.toList.take (k + 1), s[i] ≠ x) := by
          intro x hx
          rw [take_snoc c k hlt] at hx
          rcases List.mem_append.1 hx with q | q
          · exact hn.out x q
          · rw [List.mem_singleton.1 q]; exact he
        clear hn he
        go_wp2_with fail
        go_quiet (fail)
        go_wp2_with fail
        go_roundw
        case rel => exact ⟨k + 1, by go_num, by omega, hnn, below_dN hbw _⟩
        case measure => simp [intOf]; omega
    · obtain rfl : k = c.size := by omega
      have l1 : decide (c.size < c.size) = false := decide_eq_false (by omega)
      have hR2 : R = -1 := by rw [← HR.out, if_neg (by intro q; exact hn.out _ (by rw [take_all]; exact q) rfl)]
      clear hn
      subst hR2
      go_wp2
      go_ret
      exact ⟨rfl, hbw⟩
end Go.Proofs.YtoidlgopibnaaaaDoor
