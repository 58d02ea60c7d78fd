/- Walks: targumref4's Text, targumlaw10's two, known. Walks: targumref4's IsDigit, targumref10's digits, sign, part. Walks: targumref10's part, two, day. Walks: targumref10's zone. Walks: targumref10's moved. -/
import Derived.Test.YtipgipgehnhgkaaGreatDoorTi
set_option linter.unusedVariables false
namespace Go.Proofs.YtipgipgehnhgkaaGreatDoor.S10
open Go.RowKit

theorem one_conv (w : World) (z : Int) (c : UInt8) (h : (c.toNat : Int) = z) :
    (convert 22 9 (.slice (some ⟨w.heap.size, 0, none⟩) 1 1)).run Tryz.prog (w.alloc (.cells #[.int .u8 z] 5)) = .ok (.string (bA [c])) (w.alloc (.cells #[.int .u8 z] 5)) := by
  refine run_convert_bytes_back _ 22 9 5 ⟨w.heap.size, 0, none⟩ 1 [c] Tryz.underlying22 Tryz.underlying5 Tryz.underlying9 ?_
  intro j hj
  obtain rfl : j = 0 := by simp at hj; omega
  subst h
  simp [Addr.add]
def dg1 (c : Nat) : UInt8 := UInt8.ofNat (48 + c % 10)
theorem dig_cast (p : Nat) : ((dg1 p).toNat : Int) = 48 + (p : Int) % 10 := by
  have : (UInt8.ofNat (48 + p % 10)).toNat = 48 + p % 10 := by simp; omega
  unfold dg1; rw [this]; omega
theorem cast_div10 (k : Nat) : ((k / 10 : Nat) : Int) = (k : Int) / 10 := by rw [Int.natCast_ediv]; rfl
theorem dec_small {n : Nat} (h : n < 10) : Lib.decDigits n = [dg1 n] := by rw [Lib.decDigits, dif_pos h]; unfold dg1; rw [Nat.mod_eq_of_lt h]
theorem dec_big {n : Nat} (h : ¬ n < 10) : Lib.decDigits n = Lib.decDigits (n / 10) ++ [dg1 n] := by rw [Lib.decDigits, dif_neg h]; rfl
theorem dec_pos (n : Nat) : 0 < (Lib.decDigits n).length := by
  by_cases h : n < 10
  · rw [dec_small h]; simp
  · rw [dec_big h]; simp
set_option maxRecDepth 100000 in
set_option maxHeartbeats 1000000 in
theorem rtext_any (N : Nat) (w : World) (hN : N ≤ 1000) :
    Calls Tryz.prog 12 #[.int .i64 N] w fun e w' => e = .returned (.string (bA (Lib.decDigits N))) ∧ Below w.heap.size w w' := by
  have hlen : (Lib.decDigits N).length ≤ 13 := by
    by_cases h : N < 10000
    · have := (dec4 h).2; omega
    · omega
  obtain ⟨L, hL⟩ : ∃ L, Lib.decDigits N = L := ⟨_, rfl⟩
  rw [hL] at hlen ⊢
  have HL := Lib.hid hL
  clear hL
  go_enter Tryz.func12, Tryz.ntmps12
  go_wp2
  go_loopw [0, 3] (fun nv sv wr => ∃ (n : Nat) (h : List UInt8) (H : ByteArray), nv = .int .i64 n ∧ sv = .string H ∧ n ≤ 1000 ∧ H.size ≤ 13 ∧ Hid (H = bA h) ∧ Hid (Lib.decDigits n ++ h = L) ∧ Below w.heap.size w wr) (fun nv _ _ => (intOf nv).toNat)
  case atStart => exact ⟨N, [], ⟨#[]⟩, rfl, rfl, hN, by decide, rfl, by show _ = _; rw [List.append_nil]; exact HL.out, Below.refl _ _⟩
  case round =>
    obtain ⟨n, h, H, rfl, rfl, hn, hH, HH, hst, hbw⟩ := hrel
    have hsz := hbw.size
    have k3 := fun W => one_conv W (48 + (n : Int) % 10) (dg1 n) (dig_cast n)
    have hXs : (bA [dg1 n]).size = 1 := bA_size _
    have hXH : bA [dg1 n] ++ H = bA (dg1 n :: h) := by rw [HH.out]; exact bA_append [dg1 n] h
    have HXH := Lib.hid hXH
    have hXz := Lib.hid (append_sz (bA [dg1 n]) H)
    have hHs : H.size = h.length := by rw [HH.out, bA_size]
    have hhl : h.length + 1 ≤ 13 := by
      have := congrArg List.length hst.out
      rw [List.length_append] at this
      have := dec_pos n
      omega
    clear hXH
    generalize bA [dg1 n] = X at *
    by_cases hn10 : n < 10
    · have e0 : (n : Int) / 10 = 0 := by omega
      have hfin : dg1 n :: h = L := by rw [← hst.out, dec_small hn10]; rfl
      rw [hfin] at HXH
      clear hst hfin
      go_wp2
      go_ret
      exact ⟨ret_str HXH.out, hbw.alloc hsz _⟩
    · have e0 : ¬ (n : Int) / 10 = 0 := by omega
      have hdd : ((n : Int) / 10 == 0) = false := by simp; omega
      have hfin : Lib.decDigits (n / 10) ++ dg1 n :: h = L := by rw [← hst.out, dec_big hn10, List.append_assoc]; rfl
      have HF := Lib.hid hfin
      clear hst hfin e0
      go_wp2
      go_roundw
      case rel => exact ⟨n / 10, dg1 n :: h, X ++ H, by rw [cast_div10], rfl, by omega, by rw [hXz.out]; omega, HXH.out, HF.out, hbw.alloc hsz _⟩
      case measure => simp [intOf]; omega
theorem rdig_any (n : Nat) (w : World) (hn : n < 10) : Calls Tryz.prog 12 #[.int .i64 n] w fun e w' => e = .returned (.string (bA [M.dch n])) ∧ Below w.heap.size w w' := by
  have h := rtext_any n w (by omega)
  rw [dec_small hn] at h
  unfold dg1 at h
  rwa [Nat.mod_eq_of_lt hn] at h
/-- The two lowest digits. -/
def e2 (n : Nat) : List UInt8 := [M.dch (n / 10 % 10), M.dch (n % 10)]
theorem e2_small {n : Nat} (h : n < 100) : e2 n = M.d2 n := by unfold e2 M.d2; rw [Nat.mod_eq_of_lt (show n / 10 < 10 by omega)]
theorem e2_year (y : Nat) (h : y < 10000) : e2 (y / 100) ++ e2 y = M.d4 y := by
  rw [e2_small (by omega)]
  unfold M.d4
  congr 1
  unfold e2 M.d2
  rw [show y / 10 % 10 = y % 100 / 10 by omega, show y % 100 % 10 = y % 10 by omega]
theorem kn (l : List UInt8) (R : Value) (h : ofV (M.ofS l) = R) (w : World) (ht : Tab w) (hl : l.length ≤ 1000) : Calls Tryz.prog 25 #[.string (bA l)] w fun e w' => e = .returned R ∧ Below w.heap.size w w' := by
  have := of_any (bA l) w ht (by rw [bA_size]; exact hl)
  rw [bA_toList, h] at this
  exact this
theorem k1 : ofV (M.ofS [50, 48, 48, 49, 45, 49, 45, 49]) = .tuple #[.string ⟨#[]⟩, .bool false] := by
  rw [show M.ofS [50, 48, 48, 49, 45, 49, 45, 49] = none by decide +kernel]; rfl
theorem k2 : ofV (M.ofS [50, 48, 48, 49, 45, 48, 49, 45, 48, 49]) = .tuple #[.string ⟨#[50, 48, 48, 49, 45, 48, 49, 45, 48, 49]⟩, .bool true] := by
  rw [show M.ofS [50, 48, 48, 49, 45, 48, 49, 45, 48, 49] = some [50, 48, 48, 49, 45, 48, 49, 45, 48, 49] by decide +kernel]; rfl
end Go.Proofs.YtipgipgehnhgkaaGreatDoor.S10

namespace Go.Proofs.YtipgipgehnhgkaaGreatDoor.S10
open Go.RowKit

set_option maxRecDepth 100000 in
theorem risdig_any (c : UInt8) (w : World) : Calls Tryz.prog 70 #[.int .u8 (c.toNat : Nat)] w fun e w' => e = .returned (.bool (M.dB c)) ∧ w = w' := by
  have hc : c.toNat < 256 := c.toNat_lt
  unfold M.dB
  generalize c.toNat = n at *
  by_cases h1 : 48 ≤ n
  · by_cases h2 : n ≤ 57
    · rw [decide_eq_true h1, decide_eq_true h2]
      have e1 : decide ((48 : Int) ≤ (n : Int)) = true := decide_eq_true (by omega)
      have e2 : decide ((n : Int) ≤ 57) = true := decide_eq_true (by omega)
      go_enter Tryz.func70, Tryz.ntmps70
      go_wp2
      go_ret
      exact ⟨rfl, rfl⟩
    · rw [decide_eq_true h1, decide_eq_false h2]
      have e1 : decide ((48 : Int) ≤ (n : Int)) = true := decide_eq_true (by omega)
      have e2 : decide ((n : Int) ≤ 57) = false := decide_eq_false (by omega)
      go_enter Tryz.func70, Tryz.ntmps70
      go_wp2
      go_ret
      exact ⟨rfl, rfl⟩
  · rw [decide_eq_false h1]
    have e1 : decide ((48 : Int) ≤ (n : Int)) = false := decide_eq_false (by omega)
    go_enter Tryz.func70, Tryz.ntmps70
    go_wp2
    go_ret
    exact ⟨rfl, rfl⟩

/-- What digits answers: the number and the place behind it, or that there is none. -/
def dgV (s : ByteArray) (i least most : Nat) : Value :=
  if M.cnt most (s.data.toList.drop i) < least then .tuple #[.int .i64 0, .int .i64 (-1)] else .tuple #[.int .i64 (M.nv most 0 (s.data.toList.drop i) : Nat), .int .i64 ((i + M.cnt most (s.data.toList.drop i) : Nat) : Int)]
set_option maxRecDepth 100000 in
set_option maxHeartbeats 1000000 in
theorem rdigits_any (s : ByteArray) (i least most : Nat) (w : World) (hs : s.size ≤ 100000) (hi : i ≤ s.size) (hm : most ≤ 4) (hl4 : least ≤ 4) :
    Calls Tryz.prog 75 #[.string s, .int .i64 i, .int .i64 least, .int .i64 most] w fun e w' => e = .returned (dgV s i least most) ∧ w = w' := by
  unfold dgV
  obtain ⟨V, hV⟩ : ∃ V, M.nv most 0 (s.data.toList.drop i) = V := ⟨_, rfl⟩
  obtain ⟨C, hC⟩ : ∃ C, M.cnt most (s.data.toList.drop i) = C := ⟨_, rfl⟩
  rw [hV, hC]
  obtain ⟨R, hR⟩ : ∃ R, (if C < least then Value.tuple #[.int .i64 0, .int .i64 (-1)] else .tuple #[.int .i64 (V : Nat), .int .i64 ((i + C : Nat) : Int)]) = R := ⟨_, rfl⟩
  rw [hR]
  have HR := Lib.hid hR
  have HV := Lib.hid hV
  have HC := Lib.hid hC
  clear hV hC hR
  go_enter Tryz.func75, Tryz.ntmps75
  go_wp2_with fail
  go_loop [10, 11] (fun a b => ∃ v n k : Nat, a = .int .i64 v ∧ b = .int .i64 k ∧ n ≤ most ∧ k ≤ s.size ∧ Hid (k = i + n) ∧ Hid (v < 10 ^ n) ∧ Hid (M.cnt (most - n) (s.data.toList.drop k) + n = C) ∧ Hid (M.nv (most - n) v (s.data.toList.drop k) = V)) (fun _ b => s.size - (intOf b).toNat)
  case atStart => exact ⟨0, 0, i, rfl, rfl, Nat.zero_le _, hi, rfl, by show 0 < 10 ^ 0; decide, HC.out, HV.out⟩
  case round =>
    obtain ⟨v, n, k, rfl, rfl, hn, hk, hkn, hv, hst, hsv⟩ := hrel
    clear HV HC
    have hki : i ≤ k := by have := hkn.out; omega
    have e0 : (k : Int) - (i : Int) = (n : Int) := by have := hkn.out; omega
    have fin : ∀ (hc : n = C) (hv2 : v = V), (n < least → R = .tuple #[.int .i64 0, .int .i64 (-1)]) ∧ (¬ n < least → R = .tuple #[.int .i64 (v : Nat), .int .i64 (k : Nat)]) := by
      intro hc hv2
      subst hc hv2
      refine ⟨fun h => by rw [← HR.out, if_pos h], fun h => by rw [← HR.out, if_neg h, hkn.out]⟩
    have HF := Lib.hid fin
    clear fin
    by_cases hl : k < s.size
    · have l1 : decide (k < s.size) = true := decide_eq_true hl
      by_cases hlt : n < most
      · have l2 : decide (n < most) = true := decide_eq_true hlt
        have l3 : decide ((n : Int) < (most : Int)) = true := decide_eq_true (by omega)
        obtain ⟨j, hj⟩ : ∃ j, most - n = j + 1 := ⟨most - n - 1, by omega⟩
        have c2 := fun W => risdig_any s[k] W
        have e1 := hst.out
        have e2 := hsv.out
        rw [hj, drop_cons s k hl, M.cnt] at e1
        rw [hj, drop_cons s k hl, M.nv] at e2
        have hc := s[k].toNat_lt
        by_cases hd : M.dB s[k] = true
        · rw [if_pos hd] at e1 e2
          rw [hd] at c2
          have hdd : 48 ≤ s[k].toNat ∧ s[k].toNat ≤ 57 := by simpa [M.dB] using hd
          have hv9 : v ≤ 999 := by
            have h1 := hv.out
            have h2 := Nat.pow_le_pow_right (n := 10) (by omega) (show n ≤ 3 by omega)
            omega
          have hk2 : most - (n + 1) = j := by omega
          have E1 : Hid (M.cnt (most - (n + 1)) (s.data.toList.drop (k + 1)) + (n + 1) = C) := by show _ = _; rw [hk2]; omega
          have E2 : Hid (M.nv (most - (n + 1)) (v * 10 + (s[k].toNat - 48)) (s.data.toList.drop (k + 1)) = V) := by show _ = _; rw [hk2]; exact e2
          have E3 : Hid (v * 10 + (s[k].toNat - 48) < 10 ^ (n + 1)) := by
            show _ < _
            have h1 := hv.out
            rw [Nat.pow_succ]; omega
          obtain ⟨hd1, hd2⟩ := hdd
          have E4 : Hid (((v * 10 + (s[k].toNat - 48) : Nat) : Int) = 10 * (v : Int) + ((s[k].toNat : Int) - 48)) := by show _ = _; omega
          have E5 : Hid (k + 1 = i + (n + 1)) := by show _ = _; have := hkn.out; omega
          clear e1 e2 hst hsv hv hkn hj hk2 hd HF HR
          go_wp2_with fail
          refine (c2 _).mono ?_
          rintro r w' ⟨rfl, rfl⟩
          go_wp2_with fail
          go_round
          case rel => exact ⟨v * 10 + (s[k].toNat - 48), n + 1, k + 1, by rw [E4.out], by go_num, by omega, by omega, E5, E3, E1, E2⟩
          case measure => simp [intOf]; omega
        · have hd' : M.dB s[k] = false := by simpa using hd
          rw [if_neg hd] at e1 e2
          rw [hd'] at c2
          have ff := HF.out (by omega) e2
          clear hst hsv hv hkn hj hd hd' e1 e2 HF HR
          by_cases hle : n < least
          · have g1 : decide (n < least) = true := decide_eq_true hle
            have g2 : decide ((n : Int) < (least : Int)) = true := decide_eq_true (by omega)
            obtain rfl := ff.1 hle
            clear ff
            go_wp2_with fail
            refine (c2 _).mono ?_
            rintro r w' ⟨rfl, rfl⟩
            go_wp2
            go_ret2
            exact ⟨rfl, rfl⟩
          · have g1 : decide (n < least) = false := decide_eq_false hle
            have g2 : decide ((n : Int) < (least : Int)) = false := decide_eq_false (by omega)
            obtain rfl := ff.2 hle
            clear ff
            go_wp2_with fail
            refine (c2 _).mono ?_
            rintro r w' ⟨rfl, rfl⟩
            go_wp2
            go_ret2
            exact ⟨rfl, rfl⟩
      · have hnm : n = most := by omega
        have l2 : decide (n < most) = false := decide_eq_false hlt
        have l3 : decide ((n : Int) < (most : Int)) = false := decide_eq_false (by omega)
        have e1 := hst.out
        have e2 := hsv.out
        rw [hnm, Nat.sub_self, M.cnt] at e1
        rw [hnm, Nat.sub_self, M.nv] at e2
        have ff := HF.out (by omega) e2
        clear hst hsv hv hkn e1 e2 HF HR hnm
        by_cases hle : n < least
        · have g1 : decide (n < least) = true := decide_eq_true hle
          have g2 : decide ((n : Int) < (least : Int)) = true := decide_eq_true (by omega)
          obtain rfl := ff.1 hle
          clear ff
          go_wp2
          go_ret2
          exact ⟨rfl, rfl⟩
        · have g1 : decide (n < least) = false := decide_eq_false hle
          have g2 : decide ((n : Int) < (least : Int)) = false := decide_eq_false (by omega)
          obtain rfl := ff.2 hle
          clear ff
          go_wp2
          go_ret2
          exact ⟨rfl, rfl⟩
    · have l1 : decide (k < s.size) = false := decide_eq_false hl
      have e1 := hst.out
      have e2 := hsv.out
      rw [drop_nil s k (by omega)] at e1 e2
      have z1 : ∀ x, M.cnt x [] = 0 := fun x => by cases x <;> rfl
      have z2 : ∀ x y, M.nv x y [] = y := fun x y => by cases x <;> rfl
      rw [z1] at e1
      rw [z2] at e2
      have ff := HF.out (by omega) e2
      clear hst hsv hv hkn e1 e2 HF HR z1 z2
      by_cases hle : n < least
      · have g1 : decide (n < least) = true := decide_eq_true hle
        have g2 : decide ((n : Int) < (least : Int)) = true := decide_eq_true (by omega)
        obtain rfl := ff.1 hle
        clear ff
        go_wp2
        go_ret2
        exact ⟨rfl, rfl⟩
      · have g1 : decide (n < least) = false := decide_eq_false hle
        have g2 : decide ((n : Int) < (least : Int)) = false := decide_eq_false (by omega)
        obtain rfl := ff.2 hle
        clear ff
        go_wp2
        go_ret2
        exact ⟨rfl, rfl⟩

set_option maxRecDepth 100000 in
theorem sign_out (s c : ByteArray) (i : Nat) (w : World) (hs : s.size ≤ 100000) (h : ¬ i < s.size) (hi : i ≤ 100000) :
    Calls Tryz.prog 78 #[.string s, .int .i64 i, .string c] w fun e w' => e = .returned (.int .i64 (-1)) ∧ Below w.heap.size w w' := by
  have d1 : decide (s.size ≤ i) = true := decide_eq_true (by omega)
  go_enter Tryz.func78, Tryz.ntmps78
  go_wp2
  go_ret
  exact ⟨rfl, Below.refl _ _⟩
set_option maxRecDepth 100000 in
set_option maxHeartbeats 1000000 in
theorem sign_in (s c : ByteArray) (i : Nat) (w : World) (hs : s.size ≤ 100000) (h : i < s.size) (hc : c.size ≤ 2) :
    Calls Tryz.prog 78 #[.string s, .int .i64 i, .string c] w fun e w' => e = .returned (.int .i64 (if s[i] ∈ c.data.toList then ((i + 1 : Nat) : Int) else -1)) ∧ Below w.heap.size w w' := by
  obtain ⟨R, hR⟩ : ∃ R : Int, (if s[i] ∈ c.data.toList then ((i + 1 : Nat) : Int) else -1) = R := ⟨_, rfl⟩
  rw [hR]
  have HR := Lib.hid hR
  clear hR
  have d1 : decide (s.size ≤ i) = false := decide_eq_false (by omega)
  have hb := s[i].toNat_lt
  go_enter Tryz.func78, Tryz.ntmps78
  go_wp2_with fail
  go_loopw [7] (fun kv wr => ∃ k : Nat, kv = .int .i64 k ∧ k ≤ c.size ∧ Hid (∀ x ∈ c.data.toList.take k, s[i] ≠ x) ∧ Below w.heap.size w wr) (fun kv _ => c.size - (intOf kv).toNat)
  case atStart => exact ⟨0, rfl, Nat.zero_le _, by intro x hx; simp at hx, Below.refl _ _⟩
  case round =>
    obtain ⟨k, rfl, hk, hn, hbw⟩ := hrel
    by_cases hlt : k < c.size
    · have l1 : decide (k < c.size) = true := decide_eq_true hlt
      have hcb := c[k].toNat_lt
      by_cases he : s[i] = c[k]
      · have e1 : ((s[i].toNat : Int) == (c[k].toNat : Int)) = true := by rw [he]; simp
        have hR2 : R = ((i + 1 : Nat) : Int) := by rw [← HR.out, if_pos (by rw [he]; exact List.mem_of_getElem? (get_list c k hlt))]
        clear hn he
        subst hR2
        go_wp2_with fail
        go_quiet (fail)
        go_wp2
        go_ret
        exact ⟨ret_int (by omega), below_dN hbw _⟩
      · have e1 : ((s[i].toNat : Int) == (c[k].toNat : Int)) = false := by
          refine beq_eq_false_iff_ne.2 fun e => he (UInt8.toNat_inj.1 (by omega))
        have hnn : Hid (∀ x ∈ c.data.toList.take (k + 1), s[i] ≠ x) := by
          intro x hx
          rw [take_snoc c k hlt] at hx
          rcases List.mem_append.1 hx with q | q
          · exact hn.out x q
          · rw [List.mem_singleton.1 q]; exact he
        clear hn he
        go_wp2_with fail
        go_quiet (fail)
        go_wp2_with fail
        go_roundw
        case rel => exact ⟨k + 1, by go_num, by omega, hnn, below_dN hbw _⟩
        case measure => simp [intOf]; omega
    · obtain rfl : k = c.size := by omega
      have l1 : decide (c.size < c.size) = false := decide_eq_false (by omega)
      have hR2 : R = -1 := by rw [← HR.out, if_neg (by intro q; exact hn.out _ (by rw [take_all]; exact q) rfl)]
      clear hn
      subst hR2
      go_wp2
      go_ret
      exact ⟨rfl, hbw⟩
end Go.Proofs.YtipgipgehnhgkaaGreatDoor.S10

namespace Go.Proofs.YtipgipgehnhgkaaGreatDoor.S10
open Go.RowKit

theorem dgV_form (s : ByteArray) (i l m : Nat) : ∃ V C : Int, dgV s i l m = .tuple #[.int .i64 V, .int .i64 C] := by
  unfold dgV; split <;> exact ⟨_, _, rfl⟩
def noV : Value := .tuple #[.int .i64 0, .int .i64 (-1)]
set_option maxRecDepth 100000 in
set_option maxHeartbeats 1000000 in
theorem part_no (s c : ByteArray) (i least most : Nat) (w : World) (hs : s.size ≤ 100000) (hc : c.size ≤ 2) (hi : i ≤ s.size) (h : ∀ hlt : i < s.size, s[i] ∉ c.data.toList) :
    Calls Tryz.prog 76 #[.string s, .int .i64 i, .string c, .int .i64 least, .int .i64 most] w fun e w' => e = .returned noV ∧ Below w.heap.size w w' := by
  have c1 : ∀ W, Calls Tryz.prog 78 #[.string s, .int .i64 i, .string c] W fun e w' => e = .returned (.int .i64 (-1)) ∧ Below W.heap.size W w' := by
    intro W
    by_cases hlt : i < s.size
    · have := sign_in s c i W hs hlt hc
      rw [if_neg (h hlt)] at this
      exact this
    · exact sign_out s c i W hs hlt (by omega)
  clear h
  go_enter Tryz.func76, Tryz.ntmps76
  go_wp2_with fail
  refine (c1 _).mono ?_
  rintro r w1 ⟨rfl, hb⟩
  go_wp2_with fail
  go_ret2
  exact ⟨rfl, hb⟩
set_option maxRecDepth 100000 in
set_option maxHeartbeats 1000000 in
theorem part_yes (s c : ByteArray) (i least most : Nat) (w : World) (hs : s.size ≤ 100000) (hc : c.size ≤ 2) (hlt : i < s.size) (h : s[i] ∈ c.data.toList) (hm : most ≤ 4) (hl4 : least ≤ 4) :
    Calls Tryz.prog 76 #[.string s, .int .i64 i, .string c, .int .i64 least, .int .i64 most] w fun e w' => e = .returned (dgV s (i + 1) least most) ∧ Below w.heap.size w w' := by
  have c1 : ∀ W, Calls Tryz.prog 78 #[.string s, .int .i64 i, .string c] W fun e w' => e = .returned (.int .i64 ((i + 1 : Nat) : Int)) ∧ Below W.heap.size W w' := by
    intro W
    have := sign_in s c i W hs hlt hc
    rw [if_pos h] at this
    exact this
  have c2 := fun W => rdigits_any s (i + 1) least most W hs (by omega) hm hl4
  obtain ⟨V, C, hVC⟩ := dgV_form s (i + 1) least most
  rw [hVC] at c2 ⊢
  have hk : i + 1 ≤ 100000 := by omega
  clear h hVC hlt
  generalize i + 1 = k at *
  go_enter Tryz.func76, Tryz.ntmps76
  go_wp2_with fail
  refine (c1 _).mono ?_
  rintro r w1 ⟨rfl, hb⟩
  have d0 : decide ((k : Int) < 0) = false := decide_eq_false (by omega)
  go_wp2_with fail
  refine (c2 _).mono ?_
  rintro r w2 ⟨rfl, rfl⟩
  go_wp2_with fail
  go_ret2
  exact ⟨rfl, hb⟩

set_option maxRecDepth 100000 in
set_option maxHeartbeats 1000000 in
theorem rtwo_any (n : Nat) (w : World) (hn : n < 100) : Calls Tryz.prog 122 #[.int .i64 n] w fun e w' => e = .returned (.string (bA (M.d2 n))) ∧ Below w.heap.size w w' := by
  obtain ⟨a, ha⟩ : ∃ a, n / 10 = a := ⟨_, rfl⟩
  obtain ⟨b, hb⟩ : ∃ b, n % 10 = b := ⟨_, rfl⟩
  have c1 := fun W => rdig_any a W (by omega)
  have c2 := fun W => rdig_any b W (by omega)
  have f1 : (n : Int) / 10 = (a : Int) := by omega
  have f2 : (n : Int) % 10 = (b : Int) := by omega
  have hr : bA [M.dch a] ++ bA [M.dch b] = bA (M.d2 n) := by unfold M.d2; rw [ha, hb]; exact bA_append _ _
  have HR := Lib.hid hr
  have z1 : (bA [M.dch a]).size = 1 := bA_size _
  have z2 : (bA [M.dch b]).size = 1 := bA_size _
  clear ha hb hr
  generalize bA [M.dch a] = A at *
  generalize bA [M.dch b] = B at *
  have a1 : ∀ W, (Op.stringOp .add A B).run Tryz.prog W = .ok (.string (A ++ B)) W := fun W => run_string_add_sum _ _ _ (by omega)
  go_enter Tryz.func122, Tryz.ntmps122
  go_wp2_with fail
  refine (c1 _).mono ?_
  rintro r w1 ⟨rfl, hb1⟩
  go_wp2_with fail
  refine (c2 _).mono ?_
  rintro r w2 ⟨rfl, hb2⟩
  have HB := Lib.hid (hb1.trans (hb2.mono hb1.size))
  clear hb1 hb2 c1 c2 z1 z2
  go_wp2
  go_ret
  exact ⟨ret_str HR.out, HB.out⟩

/-- A date's text. -/
def dl (y m d : Nat) : List UInt8 := M.d4 y ++ (45 :: (M.d2 m ++ (45 :: M.d2 d)))
theorem dl_len (y m d : Nat) : (dl y m d).length = 10 := rfl
set_option maxRecDepth 100000 in
set_option maxHeartbeats 1000000 in
theorem rday_any (y m d : Nat) (w : World) (hy : y < 10000) (hm : m < 100) (hd : d < 100) : Calls Tryz.prog 164 #[.int .i64 y, .int .i64 m, .int .i64 d] w fun e w' => e = .returned (.string (bA (dl y m d))) ∧ Below w.heap.size w w' := by
  obtain ⟨a, ha⟩ : ∃ a, y / 100 = a := ⟨_, rfl⟩
  obtain ⟨b, hb⟩ : ∃ b, y % 100 = b := ⟨_, rfl⟩
  have c1 := fun W => rtwo_any a W (by omega)
  have c2 := fun W => rtwo_any b W (by omega)
  have c3 := fun W => rtwo_any m W hm
  have c4 := fun W => rtwo_any d W hd
  have f1 : (y : Int) / 100 = (a : Int) := by omega
  have f2 : (y : Int) % 100 = (b : Int) := by omega
  have hr : bA (M.d2 a) ++ bA (M.d2 b) ++ ⟨#[45]⟩ ++ bA (M.d2 m) ++ ⟨#[45]⟩ ++ bA (M.d2 d) = bA (dl y m d) := by
    unfold dl M.d4; rw [ha, hb]
    apply bA_inj.2 rfl
  have HR := Lib.hid hr
  have z1 : (bA (M.d2 a)).size = 2 := bA_size _
  have z2 : (bA (M.d2 b)).size = 2 := bA_size _
  have z3 : (bA (M.d2 m)).size = 2 := bA_size _
  have z4 : (bA (M.d2 d)).size = 2 := bA_size _
  have z5 : (⟨#[45]⟩ : ByteArray).size = 1 := rfl
  clear ha hb hr
  generalize bA (M.d2 a) = A at *
  generalize bA (M.d2 b) = B at *
  generalize bA (M.d2 m) = C at *
  generalize bA (M.d2 d) = D at *
  have y1 := append_sz A B
  have y2 := append_sz (A ++ B) ⟨#[45]⟩
  have y3 := append_sz (A ++ B ++ ⟨#[45]⟩) C
  have y4 := append_sz (A ++ B ++ ⟨#[45]⟩ ++ C) ⟨#[45]⟩
  have a1 : ∀ W, (Op.stringOp .add A B).run Tryz.prog W = .ok (.string (A ++ B)) W := fun W => run_string_add_sum _ _ _ (by omega)
  have a2 : ∀ W, (Op.stringOp .add (A ++ B) ⟨#[45]⟩).run Tryz.prog W = .ok (.string (A ++ B ++ ⟨#[45]⟩)) W := fun W => run_string_add_sum _ _ _ (by omega)
  have a3 : ∀ W, (Op.stringOp .add (A ++ B ++ ⟨#[45]⟩) C).run Tryz.prog W = .ok (.string (A ++ B ++ ⟨#[45]⟩ ++ C)) W := fun W => run_string_add_sum _ _ _ (by omega)
  have a4 : ∀ W, (Op.stringOp .add (A ++ B ++ ⟨#[45]⟩ ++ C) ⟨#[45]⟩).run Tryz.prog W = .ok (.string (A ++ B ++ ⟨#[45]⟩ ++ C ++ ⟨#[45]⟩)) W := fun W => run_string_add_sum _ _ _ (by omega)
  have a5 : ∀ W, (Op.stringOp .add (A ++ B ++ ⟨#[45]⟩ ++ C ++ ⟨#[45]⟩) D).run Tryz.prog W = .ok (.string (A ++ B ++ ⟨#[45]⟩ ++ C ++ ⟨#[45]⟩ ++ D)) W := fun W => run_string_add_sum _ _ _ (by omega)
  clear y1 y2 y3 y4 z1 z2 z3 z4 z5
  go_enter Tryz.func164, Tryz.ntmps164
  go_wp2_with fail
  refine (c1 _).mono ?_
  rintro r w1 ⟨rfl, hb1⟩
  go_wp2_with fail
  refine (c2 _).mono ?_
  rintro r w2 ⟨rfl, hb2⟩
  have B2 := hb1.trans (hb2.mono hb1.size)
  clear hb1 hb2 c1 c2
  go_wp2_with fail
  refine (c3 _).mono ?_
  rintro r w3 ⟨rfl, hb3⟩
  have B3 := B2.trans (hb3.mono B2.size)
  clear B2 hb3 c3
  go_wp2_with fail
  refine (c4 _).mono ?_
  rintro r w4 ⟨rfl, hb4⟩
  have HB := Lib.hid (B3.trans (hb4.mono B3.size))
  clear B3 hb4 c4
  go_wp2
  go_ret
  exact ⟨ret_str HR.out, HB.out⟩
end Go.Proofs.YtipgipgehnhgkaaGreatDoor.S10

namespace Go.Proofs.YtipgipgehnhgkaaGreatDoor.S10
open Go.RowKit

/-- What zone answers: minutes, and that it is one. -/
def zoV : Option M.Mo → Value
  | none => .tuple #[.int .i64 0, .bool false]
  | some Y => if M.mayZ Y = true then .tuple #[.int .i64 (M.off Y), .bool true] else .tuple #[.int .i64 0, .bool false]
theorem ret_zo {a b : Int} {t : Bool} (h : a = b) : Ending.returned (.tuple #[.int .i64 a, .bool t]) = .returned (.tuple #[.int .i64 b, .bool t]) := by rw [h]
theorem hour_no (Y : M.Mo) (l : List UInt8) (h : M.cnt 2 l = 0) : M.cHour Y l = none := by unfold M.cHour; rw [if_pos h]
theorem hour_end (s : ByteArray) (Y : M.Mo) (k : Nat) (h : ¬ M.cnt 2 (s.data.toList.drop k) = 0) (he : k + M.cnt 2 (s.data.toList.drop k) = s.size) :
    M.cHour Y (s.data.toList.drop k) = some { Y with zh := M.nv 2 0 (s.data.toList.drop k) } := by
  unfold M.cHour
  rw [if_neg h, List.drop_drop, he, drop_nil s _ (Nat.le_refl _), if_neg (by simp)]
  unfold M.cLast; rw [if_pos rfl]
theorem hour_bad (s : ByteArray) (Y : M.Mo) (k : Nat) (h : ¬ M.cnt 2 (s.data.toList.drop k) = 0) (he : k + M.cnt 2 (s.data.toList.drop k) < s.size) (hb : s[k + M.cnt 2 (s.data.toList.drop k)] ≠ 58) :
    M.cHour Y (s.data.toList.drop k) = none := by
  unfold M.cHour
  rw [if_neg h, List.drop_drop, drop_cons s _ he, if_neg (by simpa using hb)]
  unfold M.cLast; rw [if_neg (by simp)]
theorem hour_min (s : ByteArray) (Y : M.Mo) (k : Nat) (h : ¬ M.cnt 2 (s.data.toList.drop k) = 0) (he : k + M.cnt 2 (s.data.toList.drop k) < s.size) (hb : s[k + M.cnt 2 (s.data.toList.drop k)] = 58) :
    M.cHour Y (s.data.toList.drop k) = M.cMin { Y with zh := M.nv 2 0 (s.data.toList.drop k) } (s.data.toList.drop (k + M.cnt 2 (s.data.toList.drop k) + 1)) := by
  unfold M.cHour
  rw [if_neg h, List.drop_drop, drop_cons s _ he, if_pos (by simpa using hb), List.drop_drop]
  rfl
theorem min_no (Y : M.Mo) (l : List UInt8) (h : ¬ M.cnt 2 l = 2) : M.cMin Y l = none := by unfold M.cMin; rw [if_neg h]
theorem min_end (s : ByteArray) (Y : M.Mo) (k : Nat) (h : M.cnt 2 (s.data.toList.drop k) = 2) (he : k + 2 = s.size) :
    M.cMin Y (s.data.toList.drop k) = some { Y with zm := M.nv 2 0 (s.data.toList.drop k) } := by
  unfold M.cMin
  rw [if_pos h, List.drop_drop, he, drop_nil s _ (Nat.le_refl _)]
  unfold M.cLast; rw [if_pos rfl]
theorem min_bad (s : ByteArray) (Y : M.Mo) (k : Nat) (h : M.cnt 2 (s.data.toList.drop k) = 2) (he : k + 2 < s.size) : M.cMin Y (s.data.toList.drop k) = none := by
  unfold M.cMin
  rw [if_pos h, List.drop_drop, drop_cons s _ he]
  unfold M.cLast; rw [if_neg (by simp)]
theorem zo_high (T : Option M.Mo) (V : Nat) (hV : 23 < V) (h : ∀ Y, T = some Y → Y.zh = V) : zoV T = .tuple #[.int .i64 0, .bool false] := by
  cases T with
  | none => rfl
  | some Y => unfold zoV; simp only; rw [if_neg]; rw [M.mayZ, h Y rfl]; simp; omega
theorem zh_hour (Y Z : M.Mo) (l : List UInt8) (h : M.cHour Y l = some Z) : Z.zh = M.nv 2 0 l := by
  have hl : ∀ (A : M.Mo) (r : List UInt8), M.cLast A r = some Z → Z = A := fun A r => M.fr_cLast
  unfold M.cHour at h
  split at h
  · exact nomatch h
  · split at h
    · unfold M.cMin at h
      split at h
      · rw [hl _ _ h]
      · exact nomatch h
    · rw [hl _ _ h]
theorem dgV_few (s : ByteArray) (i l m : Nat) (h : M.cnt m (s.data.toList.drop i) < l) : dgV s i l m = noV := by unfold dgV; rw [if_pos h]; rfl
theorem dgV_some (s : ByteArray) (i l m : Nat) (h : ¬ M.cnt m (s.data.toList.drop i) < l) :
    dgV s i l m = .tuple #[.int .i64 (M.nv m 0 (s.data.toList.drop i) : Nat), .int .i64 ((i + M.cnt m (s.data.toList.drop i) : Nat) : Int)] := by unfold dgV; rw [if_neg h]

set_option maxRecDepth 100000 in
set_option maxHeartbeats 2000000 in
theorem zone_any (s : ByteArray) (c : Nat) (X : M.Mo) (w : World) (hs : s.size ≤ 100000) (hc : c ≤ s.size) (hX : X.bh = false ∧ X.zh = 0 ∧ X.zm = 0) :
    Calls Tryz.prog 120 #[.string s, .int .i64 c] w fun e w' => e = .returned (zoV (M.cClk X (s.data.toList.drop c))) ∧ Below w.heap.size w w' := by
  obtain ⟨R, hR⟩ : ∃ R, zoV (M.cClk X (s.data.toList.drop c)) = R := ⟨_, rfl⟩
  rw [hR]
  by_cases hcs : c = s.size
  · subst hcs
    have hR2 : R = .tuple #[.int .i64 0, .bool true] := by
      rw [← hR, drop_nil s _ (Nat.le_refl _)]
      unfold M.cClk; rw [if_pos rfl]; unfold zoV; simp [M.mayZ, M.off, hX]
    clear hR hX
    subst hR2
    have d1 : ((s.size : Int) == (s.size : Int)) = true := by simp
    go_enter Tryz.func120, Tryz.ntmps120
    go_wp2
    go_ret2
    exact ⟨rfl, Below.refl _ _⟩
  · have hT : zoV (M.cBl X (s.data.toList.drop c)) = R := by
      rw [← hR]; unfold M.cClk; rw [if_neg (by rw [drop_cons s c (by omega)]; simp)]
    have HR := Lib.hid hT
    have HX := Lib.hid hX
    clear hR hT hX
    have d1 : ((c : Int) == (s.size : Int)) = false := by simp; omega
    go_enter Tryz.func120, Tryz.ntmps120
    go_wp2_with fail
    go_loop [1] (fun kv => ∃ k : Nat, kv = .int .i64 k ∧ k ≤ s.size ∧ Hid (zoV (M.cBl X (s.data.toList.drop k)) = R)) (fun kv => s.size - (intOf kv).toNat)
    case atStart => exact ⟨c, rfl, hc, HR⟩
    case round =>
      obtain ⟨k, rfl, hk, HT⟩ := hrel
      clear HR d1 hcs hc
      have e := HT.out
      clear HT
      by_cases hl : k < s.size
      · have l1 : decide (k < s.size) = true := decide_eq_true hl
        have hb8 := s[k].toNat_lt
        rw [drop_cons s k hl, M.cBl] at e
        by_cases b32 : s[k].toNat = 32
        · have e32 : ((s[k].toNat : Int) == 32) = true := by simp; omega
          rw [if_pos (by simp [M.bB, b32])] at e
          have E := Lib.hid e
          clear e b32
          go_wp2_with fail
          go_round
          case rel => exact ⟨k + 1, by go_num, by omega, E⟩
          case measure => simp [intOf]; omega
        · have e32 : ((s[k].toNat : Int) == 32) = false := by simp; omega
          by_cases b9 : s[k].toNat = 9
          · have e9 : ((s[k].toNat : Int) == 9) = true := by simp; omega
            rw [if_pos (by simp [M.bB, b9])] at e
            have E := Lib.hid e
            clear e b32 b9
            go_wp2_with fail
            go_round
            case rel => exact ⟨k + 1, by go_num, by omega, E⟩
            case measure => simp [intOf]; omega
          · have e9 : ((s[k].toNat : Int) == 9) = false := by simp; omega
            rw [if_neg (by simp [M.bB, b32, b9])] at e
            clear b32 b9
            by_cases hz : s[k] = 90
            · rw [if_pos hz] at e
              have e90 : ((s[k].toNat : Int) == 90) = true := by rw [hz]; rfl
              by_cases hend : k + 1 = s.size
              · have q1 : ((k : Int) + 1 == (s.size : Int)) = true := by simp; omega
                have q2 : (((k + 1 : Nat) : Int) == (s.size : Int)) = true := by simp; omega
                have hR2 : R = .tuple #[.int .i64 0, .bool true] := by
                  rw [← e, drop_nil s _ (by omega)]
                  unfold M.cLast; rw [if_pos rfl]; unfold zoV; simp [M.mayZ, M.off, HX.out]
                clear e hz hend
                subst hR2
                go_wp2
                go_ret2
                exact ⟨rfl, Below.refl _ _⟩
              · have q1 : ((k : Int) + 1 == (s.size : Int)) = false := by simp; omega
                have q2 : (((k + 1 : Nat) : Int) == (s.size : Int)) = false := by simp; omega
                have hR2 : R = .tuple #[.int .i64 0, .bool false] := by
                  rw [← e, drop_cons s _ (show k + 1 < s.size by omega)]
                  unfold M.cLast; rw [if_neg (by simp)]; rfl
                have cP : ∀ W, Calls Tryz.prog 76 #[.string s, .int .i64 k, .string ⟨#[43, 45]⟩, .int .i64 1, .int .i64 2] W fun e w' => e = .returned noV ∧ Below W.heap.size W w' := fun W => part_no s ⟨#[43, 45]⟩ k 1 2 W hs (by decide) hk (by intro _; rw [hz]; decide)
                unfold noV at cP
                clear e hz hend
                subst hR2
                go_wp2_with fail
                refine (cP _).mono ?_
                rintro r w1 ⟨rfl, hb⟩
                go_wp2
                go_ret2
                exact ⟨rfl, hb⟩
            · rw [if_neg hz] at e
              have e90 : ((s[k].toNat : Int) == 90) = false := neC (k := 90) (by omega) hz
              by_cases hsg : s[k] = 43 ∨ s[k] = 45
              · obtain ⟨b, h45, e2⟩ : ∃ b : Bool, ((s[k].toNat : Int) == 45) = b ∧ zoV (M.cHour { X with bh := b } (s.data.toList.drop (k + 1))) = R := by
                  rcases hsg with h | h
                  · rw [if_pos h] at e; exact ⟨false, by rw [h]; rfl, e⟩
                  · rw [if_neg (by rw [h]; decide), if_pos h] at e; exact ⟨true, by rw [h]; rfl, e⟩
                have cP : ∀ W, Calls Tryz.prog 76 #[.string s, .int .i64 k, .string ⟨#[43, 45]⟩, .int .i64 1, .int .i64 2] W fun e w' => e = .returned (dgV s (k + 1) 1 2) ∧ Below W.heap.size W w' := fun W => part_yes s ⟨#[43, 45]⟩ k 1 2 W hs (by decide) hl (by rcases hsg with h | h <;> rw [h] <;> decide) (by omega) (by omega)
                have HX2 : Hid ({ X with bh := b }.bh = b ∧ { X with bh := b }.zm = 0) := ⟨rfl, HX.out.2.2⟩
                clear e hsg hz HX
                generalize { X with bh := b } = Y at *
                have q0 : ((k : Int) + 1 == (s.size : Int)) = decide (k + 1 = s.size) := by
                  by_cases h : k + 1 = s.size
                  · rw [decide_eq_true h]; simp; omega
                  · rw [decide_eq_false h]; simp; omega
                obtain ⟨C, hC⟩ : ∃ C, M.cnt 2 (s.data.toList.drop (k + 1)) = C := ⟨_, rfl⟩
                obtain ⟨V, hV⟩ : ∃ V, M.nv 2 0 (s.data.toList.drop (k + 1)) = V := ⟨_, rfl⟩
                have hV9 : V < 100 := by rw [← hV]; exact M.nv2_lt _
                have hCl : k + 1 + C ≤ s.size := by
                  have := M.cnt_len 2 (s.data.toList.drop (k + 1))
                  rw [List.length_drop, ← sz_list, hC] at this; omega
                have hC2 : C ≤ 2 := by rw [← hC]; exact M.cnt_le _ _
                by_cases hC0 : C = 0
                · have hR2 : R = .tuple #[.int .i64 0, .bool false] := by rw [← e2, hour_no _ _ (by rw [hC, hC0])]; rfl
                  rw [dgV_few s _ 1 2 (by omega)] at cP
                  unfold noV at cP
                  clear e2 hC hV hC0 hCl hC2 HX2
                  subst hR2
                  by_cases qe : k + 1 = s.size
                  all_goals (first | rw [decide_eq_true qe] at q0 | rw [decide_eq_false qe] at q0)
                  all_goals clear qe
                  all_goals go_wp2_with fail
                  all_goals refine (cP _).mono ?_
                  all_goals rintro r w1 ⟨rfl, hb⟩
                  all_goals go_wp2
                  all_goals go_ret2
                  all_goals exact ⟨rfl, hb⟩
                · rw [dgV_some s _ 1 2 (by omega), hV, hC] at cP
                  have q1 : ((k : Int) + 1 == (s.size : Int)) = false := by simp; omega
                  clear q0
                  obtain ⟨a, ha⟩ : ∃ a, k + 1 + C = a := ⟨_, rfl⟩
                  rw [ha] at cP hCl
                  have a0 : decide ((a : Int) < 0) = false := decide_eq_false (by omega)
                  by_cases hV23 : 23 < V
                  · have v1 : decide ((23 : Int) < (V : Int)) = true := decide_eq_true (by omega)
                    have v2 : decide (23 < V) = true := decide_eq_true (by omega)
                    have hR2 : R = .tuple #[.int .i64 0, .bool false] := by
                      rw [← e2]; exact zo_high _ V hV23 (fun Z h => by rw [zh_hour _ _ _ h, hV])
                    clear e2 hC hV hC0 ha HX2
                    subst hR2
                    go_wp2_with fail
                    refine (cP _).mono ?_
                    rintro r w1 ⟨rfl, hb⟩
                    go_wp2
                    go_ret2
                    exact ⟨rfl, hb⟩
                  · have v1 : decide ((23 : Int) < (V : Int)) = false := decide_eq_false (by omega)
                    have v2 : decide (23 < V) = false := decide_eq_false (by omega)
                    by_cases hend : a = s.size
                    · have a1 : decide ((a : Int) < (s.size : Int)) = false := decide_eq_false (by omega)
                      have a2 : decide (a < s.size) = false := decide_eq_false (by omega)
                      rw [hour_end s Y (k + 1) (by rw [hC]; exact hC0) (by rw [hC, ha]; exact hend), hV] at e2
                      have hR2 : R = .tuple #[.int .i64 (if b = true then -60 * (V : Int) else 60 * (V : Int)), .bool true] := by
                        rw [← e2]; unfold zoV; simp only [M.mayZ, M.off]
                        rw [HX2.out.1, HX2.out.2, if_pos (by simp; omega)]
                        cases b
                        · simp
                        · simp; omega
                      clear e2 hC hV hC0 ha HX2 hend
                      subst hR2
                      cases b
                      · rw [if_neg (by decide)]
                        go_wp2_with fail
                        refine (cP _).mono ?_
                        rintro r w1 ⟨rfl, hb⟩
                        go_wp2
                        go_ret2
                        exact ⟨ret_zo (by omega), hb⟩
                      · rw [if_pos rfl]
                        go_wp2_with fail
                        refine (cP _).mono ?_
                        rintro r w1 ⟨rfl, hb⟩
                        go_wp2
                        go_ret2
                        exact ⟨ret_zo (by omega), hb⟩
                    · have hal : a < s.size := by omega
                      have a1 : decide ((a : Int) < (s.size : Int)) = true := decide_eq_true (by omega)
                      have a2 : decide (a < s.size) = true := decide_eq_true (by omega)
                      subst ha
                      by_cases h58 : s[k + 1 + C] = 58
                      · subst hC
                        rw [hour_min s Y (k + 1) hC0 hal h58, hV] at e2
                        generalize M.cnt 2 (s.data.toList.drop (k + 1)) = C at *
                        have cQ : ∀ W, Calls Tryz.prog 76 #[.string s, .int .i64 ((k + 1 + C : Nat) : Int), .string ⟨#[58]⟩, .int .i64 2, .int .i64 2] W fun e w' => e = .returned (dgV s (k + 1 + C + 1) 2 2) ∧ Below W.heap.size W w' := fun W => part_yes s ⟨#[58]⟩ (k + 1 + C) 2 2 W hs (by decide) hal (by rw [h58]; decide) (by omega) (by omega)
                        generalize k + 1 + C = a at *
                        clear h58 hC0 hC2
                        obtain ⟨D, hD⟩ : ∃ D, M.cnt 2 (s.data.toList.drop (a + 1)) = D := ⟨_, rfl⟩
                        obtain ⟨U, hU⟩ : ∃ U, M.nv 2 0 (s.data.toList.drop (a + 1)) = U := ⟨_, rfl⟩
                        have hU9 : U < 100 := by rw [← hU]; exact M.nv2_lt _
                        have hDl : a + 1 + D ≤ s.size := by
                          have := M.cnt_len 2 (s.data.toList.drop (a + 1))
                          rw [List.length_drop, ← sz_list, hD] at this; omega
                        have hD2 : D ≤ 2 := by rw [← hD]; exact M.cnt_le _ _
                        by_cases hDD : D = 2
                        · subst hDD
                          rw [dgV_some s _ 2 2 (by omega), hU, hD] at cQ
                          have cQ2 : ∀ W, Calls Tryz.prog 76 #[.string s, .int .i64 (a : Int), .string ⟨#[58]⟩, .int .i64 2, .int .i64 2] W fun e w' => e = .returned (.tuple #[.int .i64 (U : Nat), .int .i64 ((a + 3 : Nat) : Int)]) ∧ Below W.heap.size W w' := cQ
                          clear cQ
                          obtain ⟨z, hz⟩ : ∃ z, a + 3 = z := ⟨_, rfl⟩
                          rw [hz] at cQ2
                          by_cases hze : z = s.size
                          · have z1 : ((z : Int) == (s.size : Int)) = true := by simp; omega
                            have z2 : ((z : Int) != (s.size : Int)) = false := by simp; omega
                            rw [min_end s _ (a + 1) hD (by omega), hU] at e2
                            by_cases hU59 : 59 < U
                            · have u1 : decide ((59 : Int) < (U : Int)) = true := decide_eq_true (by omega)
                              have u2 : decide (59 < U) = true := decide_eq_true (by omega)
                              have hR2 : R = .tuple #[.int .i64 0, .bool false] := by
                                have hU60 : ¬ U < 60 := by omega
                                rw [← e2]; unfold zoV; simp [M.mayZ, hU60]
                              clear e2 hV HX2 hD hU hz hze hend
                              subst hR2
                              go_wp2_with fail
                              refine (cP _).mono ?_
                              rintro r w1 ⟨rfl, hb⟩
                              go_wp2_with fail
                              refine (cQ2 _).mono ?_
                              rintro r w2 ⟨rfl, hb2⟩
                              have hb3 := hb.trans (hb2.mono hb.size)
                              clear hb hb2
                              go_wp2
                              go_ret2
                              exact ⟨rfl, hb3⟩
                            · have u1 : decide ((59 : Int) < (U : Int)) = false := decide_eq_false (by omega)
                              have u2 : decide (59 < U) = false := decide_eq_false (by omega)
                              have hR2 : R = .tuple #[.int .i64 (if b = true then -60 * (V : Int) - U else 60 * (V : Int) + U), .bool true] := by
                                rw [← e2]; unfold zoV; simp only [M.mayZ, M.off]
                                rw [HX2.out.1, if_pos (by simp; omega)]
                                cases b
                                · simp
                                · simp; omega
                              clear e2 hV HX2 hD hU hz hze hend
                              subst hR2
                              cases b
                              · rw [if_neg (by decide)]
                                go_wp2_with fail
                                refine (cP _).mono ?_
                                rintro r w1 ⟨rfl, hb⟩
                                go_wp2_with fail
                                refine (cQ2 _).mono ?_
                                rintro r w2 ⟨rfl, hb2⟩
                                have hb3 := hb.trans (hb2.mono hb.size)
                                clear hb hb2
                                go_wp2
                                go_ret2
                                exact ⟨ret_zo (by omega), hb3⟩
                              · rw [if_pos rfl]
                                go_wp2_with fail
                                refine (cP _).mono ?_
                                rintro r w1 ⟨rfl, hb⟩
                                go_wp2_with fail
                                refine (cQ2 _).mono ?_
                                rintro r w2 ⟨rfl, hb2⟩
                                have hb3 := hb.trans (hb2.mono hb.size)
                                clear hb hb2
                                go_wp2
                                go_ret2
                                exact ⟨ret_zo (by omega), hb3⟩
                          · have z1 : ((z : Int) == (s.size : Int)) = false := by simp; omega
                            have z2 : ((z : Int) != (s.size : Int)) = true := by simp; omega
                            have hR2 : R = .tuple #[.int .i64 0, .bool false] := by
                              rw [← e2, min_bad s _ (a + 1) hD (by omega)]; rfl
                            clear e2 hV HX2 hD hU hz hze hend
                            subst hR2
                            go_wp2_with fail
                            refine (cP _).mono ?_
                            rintro r w1 ⟨rfl, hb⟩
                            go_wp2_with fail
                            refine (cQ2 _).mono ?_
                            rintro r w2 ⟨rfl, hb2⟩
                            have hb3 := hb.trans (hb2.mono hb.size)
                            clear hb hb2
                            go_wp2
                            go_ret2
                            exact ⟨rfl, hb3⟩
                        · rw [dgV_few s _ 2 2 (by omega)] at cQ
                          unfold noV at cQ
                          have z1 : ((-1 : Int) == (s.size : Int)) = false := beq_eq_false_iff_ne.2 (by omega)
                          have z2 : ((-1 : Int) != (s.size : Int)) = true := bne_iff_ne.2 (by omega)
                          have hR2 : R = .tuple #[.int .i64 0, .bool false] := by
                            rw [← e2, min_no _ _ (by rw [hD]; exact hDD)]; rfl
                          clear e2 hV HX2 hD hU hend hDD
                          subst hR2
                          go_wp2_with fail
                          refine (cP _).mono ?_
                          rintro r w1 ⟨rfl, hb⟩
                          go_wp2_with fail
                          refine (cQ _).mono ?_
                          rintro r w2 ⟨rfl, hb2⟩
                          have hb3 := hb.trans (hb2.mono hb.size)
                          clear hb hb2
                          go_wp2
                          go_ret2
                          exact ⟨rfl, hb3⟩
                      · subst hC
                        have hR2 : R = .tuple #[.int .i64 0, .bool false] := by
                          rw [← e2, hour_bad s Y (k + 1) hC0 hal h58]; rfl
                        have cQ : ∀ W, Calls Tryz.prog 76 #[.string s, .int .i64 ((k + 1 + M.cnt 2 (s.data.toList.drop (k + 1)) : Nat) : Int), .string ⟨#[58]⟩, .int .i64 2, .int .i64 2] W fun e w' => e = .returned noV ∧ Below W.heap.size W w' := fun W => part_no s ⟨#[58]⟩ (k + 1 + M.cnt 2 (s.data.toList.drop (k + 1))) 2 2 W hs (by decide) hCl (by intro _ q; exact h58 (by simpa using q))
                        unfold noV at cQ
                        generalize k + 1 + M.cnt 2 (s.data.toList.drop (k + 1)) = a at *
                        have z1 : ((-1 : Int) == (s.size : Int)) = false := beq_eq_false_iff_ne.2 (by omega)
                        have z2 : ((-1 : Int) != (s.size : Int)) = true := bne_iff_ne.2 (by omega)
                        clear e2 hV HX2 hend h58 hC0 hC2
                        subst hR2
                        go_wp2_with fail
                        refine (cP _).mono ?_
                        rintro r w1 ⟨rfl, hb⟩
                        go_wp2_with fail
                        refine (cQ _).mono ?_
                        rintro r w2 ⟨rfl, hb2⟩
                        have hb3 := hb.trans (hb2.mono hb.size)
                        clear hb hb2
                        go_wp2
                        go_ret2
                        exact ⟨rfl, hb3⟩
              · have h1 : ¬ s[k] = 43 := fun h => hsg (.inl h)
                have h2 : ¬ s[k] = 45 := fun h => hsg (.inr h)
                rw [if_neg h1, if_neg h2] at e
                have hR2 : R = .tuple #[.int .i64 0, .bool false] := e.symm
                have cP : ∀ W, Calls Tryz.prog 76 #[.string s, .int .i64 k, .string ⟨#[43, 45]⟩, .int .i64 1, .int .i64 2] W fun e w' => e = .returned noV ∧ Below W.heap.size W w' := fun W => part_no s ⟨#[43, 45]⟩ k 1 2 W hs (by decide) hk (by intro _ q; exact hsg (by simpa using q))
                unfold noV at cP
                clear e h1 h2 hsg hz HX
                subst hR2
                by_cases qe : k + 1 = s.size
                · have q1 : ((k : Int) + 1 == (s.size : Int)) = true := by simp; omega
                  clear qe
                  go_wp2_with fail
                  refine (cP _).mono ?_
                  rintro r w1 ⟨rfl, hb⟩
                  go_wp2
                  go_ret2
                  exact ⟨rfl, hb⟩
                · have q1 : ((k : Int) + 1 == (s.size : Int)) = false := by simp; omega
                  clear qe
                  go_wp2_with fail
                  refine (cP _).mono ?_
                  rintro r w1 ⟨rfl, hb⟩
                  go_wp2
                  go_ret2
                  exact ⟨rfl, hb⟩
      · obtain rfl : k = s.size := by omega
        have l1 : decide (s.size < s.size) = false := decide_eq_false (by omega)
        rw [drop_nil s _ (Nat.le_refl _), M.cBl] at e
        have hR2 : R = .tuple #[.int .i64 0, .bool false] := e.symm
        have q1 : ((s.size : Int) + 1 == (s.size : Int)) = false := by simp; omega
        have cP : ∀ W, Calls Tryz.prog 76 #[.string s, .int .i64 s.size, .string ⟨#[43, 45]⟩, .int .i64 1, .int .i64 2] W fun e w' => e = .returned noV ∧ Below W.heap.size W w' := fun W => part_no s ⟨#[43, 45]⟩ s.size 1 2 W hs (by decide) (Nat.le_refl _) (by intro h; omega)
        unfold noV at cP
        clear e HX
        subst hR2
        go_wp2_with fail
        refine (cP _).mono ?_
        rintro r w1 ⟨rfl, hb⟩
        go_wp2
        go_ret2
        exact ⟨rfl, hb⟩
end Go.Proofs.YtipgipgehnhgkaaGreatDoor.S10

namespace Go.Proofs.YtipgipgehnhgkaaGreatDoor.S10
open Go.RowKit

/-- A text up to the minute. -/
def ml (y m d n : Nat) : List UInt8 := dl y m d ++ (84 :: (M.d2 (n / 60) ++ (58 :: M.d2 (n % 60))))
theorem ml_ttx (y m d n se : Nat) (f : List UInt8) : M.ttx y m d n se f = ml y m d n ++ (58 :: (M.d2 se ++ (M.dot (M.tz f) ++ [90]))) := by
  unfold M.ttx ml dl; simp
theorem ml_len (y m d n : Nat) : (ml y m d n).length = 16 := rfl

set_option maxRecDepth 100000 in
set_option maxHeartbeats 1000000 in
/-- moved's end: a year that there is. -/
theorem moved_in (y m d n : Nat) (w : World) (hy : y < 10000) (hm : 1 ≤ m ∧ m ≤ 12) (hd : 1 ≤ d ∧ d ≤ M.days y m) (hn : n < 1440) :
    Calls Tryz.prog 121 #[.int .i64 y, .int .i64 m, .int .i64 d, .int .i64 n] w fun e w' => e = .returned (.tuple #[.string (bA (ml y m d n)), .bool true]) ∧ Below w.heap.size w w' := by
  have hd31 := M.days_le y m
  have cD := fun W => rdays_nat y m W (by omega)
  obtain ⟨D, hD⟩ : ∃ D, M.days y m = D := ⟨_, rfl⟩
  rw [hD] at cD hd hd31
  clear hD
  obtain ⟨a, ha⟩ : ∃ a, n / 60 = a := ⟨_, rfl⟩
  obtain ⟨b, hb⟩ : ∃ b, n % 60 = b := ⟨_, rfl⟩
  have c1 := fun W => rday_any y m d W hy (by omega) (by omega)
  have c2 := fun W => rtwo_any a W (by omega)
  have c3 := fun W => rtwo_any b W (by omega)
  have f1 : (n : Int) / 60 = (a : Int) := by omega
  have f2 : (n : Int) % 60 = (b : Int) := by omega
  have hr : bA (dl y m d) ++ ⟨#[84]⟩ ++ bA (M.d2 a) ++ ⟨#[58]⟩ ++ bA (M.d2 b) = bA (ml y m d n) := by
    unfold ml; rw [ha, hb]
    apply bA_inj.2 rfl
  have HR := Lib.hid hr
  have z1 : (bA (dl y m d)).size = 10 := bA_size _
  have z2 : (bA (M.d2 a)).size = 2 := bA_size _
  have z3 : (bA (M.d2 b)).size = 2 := bA_size _
  have z4 : (⟨#[84]⟩ : ByteArray).size = 1 := rfl
  have z5 : (⟨#[58]⟩ : ByteArray).size = 1 := rfl
  clear ha hb hr
  generalize bA (dl y m d) = A at *
  generalize bA (M.d2 a) = B at *
  generalize bA (M.d2 b) = C at *
  generalize bA (ml y m d n) = Z at *
  have y1 := append_sz A ⟨#[84]⟩
  have y2 := append_sz (A ++ ⟨#[84]⟩) B
  have y3 := append_sz (A ++ ⟨#[84]⟩ ++ B) ⟨#[58]⟩
  have a1 : ∀ W, (Op.stringOp .add A ⟨#[84]⟩).run Tryz.prog W = .ok (.string (A ++ ⟨#[84]⟩)) W := fun W => run_string_add_sum _ _ _ (by omega)
  have a2 : ∀ W, (Op.stringOp .add (A ++ ⟨#[84]⟩) B).run Tryz.prog W = .ok (.string (A ++ ⟨#[84]⟩ ++ B)) W := fun W => run_string_add_sum _ _ _ (by omega)
  have a3 : ∀ W, (Op.stringOp .add (A ++ ⟨#[84]⟩ ++ B) ⟨#[58]⟩).run Tryz.prog W = .ok (.string (A ++ ⟨#[84]⟩ ++ B ++ ⟨#[58]⟩)) W := fun W => run_string_add_sum _ _ _ (by omega)
  have a4 : ∀ W, (Op.stringOp .add (A ++ ⟨#[84]⟩ ++ B ++ ⟨#[58]⟩) C).run Tryz.prog W = .ok (.string (A ++ ⟨#[84]⟩ ++ B ++ ⟨#[58]⟩ ++ C)) W := fun W => run_string_add_sum _ _ _ (by omega)
  clear y1 y2 y3 z1 z2 z3 z4 z5
  have d1 : decide ((n : Int) < 0) = false := decide_eq_false (by omega)
  have d2 : decide ((1440 : Int) ≤ (n : Int)) = false := decide_eq_false (by omega)
  have d3 : decide ((d : Int) < 1) = false := decide_eq_false (by omega)
  have d4 : decide ((D : Int) < (d : Int)) = false := decide_eq_false (by omega)
  have d5 : decide (D < d) = false := decide_eq_false (by omega)
  have d6 : decide ((y : Int) < 0) = false := decide_eq_false (by omega)
  have d7 : decide ((9999 : Int) < (y : Int)) = false := decide_eq_false (by omega)
  have d8 : decide (9999 < y) = false := decide_eq_false (by omega)
  go_enter Tryz.func121, Tryz.ntmps121
  go_wp2_with fail
  refine (cD _).mono ?_
  rintro r w0 ⟨rfl, rfl⟩
  clear cD
  go_wp2_with fail
  refine (c1 _).mono ?_
  rintro r w1 ⟨rfl, hb1⟩
  go_wp2_with fail
  refine (c2 _).mono ?_
  rintro r w2 ⟨rfl, hb2⟩
  have B2 := hb1.trans (hb2.mono hb1.size)
  clear hb1 hb2 c1 c2
  go_wp2_with fail
  refine (c3 _).mono ?_
  rintro r w3 ⟨rfl, hb3⟩
  have HB := Lib.hid (B2.trans (hb3.mono B2.size))
  clear B2 hb3 c3
  have HR2 := HR.out
  clear HR
  subst HR2
  go_wp2
  go_ret2
  exact ⟨rfl, HB.out⟩
end Go.Proofs.YtipgipgehnhgkaaGreatDoor.S10
