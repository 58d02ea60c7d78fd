/- The law BigBases: its walk. -/
import Derived.Test.YtplplpecafjacaaDoorLd
import Derived.Laws.BitsAllLaws
set_option linter.unusedVariables false
namespace Go.Proofs.YtplplpecafjacaaDoor
open Go.RowKit

/-- The last i digits of n to the base B. -/
def dl (B : Nat) (f : Nat → UInt8) (n : Nat) : Nat → List UInt8
  | 0 => []
  | i + 1 => f (n / B ^ i % B) :: dl B f n i
theorem dl_length (B : Nat) (f : Nat → UInt8) (n i : Nat) : (dl B f n i).length = i := by
  induction i with
  | zero => rfl
  | succ i ih => rw [dl, List.length_cons, ih]
theorem dl_ok (B : Nat) (f : Nat → UInt8) (n i : Nat) (hB : 0 < B) (hf : ∀ v, v < B → M.dv (f v) = v) : M.allD B (dl B f n i) = true ∧ M.val B (dl B f n i) = n % B ^ i := by
  induction i with
  | zero => exact ⟨rfl, by simp [dl, M.val, Nat.mod_one]⟩
  | succ i ih =>
    have hd := hf (n / B ^ i % B) (Nat.mod_lt _ hB)
    constructor
    · rw [M.allD_iff, dl]
      intro c hc
      rcases List.mem_cons.1 hc with rfl | hc
      · rw [hd]; exact Nat.mod_lt _ hB
      · exact (M.allD_iff _ _).1 ih.1 c hc
    · rw [dl, M.val_cons, hd, dl_length, ih.2, Nat.mod_pow_succ, Nat.mul_comm, Nat.add_comm]
def d2 (v : Nat) : UInt8 := UInt8.ofNat (48 + v)
def d16 (up : Bool) (v : Nat) : UInt8 := if v < 10 then UInt8.ofNat (48 + v) else if up = true then UInt8.ofNat (55 + v) else UInt8.ofNat (87 + v)
theorem d2_dv (v : Nat) (h : v < 8) : M.dv (d2 v) = v := M.dv_dig v (by omega)
theorem u8_nat (k : Nat) (h : k < 256) : (UInt8.ofNat k).toNat = k := by simp; omega
theorem d16_dv (up : Bool) (v : Nat) (h : v < 16) : M.dv (d16 up v) = v := by
  unfold d16
  split
  · exact M.dv_dig v (by omega)
  · split
    · unfold M.dv
      rw [u8_nat _ (by omega), if_neg (by omega), if_neg (by omega), if_pos (by omega)]; omega
    · unfold M.dv
      rw [u8_nat _ (by omega), if_neg (by omega), if_pos (by omega)]; omega
def dAt (B : Nat) (f : Nat → UInt8) (n i : Nat) : ByteArray := bA (dl B f n i)
theorem dAt_size (B : Nat) (f : Nat → UInt8) (n i : Nat) : (dAt B f n i).size = i := by unfold dAt; rw [bA_size, dl_length]
theorem dAt_succ (B : Nat) (f : Nat → UInt8) (n i : Nat) : bA [f (n / B ^ i % B)] ++ dAt B f n i = dAt B f n (i + 1) := by
  unfold dAt; rw [bA_append]; rfl
theorem base_dAt (B : Nat) (f : Nat → UInt8) (n i : Nat) (hB : B = 2 ∨ B = 8 ∨ B = 16) (hf : ∀ v, v < B → M.dv (f v) = v) (hi : 0 < i) (hi2 : i ≤ 64) (hn : n < B ^ i) (w : World) :
    Calls Tryd.prog 14 #[.string (dAt B f n i), .int .i64 B] w fun r w' => r = .returned (.string (tx (n : Int))) ∧ Below w.heap.size w w' := by
  obtain ⟨h1, h2⟩ := dl_ok B f n i (by omega) hf
  have := base_yes (dAt B f n i) B w hB (by rw [dAt_size]; omega) (by unfold dAt; rw [bA_toList, M.okD_iff]; exact ⟨by intro e; have := dl_length B f n i; rw [e] at this; simp at this; omega, h1⟩)
  rwa [show (dAt B f n i).data.toList = dl B f n i from bA_toList _, h2, Nat.mod_eq_of_lt hn] at this
theorem shr_is (n k : Nat) : (n : Int) / 2 ^ k = ((n / 2 ^ k : Nat) : Int) := by simp
theorem mask_is (q m k : Nat) (hq : q < 18446744073709551616) (hk : k ≤ 64) (hm : m + 1 = 2 ^ k) : Go.bits .and .u64 (q : Int) (m : Int) = ((q % 2 ^ k : Nat) : Int) := by
  have h : 2 ^ k ≤ 2 ^ 64 := Nat.pow_le_pow_right (by omega) hk
  rw [u64_and_nat q m hq (by omega), show m = 2 ^ k - 1 by omega, Nat.and_two_pow_sub_one_eq_mod]

set_option maxRecDepth 100000 in
set_option maxHeartbeats 2000000 in
theorem bases_any (n : Nat) (up : Bool) (w : World) (ht : Tab w) (hn : n ≤ 18446744073709551615) :
    Calls Tryd.prog 6 #[.int .u64 n, .bool up] w fun r w' => r = .returned (.bool true) ∧ Below w.heap.size w w' := by
  go_enter Tryd.func6, Tryd.ntmps6
  go_wp2_with fail
  refine (known_any w ht).mono ?_
  rintro r w1 ⟨rfl, hb1⟩
  have B1 : Below w.heap.size w w1 := hb1
  clear hb1
  go_wp2_with fail
  go_loopw [5, 8] (fun sv v wr => ∃ i : Nat, sv = .string (dAt 2 d2 n i) ∧ v = .int .i64 i ∧ i ≤ 64 ∧ Below w.heap.size w wr) (fun _ v _ => 64 - (intOf v).toNat)
  case atStart => exact ⟨0, rfl, rfl, Nat.zero_le _, B1⟩
  case round =>
    obtain ⟨i, rfl, rfl, hi, hbw⟩ := hrel
    have hwz := hbw.size
    by_cases hlt : i < 64
    · have d5 : decide ((i : Int) < 64) = true := decide_eq_true (by omega)
      have hsz := dAt_size 2 d2 n i
      have HS := Lib.hid (dAt_succ 2 d2 n i)
      obtain ⟨t, htt⟩ : ∃ t, 1 * i = t := ⟨_, rfl⟩
      have ht63 : t ≤ 63 := by omega
      have hpw : 2 ^ i = 2 ^ t := by rw [← htt, Nat.pow_mul]
      obtain ⟨q, hq⟩ : ∃ q, n / 2 ^ t = q := ⟨_, rfl⟩
      obtain ⟨d, hd⟩ : ∃ d, q % 2 = d := ⟨_, rfl⟩
      have hqn : q ≤ n := by rw [← hq]; exact Nat.div_le_self _ _
      have e1 : (n : Int) / 2 ^ t = (q : Int) := by rw [shr_is, hq]
      have e2 : Go.bits .and .u64 (q : Int) 1 = (d : Int) := by rw [← hd]; exact mask_is q 1 1 (by omega) (by omega) rfl
      have hd2 : d < 2 := by rw [← hd]; exact Nat.mod_lt _ (by omega)
      rw [hpw, hq, hd] at HS
      obtain rfl : t = i := by omega
      have k3 := fun W => one_conv W (48 + (d : Int)) (d2 d) (dig_u8 d (by omega))
      have hXs : (bA [d2 d]).size = 1 := bA_size _
      generalize bA [d2 d] = X at *
      generalize hY : dAt 2 d2 n t = Y at *
      clear hq hd hpw htt hY
      go_wp2
      go_roundw
      case rel => exact ⟨t + 1, congrArg _ HS.out, by go_num, by omega, hbw.alloc hwz _⟩
      case measure => simp [intOf]; omega
    · obtain rfl : i = 64 := by omega
      have d5 : decide (((64 : Nat) : Int) < 64) = false := by decide
      clear hlt hi hwz
      have hB2 := hbw
      have kk2 := base_dAt 2 d2 n 64 (by omega) (fun v h => d2_dv v (by omega)) (by omega) (by omega) (Nat.lt_of_le_of_lt hn (by decide))
      generalize dAt 2 d2 n 64 = S2 at *
      clear hbw
      go_wp2_with fail
      go_loopw [6, 9] (fun sv v wr => ∃ i : Nat, sv = .string (dAt 8 d2 n i) ∧ v = .int .i64 i ∧ i ≤ 22 ∧ Below w.heap.size w wr) (fun _ v _ => 22 - (intOf v).toNat)
      case atStart => exact ⟨0, rfl, rfl, Nat.zero_le _, hB2⟩
      case round =>
        obtain ⟨i, rfl, rfl, hi, hbw⟩ := hrel
        have hwz := hbw.size
        by_cases hlt : i < 22
        · have d5 : decide ((i : Int) < 22) = true := decide_eq_true (by omega)
          have hsz := dAt_size 8 d2 n i
          have HS := Lib.hid (dAt_succ 8 d2 n i)
          obtain ⟨t, htt⟩ : ∃ t, 3 * i = t := ⟨_, rfl⟩
          have htz : (3 : Int) * (i : Int) = (t : Int) := by omega
          have ht63 : t ≤ 63 := by omega
          have hpw : 8 ^ i = 2 ^ t := by rw [← htt, Nat.pow_mul]
          obtain ⟨q, hq⟩ : ∃ q, n / 2 ^ t = q := ⟨_, rfl⟩
          obtain ⟨d, hd⟩ : ∃ d, q % 8 = d := ⟨_, rfl⟩
          have hqn : q ≤ n := by rw [← hq]; exact Nat.div_le_self _ _
          have e1 : (n : Int) / 2 ^ t = (q : Int) := by rw [shr_is, hq]
          have e2 : Go.bits .and .u64 (q : Int) 7 = (d : Int) := by rw [← hd]; exact mask_is q 7 3 (by omega) (by omega) rfl
          have hd2 : d < 8 := by rw [← hd]; exact Nat.mod_lt _ (by omega)
          rw [hpw, hq, hd] at HS
          have k3 := fun W => one_conv W (48 + (d : Int)) (d2 d) (dig_u8 d (by omega))
          have hXs : (bA [d2 d]).size = 1 := bA_size _
          generalize bA [d2 d] = X at *
          generalize hY : dAt 8 d2 n i = Y at *
          clear hq hd hpw htt hY
          go_wp2
          go_roundw
          case rel => exact ⟨i + 1, congrArg _ HS.out, by go_num, by omega, hbw.alloc hwz _⟩
          case measure => simp [intOf]; omega
        · obtain rfl : i = 22 := by omega
          have d5 : decide (((22 : Nat) : Int) < 22) = false := by decide
          clear hlt hi hwz
          have hB8 := hbw
          have kk8 := base_dAt 8 d2 n 22 (by omega) (fun v h => d2_dv v (by omega)) (by omega) (by omega) (Nat.lt_of_le_of_lt hn (by decide))
          generalize dAt 8 d2 n 22 = S8 at *
          clear hbw
          go_wp2_with fail
          go_loopw [7, 10] (fun sv v wr => ∃ i : Nat, sv = .string (dAt 16 (d16 up) n i) ∧ v = .int .i64 i ∧ i ≤ 16 ∧ Below w.heap.size w wr) (fun _ v _ => 16 - (intOf v).toNat)
          case atStart => exact ⟨0, rfl, rfl, Nat.zero_le _, hB8⟩
          case round =>
            obtain ⟨i, rfl, rfl, hi, hbw⟩ := hrel
            have hwz := hbw.size
            by_cases hlt : i < 16
            · have d5 : decide ((i : Int) < 16) = true := decide_eq_true (by omega)
              have hsz := dAt_size 16 (d16 up) n i
              have HS := Lib.hid (dAt_succ 16 (d16 up) n i)
              obtain ⟨t, htt⟩ : ∃ t, 4 * i = t := ⟨_, rfl⟩
              have htz : (4 : Int) * (i : Int) = (t : Int) := by omega
              have ht63 : t ≤ 63 := by omega
              have hpw : 16 ^ i = 2 ^ t := by rw [← htt, Nat.pow_mul]
              obtain ⟨q, hq⟩ : ∃ q, n / 2 ^ t = q := ⟨_, rfl⟩
              obtain ⟨d, hd⟩ : ∃ d, q % 16 = d := ⟨_, rfl⟩
              have hqn : q ≤ n := by rw [← hq]; exact Nat.div_le_self _ _
              have e1 : (n : Int) / 2 ^ t = (q : Int) := by rw [shr_is, hq]
              have e2 : Go.bits .and .u64 (q : Int) 15 = (d : Int) := by rw [← hd]; exact mask_is q 15 4 (by omega) (by omega) rfl
              have hd2 : d < 16 := by rw [← hd]; exact Nat.mod_lt _ (by omega)
              rw [hpw, hq, hd] at HS
              have hXs : (bA [(d16 up) d]).size = 1 := bA_size _
              by_cases hd9 : 9 < d
              · have d9 : decide ((9 : Int) < (d : Int)) = true := decide_eq_true (by omega)
                have hg : ((d16 up) d).toNat = if up = true then 55 + d else 87 + d := by
                  unfold d16
                  rw [if_neg (by omega)]
                  split <;> exact u8_nat _ (by omega)
                cases up
                · have k3 := fun W => one_conv W (97 + (d : Int) - 10) (d16 false d) (by rw [hg]; simp; omega)
                  generalize bA [d16 false d] = X at *
                  generalize hY : dAt 16 (d16 false) n i = Y at *
                  clear hq hd hpw htt hY hg
                  go_wp2
                  go_roundw
                  case rel => exact ⟨i + 1, congrArg _ HS.out, by go_num, by omega, hbw.alloc hwz _⟩
                  case measure => simp [intOf]; omega
                · have k3 := fun W => one_conv W (65 + (d : Int) - 10) (d16 true d) (by rw [hg]; simp; omega)
                  generalize bA [d16 true d] = X at *
                  generalize hY : dAt 16 (d16 true) n i = Y at *
                  clear hq hd hpw htt hY hg
                  go_wp2
                  go_roundw
                  case rel => exact ⟨i + 1, congrArg _ HS.out, by go_num, by omega, hbw.alloc hwz _⟩
                  case measure => simp [intOf]; omega
              · have d9 : decide ((9 : Int) < (d : Int)) = false := decide_eq_false (by omega)
                have k3 := fun W => one_conv W (48 + (d : Int)) ((d16 up) d) (by unfold d16; rw [if_pos (by omega)]; exact dig_u8 d (by omega))
                generalize bA [(d16 up) d] = X at *
                generalize hY : dAt 16 (d16 up) n i = Y at *
                clear hq hd hpw htt hY
                go_wp2
                go_roundw
                case rel => exact ⟨i + 1, congrArg _ HS.out, by go_num, by omega, hbw.alloc hwz _⟩
                case measure => simp [intOf]; omega
            · obtain rfl : i = 16 := by omega
              have d5 : decide (((16 : Nat) : Int) < 16) = false := by decide
              clear hlt hi hwz
              have hB16 := hbw
              have kk16 := base_dAt 16 (d16 up) n 16 (by omega) (d16_dv up) (by omega) (by omega) (Nat.lt_of_le_of_lt hn (by decide))
              generalize dAt 16 (d16 up) n 16 = S16 at *
              clear hbw
              obtain ⟨h, hh⟩ : ∃ h, n / 4294967296 = h := ⟨_, rfl⟩
              obtain ⟨l, hl⟩ : ∃ l, n % 4294967296 = l := ⟨_, rfl⟩
              have h32 : h ≤ 4294967295 := by omega
              have l32 : l ≤ 4294967295 := by omega
              have e1 : (n : Int) / 4294967296 = (h : Int) := by omega
              have e2 : Go.bits .and .u64 (n : Int) 4294967295 = (l : Int) := by rw [← hl]; exact mask_is n 4294967295 32 (by omega) (by omega) rfl
              have k2 := add_zero h (by omega)
              have k3 := mul_nat h 4294967296 0 _ rfl (by omega) (by omega) (by omega)
              have k4 := add_nat (h * 4294967296 + 0) l (tx (n : Int)) (by congr 2; omega) (by omega) (by omega)
              have hne : (tx (n : Int)).toList.isEmpty = false := by
                rw [ByteArray.toList_eq, tx_list]
                have := M.txt_ne (n : Int)
                simpa using this
              have hne2 : ((tx (n : Int)).toList == []) = false := by
                rw [ByteArray.toList_eq, tx_list]
                have := M.txt_ne (n : Int)
                simpa using this
              generalize tx ((h * 4294967296 + 0 : Nat) : Int) = H2 at *
              generalize tx (h : Int) = H at *
              generalize tx (n : Int) = A at *
              clear hh hl B1 hB2 hB8
              have B1 := hB16
              have T1 := ht.next B1
              clear hB16
              go_wp2_with fail
              refine (kk2 _).mono ?_
              rintro r w2 ⟨rfl, hb2⟩
              have B2 : Below w.heap.size w w2 := B1.trans (hb2.mono B1.size)
              have T2 := ht.next B2
              clear hb2 B1 T1
              go_wp2_with fail
              refine (k2 _ T2).mono ?_
              rintro r w3 ⟨rfl, hb3⟩
              have B3 : Below w.heap.size w w3 := B2.trans (hb3.mono B2.size)
              have T3 := ht.next B3
              clear hb3 B2 T2
              go_wp2_with fail
              refine (k3 _).mono ?_
              rintro r w4 ⟨rfl, hb4⟩
              have B4 : Below w.heap.size w w4 := B3.trans (hb4.mono B3.size)
              have T4 := ht.next B4
              clear hb4 B3 T3
              go_wp2_with fail
              refine (k4 _ T4).mono ?_
              rintro r w5 ⟨rfl, hb5⟩
              have B5 : Below w.heap.size w w5 := B4.trans (hb5.mono B4.size)
              have T5 := ht.next B5
              clear hb5 B4 T4
              go_wp2_with fail
              refine (kk8 _).mono ?_
              rintro r w6 ⟨rfl, hb6⟩
              have B6 : Below w.heap.size w w6 := B5.trans (hb6.mono B5.size)
              have T6 := ht.next B6
              clear hb6 B5 T5
              go_wp2_with fail
              refine (kk16 _).mono ?_
              rintro r w7 ⟨rfl, hb7⟩
              have B7 : Below w.heap.size w w7 := B6.trans (hb7.mono B6.size)
              have T7 := ht.next B7
              clear hb7 B6 T6
              go_wp2
              go_ret
              exact ⟨ret_bool (by simp), B7⟩
end Go.Proofs.YtplplpecafjacaaDoor
