/- Walks of the document's answers (targumref1): IsScalar, Next, Well. -/
import Derived.Test.YthbmppkngaifmaaK
namespace Go.Proofs.Ythbmppkngaifmaa
open Go.RowKit

def scB (c : Int) : Bool := decide (0 ≤ c ∧ c ≤ 1114111 ∧ (c < 55296 ∨ 57343 < c))
set_option maxHeartbeats 400000 in
theorem isScalar_any (c : Int) (w : World) : Calls Try.prog 26 #[.int .i64 c] w fun r w' => r = .returned (.bool (scB c)) ∧ w = w' := by
  by_cases h0 : 0 ≤ c
  · have d0 : decide (0 ≤ c) = true := by simpa using h0
    by_cases h1 : c ≤ 1114111
    · have d1 : decide (c ≤ 1114111) = true := by simpa using h1
      by_cases h2 : c < 55296
      · have d2 : decide (c < 55296) = true := by simpa using h2
        rw [show scB c = true by unfold scB; simp; omega]
        clear h0 h1 h2
        go_enter Try.func26, Try.ntmps26
        go_wp2
        go_ret
        exact ⟨rfl, rfl⟩
      · have d2 : decide (c < 55296) = false := by simpa using h2
        by_cases h3 : 57343 < c
        · have d3 : decide (57343 < c) = true := by simpa using h3
          rw [show scB c = true by unfold scB; simp; omega]
          clear h0 h1 h2 h3
          go_enter Try.func26, Try.ntmps26
          go_wp2
          go_ret
          exact ⟨rfl, rfl⟩
        · have d3 : decide (57343 < c) = false := by simpa using h3
          rw [show scB c = false by unfold scB; simp; omega]
          clear h0 h1 h2 h3
          go_enter Try.func26, Try.ntmps26
          go_wp2
          go_ret
          exact ⟨rfl, rfl⟩
    · have d1 : decide (c ≤ 1114111) = false := by simpa using h1
      rw [show scB c = false by unfold scB; simp; omega]
      clear h0 h1
      go_enter Try.func26, Try.ntmps26
      go_wp2
      go_ret
      exact ⟨rfl, rfl⟩
  · have d0 : decide (0 ≤ c) = false := by simpa using h0
    rw [show scB c = false by unfold scB; simp; omega]
    clear h0
    go_enter Try.func26, Try.ntmps26
    go_wp2
    go_ret
    exact ⟨rfl, rfl⟩

theorem getB (s : ByteArray) (j : Nat) (h : j < s.size) : (s[j]'h).toNat = M.by8 s.data.toList j := by
  have h2 : j < s.data.toList.length := by rw [← sz_list]; exact h
  have : s.data.toList[j] = s[j]'h := by cases s; simp [ByteArray.getElem_eq_getElem_data]
  rw [← this]
  unfold M.by8
  rw [List.getD_eq_getElem?_getD, List.getElem?_eq_getElem h2, Option.getD_some]

/-- What the reader of the document has gathered behind m further bytes. -/
def acc (L : List UInt8) (i : Nat) (c0 : Int) : Nat → Int
  | 0 => c0
  | m + 1 => acc L i c0 m * 64 + (M.by8 L (i + (m + 1)) : Nat) - 128
def contB (L : List UInt8) (j : Nat) : Bool := decide (128 ≤ M.by8 L j ∧ M.by8 L j < 192)
def allC (L : List UInt8) (i n : Nat) : Bool := (List.range (n - 1)).all fun j => contB L (i + (j + 1))
def refN (L : List UInt8) (i n : Nat) (least c0 : Int) : Int × Int :=
  if n ≤ L.length - i ∧ allC L i n = true ∧ least ≤ acc L i c0 (n - 1) ∧ scB (acc L i c0 (n - 1)) = true then (acc L i c0 (n - 1), n) else (0, 0)
theorem refN_short {L : List UInt8} {i n : Nat} {least c0 : Int} (h : ¬ n ≤ L.length - i) : refN L i n least c0 = (0, 0) := by unfold refN; rw [if_neg (fun k => h k.1)]
theorem refN_bad {L : List UInt8} {i n : Nat} {least c0 : Int} {j : Nat} (hj : j + 1 < n) (h : contB L (i + (j + 1)) = false) : refN L i n least c0 = (0, 0) := by
  unfold refN
  rw [if_neg]
  rintro ⟨_, k, _⟩
  unfold allC at k
  rw [List.all_eq_true] at k
  have := k j (by simp; omega)
  rw [h] at this; cases this
theorem allC_of {L : List UInt8} {i n : Nat} (h : ∀ j, j + 1 < n → contB L (i + (j + 1)) = true) : allC L i n = true := by
  unfold allC
  rw [List.all_eq_true]
  intro j hj
  exact h j (by simp at hj; omega)
theorem acc_bd {L : List UInt8} {i n : Nat} {c0 : Int} (h0 : 0 ≤ c0) (h1 : c0 < 32) (m : Nat) (hm : m < n) (hc : ∀ j, j < m → contB L (i + (j + 1)) = true) : 0 ≤ acc L i c0 m ∧ acc L i c0 m + 1 ≤ 32 * 64 ^ m := by
  induction m with
  | zero => simp [acc]; omega
  | succ m ih =>
    have h := ih (by omega) (fun j hj => hc j (by omega))
    have k := hc m (by omega)
    unfold contB at k
    simp at k
    rw [acc, Int.pow_succ]
    omega


set_option maxRecDepth 100000 in
set_option maxHeartbeats 4000000 in
theorem next_2 (s : ByteArray) (i : Nat) (w : World) (hi : i < s.size) (hs : s.size ≤ 100000) (k1 : 192 ≤ M.by8 s.data.toList i) (k2 : M.by8 s.data.toList i < 224) :
    Calls Try.prog 23 #[.string s, .int .i64 i] w fun r w' => r = .returned (.tuple #[.int .i64 (refN s.data.toList i 2 128 ((M.by8 s.data.toList i : Nat) - 192)).1, .int .i64 (refN s.data.toList i 2 128 ((M.by8 s.data.toList i : Nat) - 192)).2]) ∧ w = w' := by
  have g0 := getB s i hi
  obtain ⟨C0, hC0⟩ : ∃ C0 : Int, (s[i].toNat : Int) - 192 = C0 := ⟨_, rfl⟩
  have hcb : 0 ≤ C0 ∧ C0 < 32 := by omega
  rw [show ((M.by8 s.data.toList i : Nat) : Int) - 192 = C0 by omega]
  obtain ⟨R, hR⟩ : ∃ R, refN s.data.toList i 2 128 C0 = R := ⟨_, rfl⟩
  rw [hR]
  have HR := Lib.hid hR
  clear hR
  have hLl : s.size = s.data.toList.length := sz_list s
  obtain ⟨L, hL⟩ : ∃ L, s.data.toList = L := ⟨_, rfl⟩
  rw [hL] at HR hLl k1 k2 g0
  have i0 : decide ((i : Int) < 0) = false := by simp
  have i1 : decide (s.size ≤ i) = false := by simp; omega
  have d0 : decide ((s[i].toNat : Int) < 128) = false := by simp; omega
  have e1 : decide ((192 : Int) ≤ (s[i].toNat : Int)) = true := by simp; omega
  have e2 : decide ((s[i].toNat : Int) < 224) = true := by simp; omega
  have HL := Lib.hid hL
  have HLl := Lib.hid hLl
  clear hL hLl k1 k2 g0
  go_enter Try.func23, Try.ntmps23
  go_wp2
  go_loop [6, 9] (fun c k => ∃ m : Nat, m + 1 ≤ 2 ∧ k = .int .i64 (m + 1 : Nat) ∧ c = .int .i64 (acc L i C0 m) ∧ (∀ j, j < m → contB L (i + (j + 1)) = true ∧ 2 ≤ s.size - i)) (fun _ k => 2 - (intOf k).toNat)
  case atStart => exact ⟨0, by omega, rfl, by rw [← hC0]; rfl, fun j hj => absurd hj (by omega)⟩
  case round =>
    obtain ⟨m, hm, rfl, rfl, hc⟩ := hrel
    have hab := acc_bd (n := 2) hcb.1 hcb.2 m (by omega) (fun j hj => (hc j hj).1)
    have hp : (64 : Int) ^ m ≤ 262144 := by
      have : m = 0 ∨ m = 1 ∨ m = 2 ∨ m = 3 := by omega
      rcases this with rfl | rfl | rfl | rfl <;> decide
    have HC := Lib.hid hc
    have hA0 : 0 ≤ acc L i C0 m := hab.1
    have hA1 : acc L i C0 m ≤ 8388607 := by omega
    have HS := Lib.hid (show acc L i C0 (m + 1) = acc L i C0 m * 64 + (M.by8 L (i + (m + 1)) : Nat) - 128 from rfl)
    clear hc hab hp hC0
    by_cases hmN : m + 1 < 2
    · have hmd : decide (m + 1 < 2) = true := by simpa using hmN
      have hmz : decide (((m : Int) + 1) < 2) = true := by simp; omega
      by_cases hsh : 2 ≤ s.size - i
      · have hd : decide ((s.size : Int) - (i : Int) < 2) = false := by simp; omega
        have hj : i + (m + 1) < s.size := by omega
        have gj := getB s (i + (m + 1)) hj
        rw [HL.out] at gj
        have hjlt : (s[i + (m + 1)].toNat : Int) < 256 := by have := s[i + (m + 1)].toNat_lt; omega
        by_cases b1 : M.by8 L (i + (m + 1)) < 128
        · have hfin := refN_bad (L := L) (i := i) (n := 2) (least := 128) (c0 := C0) (j := m) hmN (by unfold contB; simp; omega)
          rw [HR.out] at hfin
          have HF := Lib.hid hfin
          have db : decide ((s[i + (m + 1)].toNat : Int) < 128) = true := by simp; omega
          clear gj b1 hfin
          go_wp2
          go_ret2
          exact ⟨ret_int2 (show (0 : Int) = R.1 by rw [HF.out]) (show (0 : Int) = R.2 by rw [HF.out]), rfl⟩
        · have db : decide ((s[i + (m + 1)].toNat : Int) < 128) = false := by simp; omega
          by_cases b2 : 192 ≤ M.by8 L (i + (m + 1))
          · have hfin := refN_bad (L := L) (i := i) (n := 2) (least := 128) (c0 := C0) (j := m) hmN (by unfold contB; simp; omega)
            rw [HR.out] at hfin
            have HF := Lib.hid hfin
            have db2 : decide ((192 : Int) ≤ (s[i + (m + 1)].toNat : Int)) = true := by simp; omega
            clear gj b1 b2 hfin
            go_wp2
            go_ret2
            exact ⟨ret_int2 (show (0 : Int) = R.1 by rw [HF.out]) (show (0 : Int) = R.2 by rw [HF.out]), rfl⟩
          · have db2 : decide ((192 : Int) ≤ (s[i + (m + 1)].toNat : Int)) = false := by simp; omega
            have hcm : contB L (i + (m + 1)) = true := by unfold contB; simp; omega
            have GJ := Lib.hid gj
            have HCM := Lib.hid hcm
            clear gj b1 b2 hcm
            go_wp2
            go_round
            case rel => exact ⟨m + 1, by omega, by go_num, by rw [HS.out, ← GJ.out], fun j hj => by
              rcases Nat.lt_or_ge j m with h | h
              · exact HC.out j h
              · obtain rfl : j = m := by omega
                exact ⟨HCM.out, hsh⟩⟩
            case measure => simp [intOf]; omega
      · have hd : decide ((s.size : Int) - (i : Int) < 2) = true := by simp; omega
        have hfin := refN_short (L := L) (i := i) (n := 2) (least := 128) (c0 := C0) (by rw [← HLl.out]; exact hsh)
        rw [HR.out] at hfin
        have HF := Lib.hid hfin
        clear hfin hsh
        go_wp2
        go_ret2
        exact ⟨ret_int2 (show (0 : Int) = R.1 by rw [HF.out]) (show (0 : Int) = R.2 by rw [HF.out]), rfl⟩
    · obtain rfl : m = 2 - 1 := by omega
      have hmd : decide ((2 : Nat) - 1 + 1 < 2) = false := by decide
      have hall : allC L i 2 = true := allC_of (fun j hj => (HC.out j (by omega)).1)
      have hlen : 2 ≤ L.length - i := by rw [← HLl.out]; exact (HC.out 0 (by omega)).2
      have hfin : R = if 128 ≤ acc L i C0 (2 - 1) ∧ scB (acc L i C0 (2 - 1)) = true then (acc L i C0 (2 - 1), (2 : Int)) else (0, 0) := by
        rw [← HR.out]; unfold refN
        simp only [hlen, hall, true_and]; rfl
      clear hall hlen HS
      have HF := Lib.hid hfin
      clear hfin
      simp only [show (2 : Nat) - 1 + 1 = 2 from rfl, show (2 : Nat) - 1 = 1 from rfl] at *
      generalize hAe : acc L i C0 1 = A at *
      by_cases a1 : A < 128
      · have da : decide (A < 128) = true := by simpa using a1
        have hfin : R = (0, 0) := by rw [HF.out, if_neg (by omega)]
        have HF2 := Lib.hid hfin
        clear hfin a1
        go_wp2
        go_ret2
        exact ⟨ret_int2 (show (0 : Int) = R.1 by rw [HF2.out]) (show (0 : Int) = R.2 by rw [HF2.out]), rfl⟩
      · have da : decide (A < 128) = false := by simpa using a1
        have cS := isScalar_any A w
        cases hsc : scB A with
        | true =>
          rw [hsc] at cS
          have hfin : R = (A, (2 : Int)) := by rw [HF.out, if_pos ⟨by omega, hsc⟩]
          have HF2 := Lib.hid hfin
          clear hfin a1 hsc
          go_wp2_with (go_at_call 26; refine cS.mono ?_; rintro r w' ⟨rfl, rfl⟩)
          go_ret2
          exact ⟨ret_int2 (show A = R.1 by rw [HF2.out]) (show (2 : Int) = R.2 by rw [HF2.out]), rfl⟩
        | false =>
          rw [hsc] at cS
          have hfin : R = (0, 0) := by rw [HF.out, if_neg (by rw [hsc]; simp)]
          have HF2 := Lib.hid hfin
          clear hfin a1 hsc
          go_wp2_with (go_at_call 26; refine cS.mono ?_; rintro r w' ⟨rfl, rfl⟩)
          go_ret2
          exact ⟨ret_int2 (show (0 : Int) = R.1 by rw [HF2.out]) (show (0 : Int) = R.2 by rw [HF2.out]), rfl⟩

set_option maxRecDepth 100000 in
set_option maxHeartbeats 4000000 in
theorem next_3 (s : ByteArray) (i : Nat) (w : World) (hi : i < s.size) (hs : s.size ≤ 100000) (k1 : 224 ≤ M.by8 s.data.toList i) (k2 : M.by8 s.data.toList i < 240) :
    Calls Try.prog 23 #[.string s, .int .i64 i] w fun r w' => r = .returned (.tuple #[.int .i64 (refN s.data.toList i 3 2048 ((M.by8 s.data.toList i : Nat) - 224)).1, .int .i64 (refN s.data.toList i 3 2048 ((M.by8 s.data.toList i : Nat) - 224)).2]) ∧ w = w' := by
  have g0 := getB s i hi
  obtain ⟨C0, hC0⟩ : ∃ C0 : Int, (s[i].toNat : Int) - 224 = C0 := ⟨_, rfl⟩
  have hcb : 0 ≤ C0 ∧ C0 < 32 := by omega
  rw [show ((M.by8 s.data.toList i : Nat) : Int) - 224 = C0 by omega]
  obtain ⟨R, hR⟩ : ∃ R, refN s.data.toList i 3 2048 C0 = R := ⟨_, rfl⟩
  rw [hR]
  have HR := Lib.hid hR
  clear hR
  have hLl : s.size = s.data.toList.length := sz_list s
  obtain ⟨L, hL⟩ : ∃ L, s.data.toList = L := ⟨_, rfl⟩
  rw [hL] at HR hLl k1 k2 g0
  have i0 : decide ((i : Int) < 0) = false := by simp
  have i1 : decide (s.size ≤ i) = false := by simp; omega
  have d0 : decide ((s[i].toNat : Int) < 128) = false := by simp; omega
  have e1 : decide ((192 : Int) ≤ (s[i].toNat : Int)) = true := by simp; omega
  have e2 : decide ((s[i].toNat : Int) < 224) = false := by simp; omega
  have e3 : decide ((224 : Int) ≤ (s[i].toNat : Int)) = true := by simp; omega
  have e4 : decide ((s[i].toNat : Int) < 240) = true := by simp; omega
  have HL := Lib.hid hL
  have HLl := Lib.hid hLl
  clear hL hLl k1 k2 g0
  go_enter Try.func23, Try.ntmps23
  go_wp2
  go_loop [6, 9] (fun c k => ∃ m : Nat, m + 1 ≤ 3 ∧ k = .int .i64 (m + 1 : Nat) ∧ c = .int .i64 (acc L i C0 m) ∧ (∀ j, j < m → contB L (i + (j + 1)) = true ∧ 3 ≤ s.size - i)) (fun _ k => 3 - (intOf k).toNat)
  case atStart => exact ⟨0, by omega, rfl, by rw [← hC0]; rfl, fun j hj => absurd hj (by omega)⟩
  case round =>
    obtain ⟨m, hm, rfl, rfl, hc⟩ := hrel
    have hab := acc_bd (n := 3) hcb.1 hcb.2 m (by omega) (fun j hj => (hc j hj).1)
    have hp : (64 : Int) ^ m ≤ 262144 := by
      have : m = 0 ∨ m = 1 ∨ m = 2 ∨ m = 3 := by omega
      rcases this with rfl | rfl | rfl | rfl <;> decide
    have HC := Lib.hid hc
    have hA0 : 0 ≤ acc L i C0 m := hab.1
    have hA1 : acc L i C0 m ≤ 8388607 := by omega
    have HS := Lib.hid (show acc L i C0 (m + 1) = acc L i C0 m * 64 + (M.by8 L (i + (m + 1)) : Nat) - 128 from rfl)
    clear hc hab hp hC0
    by_cases hmN : m + 1 < 3
    · have hmd : decide (m + 1 < 3) = true := by simpa using hmN
      have hmz : decide (((m : Int) + 1) < 3) = true := by simp; omega
      by_cases hsh : 3 ≤ s.size - i
      · have hd : decide ((s.size : Int) - (i : Int) < 3) = false := by simp; omega
        have hj : i + (m + 1) < s.size := by omega
        have gj := getB s (i + (m + 1)) hj
        rw [HL.out] at gj
        have hjlt : (s[i + (m + 1)].toNat : Int) < 256 := by have := s[i + (m + 1)].toNat_lt; omega
        by_cases b1 : M.by8 L (i + (m + 1)) < 128
        · have hfin := refN_bad (L := L) (i := i) (n := 3) (least := 2048) (c0 := C0) (j := m) hmN (by unfold contB; simp; omega)
          rw [HR.out] at hfin
          have HF := Lib.hid hfin
          have db : decide ((s[i + (m + 1)].toNat : Int) < 128) = true := by simp; omega
          clear gj b1 hfin
          go_wp2
          go_ret2
          exact ⟨ret_int2 (show (0 : Int) = R.1 by rw [HF.out]) (show (0 : Int) = R.2 by rw [HF.out]), rfl⟩
        · have db : decide ((s[i + (m + 1)].toNat : Int) < 128) = false := by simp; omega
          by_cases b2 : 192 ≤ M.by8 L (i + (m + 1))
          · have hfin := refN_bad (L := L) (i := i) (n := 3) (least := 2048) (c0 := C0) (j := m) hmN (by unfold contB; simp; omega)
            rw [HR.out] at hfin
            have HF := Lib.hid hfin
            have db2 : decide ((192 : Int) ≤ (s[i + (m + 1)].toNat : Int)) = true := by simp; omega
            clear gj b1 b2 hfin
            go_wp2
            go_ret2
            exact ⟨ret_int2 (show (0 : Int) = R.1 by rw [HF.out]) (show (0 : Int) = R.2 by rw [HF.out]), rfl⟩
          · have db2 : decide ((192 : Int) ≤ (s[i + (m + 1)].toNat : Int)) = false := by simp; omega
            have hcm : contB L (i + (m + 1)) = true := by unfold contB; simp; omega
            have GJ := Lib.hid gj
            have HCM := Lib.hid hcm
            clear gj b1 b2 hcm
            go_wp2
            go_round
            case rel => exact ⟨m + 1, by omega, by go_num, by rw [HS.out, ← GJ.out], fun j hj => by
              rcases Nat.lt_or_ge j m with h | h
              · exact HC.out j h
              · obtain rfl : j = m := by omega
                exact ⟨HCM.out, hsh⟩⟩
            case measure => simp [intOf]; omega
      · have hd : decide ((s.size : Int) - (i : Int) < 3) = true := by simp; omega
        have hfin := refN_short (L := L) (i := i) (n := 3) (least := 2048) (c0 := C0) (by rw [← HLl.out]; exact hsh)
        rw [HR.out] at hfin
        have HF := Lib.hid hfin
        clear hfin hsh
        go_wp2
        go_ret2
        exact ⟨ret_int2 (show (0 : Int) = R.1 by rw [HF.out]) (show (0 : Int) = R.2 by rw [HF.out]), rfl⟩
    · obtain rfl : m = 3 - 1 := by omega
      have hmd : decide ((3 : Nat) - 1 + 1 < 3) = false := by decide
      have hall : allC L i 3 = true := allC_of (fun j hj => (HC.out j (by omega)).1)
      have hlen : 3 ≤ L.length - i := by rw [← HLl.out]; exact (HC.out 0 (by omega)).2
      have hfin : R = if 2048 ≤ acc L i C0 (3 - 1) ∧ scB (acc L i C0 (3 - 1)) = true then (acc L i C0 (3 - 1), (3 : Int)) else (0, 0) := by
        rw [← HR.out]; unfold refN
        simp only [hlen, hall, true_and]; rfl
      clear hall hlen HS
      have HF := Lib.hid hfin
      clear hfin
      simp only [show (3 : Nat) - 1 + 1 = 3 from rfl, show (3 : Nat) - 1 = 2 from rfl] at *
      generalize hAe : acc L i C0 2 = A at *
      by_cases a1 : A < 2048
      · have da : decide (A < 2048) = true := by simpa using a1
        have hfin : R = (0, 0) := by rw [HF.out, if_neg (by omega)]
        have HF2 := Lib.hid hfin
        clear hfin a1
        go_wp2
        go_ret2
        exact ⟨ret_int2 (show (0 : Int) = R.1 by rw [HF2.out]) (show (0 : Int) = R.2 by rw [HF2.out]), rfl⟩
      · have da : decide (A < 2048) = false := by simpa using a1
        have cS := isScalar_any A w
        cases hsc : scB A with
        | true =>
          rw [hsc] at cS
          have hfin : R = (A, (3 : Int)) := by rw [HF.out, if_pos ⟨by omega, hsc⟩]
          have HF2 := Lib.hid hfin
          clear hfin a1 hsc
          go_wp2_with (go_at_call 26; refine cS.mono ?_; rintro r w' ⟨rfl, rfl⟩)
          go_ret2
          exact ⟨ret_int2 (show A = R.1 by rw [HF2.out]) (show (3 : Int) = R.2 by rw [HF2.out]), rfl⟩
        | false =>
          rw [hsc] at cS
          have hfin : R = (0, 0) := by rw [HF.out, if_neg (by rw [hsc]; simp)]
          have HF2 := Lib.hid hfin
          clear hfin a1 hsc
          go_wp2_with (go_at_call 26; refine cS.mono ?_; rintro r w' ⟨rfl, rfl⟩)
          go_ret2
          exact ⟨ret_int2 (show (0 : Int) = R.1 by rw [HF2.out]) (show (0 : Int) = R.2 by rw [HF2.out]), rfl⟩

set_option maxRecDepth 100000 in
set_option maxHeartbeats 4000000 in
theorem next_4 (s : ByteArray) (i : Nat) (w : World) (hi : i < s.size) (hs : s.size ≤ 100000) (k1 : 240 ≤ M.by8 s.data.toList i) (k2 : M.by8 s.data.toList i < 248) :
    Calls Try.prog 23 #[.string s, .int .i64 i] w fun r w' => r = .returned (.tuple #[.int .i64 (refN s.data.toList i 4 65536 ((M.by8 s.data.toList i : Nat) - 240)).1, .int .i64 (refN s.data.toList i 4 65536 ((M.by8 s.data.toList i : Nat) - 240)).2]) ∧ w = w' := by
  have g0 := getB s i hi
  obtain ⟨C0, hC0⟩ : ∃ C0 : Int, (s[i].toNat : Int) - 240 = C0 := ⟨_, rfl⟩
  have hcb : 0 ≤ C0 ∧ C0 < 32 := by omega
  rw [show ((M.by8 s.data.toList i : Nat) : Int) - 240 = C0 by omega]
  obtain ⟨R, hR⟩ : ∃ R, refN s.data.toList i 4 65536 C0 = R := ⟨_, rfl⟩
  rw [hR]
  have HR := Lib.hid hR
  clear hR
  have hLl : s.size = s.data.toList.length := sz_list s
  obtain ⟨L, hL⟩ : ∃ L, s.data.toList = L := ⟨_, rfl⟩
  rw [hL] at HR hLl k1 k2 g0
  have i0 : decide ((i : Int) < 0) = false := by simp
  have i1 : decide (s.size ≤ i) = false := by simp; omega
  have d0 : decide ((s[i].toNat : Int) < 128) = false := by simp; omega
  have e1 : decide ((192 : Int) ≤ (s[i].toNat : Int)) = true := by simp; omega
  have e2 : decide ((s[i].toNat : Int) < 224) = false := by simp; omega
  have e3 : decide ((224 : Int) ≤ (s[i].toNat : Int)) = true := by simp; omega
  have e4 : decide ((s[i].toNat : Int) < 240) = false := by simp; omega
  have e5 : decide ((240 : Int) ≤ (s[i].toNat : Int)) = true := by simp; omega
  have e6 : decide ((s[i].toNat : Int) < 248) = true := by simp; omega
  have HL := Lib.hid hL
  have HLl := Lib.hid hLl
  clear hL hLl k1 k2 g0
  go_enter Try.func23, Try.ntmps23
  go_wp2
  go_loop [6, 9] (fun c k => ∃ m : Nat, m + 1 ≤ 4 ∧ k = .int .i64 (m + 1 : Nat) ∧ c = .int .i64 (acc L i C0 m) ∧ (∀ j, j < m → contB L (i + (j + 1)) = true ∧ 4 ≤ s.size - i)) (fun _ k => 4 - (intOf k).toNat)
  case atStart => exact ⟨0, by omega, rfl, by rw [← hC0]; rfl, fun j hj => absurd hj (by omega)⟩
  case round =>
    obtain ⟨m, hm, rfl, rfl, hc⟩ := hrel
    have hab := acc_bd (n := 4) hcb.1 hcb.2 m (by omega) (fun j hj => (hc j hj).1)
    have hp : (64 : Int) ^ m ≤ 262144 := by
      have : m = 0 ∨ m = 1 ∨ m = 2 ∨ m = 3 := by omega
      rcases this with rfl | rfl | rfl | rfl <;> decide
    have HC := Lib.hid hc
    have hA0 : 0 ≤ acc L i C0 m := hab.1
    have hA1 : acc L i C0 m ≤ 8388607 := by omega
    have HS := Lib.hid (show acc L i C0 (m + 1) = acc L i C0 m * 64 + (M.by8 L (i + (m + 1)) : Nat) - 128 from rfl)
    clear hc hab hp hC0
    by_cases hmN : m + 1 < 4
    · have hmd : decide (m + 1 < 4) = true := by simpa using hmN
      have hmz : decide (((m : Int) + 1) < 4) = true := by simp; omega
      by_cases hsh : 4 ≤ s.size - i
      · have hd : decide ((s.size : Int) - (i : Int) < 4) = false := by simp; omega
        have hj : i + (m + 1) < s.size := by omega
        have gj := getB s (i + (m + 1)) hj
        rw [HL.out] at gj
        have hjlt : (s[i + (m + 1)].toNat : Int) < 256 := by have := s[i + (m + 1)].toNat_lt; omega
        by_cases b1 : M.by8 L (i + (m + 1)) < 128
        · have hfin := refN_bad (L := L) (i := i) (n := 4) (least := 65536) (c0 := C0) (j := m) hmN (by unfold contB; simp; omega)
          rw [HR.out] at hfin
          have HF := Lib.hid hfin
          have db : decide ((s[i + (m + 1)].toNat : Int) < 128) = true := by simp; omega
          clear gj b1 hfin
          go_wp2
          go_ret2
          exact ⟨ret_int2 (show (0 : Int) = R.1 by rw [HF.out]) (show (0 : Int) = R.2 by rw [HF.out]), rfl⟩
        · have db : decide ((s[i + (m + 1)].toNat : Int) < 128) = false := by simp; omega
          by_cases b2 : 192 ≤ M.by8 L (i + (m + 1))
          · have hfin := refN_bad (L := L) (i := i) (n := 4) (least := 65536) (c0 := C0) (j := m) hmN (by unfold contB; simp; omega)
            rw [HR.out] at hfin
            have HF := Lib.hid hfin
            have db2 : decide ((192 : Int) ≤ (s[i + (m + 1)].toNat : Int)) = true := by simp; omega
            clear gj b1 b2 hfin
            go_wp2
            go_ret2
            exact ⟨ret_int2 (show (0 : Int) = R.1 by rw [HF.out]) (show (0 : Int) = R.2 by rw [HF.out]), rfl⟩
          · have db2 : decide ((192 : Int) ≤ (s[i + (m + 1)].toNat : Int)) = false := by simp; omega
            have hcm : contB L (i + (m + 1)) = true := by unfold contB; simp; omega
            have GJ := Lib.hid gj
            have HCM := Lib.hid hcm
            clear gj b1 b2 hcm
            go_wp2
            go_round
            case rel => exact ⟨m + 1, by omega, by go_num, by rw [HS.out, ← GJ.out], fun j hj => by
              rcases Nat.lt_or_ge j m with h | h
              · exact HC.out j h
              · obtain rfl : j = m := by omega
                exact ⟨HCM.out, hsh⟩⟩
            case measure => simp [intOf]; omega
      · have hd : decide ((s.size : Int) - (i : Int) < 4) = true := by simp; omega
        have hfin := refN_short (L := L) (i := i) (n := 4) (least := 65536) (c0 := C0) (by rw [← HLl.out]; exact hsh)
        rw [HR.out] at hfin
        have HF := Lib.hid hfin
        clear hfin hsh
        go_wp2
        go_ret2
        exact ⟨ret_int2 (show (0 : Int) = R.1 by rw [HF.out]) (show (0 : Int) = R.2 by rw [HF.out]), rfl⟩
    · obtain rfl : m = 4 - 1 := by omega
      have hmd : decide ((4 : Nat) - 1 + 1 < 4) = false := by decide
      have hall : allC L i 4 = true := allC_of (fun j hj => (HC.out j (by omega)).1)
      have hlen : 4 ≤ L.length - i := by rw [← HLl.out]; exact (HC.out 0 (by omega)).2
      have hfin : R = if 65536 ≤ acc L i C0 (4 - 1) ∧ scB (acc L i C0 (4 - 1)) = true then (acc L i C0 (4 - 1), (4 : Int)) else (0, 0) := by
        rw [← HR.out]; unfold refN
        simp only [hlen, hall, true_and]; rfl
      clear hall hlen HS
      have HF := Lib.hid hfin
      clear hfin
      simp only [show (4 : Nat) - 1 + 1 = 4 from rfl, show (4 : Nat) - 1 = 3 from rfl] at *
      generalize hAe : acc L i C0 3 = A at *
      by_cases a1 : A < 65536
      · have da : decide (A < 65536) = true := by simpa using a1
        have hfin : R = (0, 0) := by rw [HF.out, if_neg (by omega)]
        have HF2 := Lib.hid hfin
        clear hfin a1
        go_wp2
        go_ret2
        exact ⟨ret_int2 (show (0 : Int) = R.1 by rw [HF2.out]) (show (0 : Int) = R.2 by rw [HF2.out]), rfl⟩
      · have da : decide (A < 65536) = false := by simpa using a1
        have cS := isScalar_any A w
        cases hsc : scB A with
        | true =>
          rw [hsc] at cS
          have hfin : R = (A, (4 : Int)) := by rw [HF.out, if_pos ⟨by omega, hsc⟩]
          have HF2 := Lib.hid hfin
          clear hfin a1 hsc
          go_wp2_with (go_at_call 26; refine cS.mono ?_; rintro r w' ⟨rfl, rfl⟩)
          go_ret2
          exact ⟨ret_int2 (show A = R.1 by rw [HF2.out]) (show (4 : Int) = R.2 by rw [HF2.out]), rfl⟩
        | false =>
          rw [hsc] at cS
          have hfin : R = (0, 0) := by rw [HF.out, if_neg (by rw [hsc]; simp)]
          have HF2 := Lib.hid hfin
          clear hfin a1 hsc
          go_wp2_with (go_at_call 26; refine cS.mono ?_; rintro r w' ⟨rfl, rfl⟩)
          go_ret2
          exact ⟨ret_int2 (show (0 : Int) = R.1 by rw [HF2.out]) (show (0 : Int) = R.2 by rw [HF2.out]), rfl⟩

end Go.Proofs.Ythbmppkngaifmaa
