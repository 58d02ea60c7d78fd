/- Walks: targumref4's Text, targumlaw10's two, known. -/
import Derived.Test.YtoidlgopibnaaaaDoorWk
set_option linter.unusedVariables false
namespace Go.Proofs.YtoidlgopibnaaaaDoor
open Go.RowKit

theorem one_conv (w : World) (z : Int) (c : UInt8) (h : (c.toNat : Int) = z) :
    (convert 22 9 (.slice (some ⟨w.heap.size, 0, none⟩) 1 1)).run Tryd.prog (w.alloc (.cells #[.int .u8 z] 5)) = .ok (.string (bA [c])) (w.alloc (.cells #[.int .u8 z] 5)) := by
  refine run_convert_bytes_back _ 22 9 5 ⟨w.heap.size, 0, none⟩ 1 [c] Tryd.underlying22 Tryd.underlying5 Tryd.underlying9 ?_
  intro j hj
  obtain rfl : j = 0 := by simp at hj; omega
  subst h
  simp [Addr.add]
def dg1 (c : Nat) : UInt8 := UInt8.ofNat (48 + c % 10)
theorem dig_cast (p : Nat) : ((dg1 p).toNat : Int) = 48 + (p : Int) % 10 := by
  have : (UInt8.ofNat (48 + p % 10)).toNat = 48 + p % 10 := by simp; omega
  unfold dg1; rw [this]; omega
theorem cast_div10 (k : Nat) : ((k / 10 : Nat) : Int) = (k : Int) / 10 := by rw [Int.natCast_ediv]; rfl
theorem dec_small {n : Nat} (h : n < 10) : Lib.decDigits n = [dg1 n] := by rw [Lib.decDigits, dif_pos h]; unfold dg1; rw [Nat.mod_eq_of_lt h]
theorem dec_big {n : Nat} (h : ¬ n < 10) : Lib.decDigits n = Lib.decDigits (n / 10) ++ [dg1 n] := by rw [Lib.decDigits, dif_neg h]; rfl
theorem dec_pos (n : Nat) : 0 < (Lib.decDigits n).length := by
  by_cases h : n < 10
  · rw [dec_small h]; simp
  · rw [dec_big h]; simp
set_option maxRecDepth 100000 in
set_option maxHeartbeats 1000000 in
theorem rtext_any (N : Nat) (w : World) (hN : N ≤ 1000) :
    Calls Tryd.prog 16 #[.int .i64 N] w fun e w' => e = .returned (.string (bA (Lib.decDigits N))) ∧ Below w.heap.size w w' := by
  have hlen : (Lib.decDigits N).length ≤ 13 := by
    by_cases h : N < 10000
    · have := (dec4 h).2; omega
    · omega
  obtain ⟨L, hL⟩ : ∃ L, Lib.decDigits N = L := ⟨_, rfl⟩
  rw [hL] at hlen ⊢
  have HL := Lib.hid hL
  clear hL
  go_enter Tryd.func16, Tryd.ntmps16
  go_wp2
  go_loopw [0, 3] (fun nv sv wr => ∃ (n : Nat) (h : List UInt8) (H : ByteArray), nv = .int .i64 n ∧ sv = .string H ∧ n ≤ 1000 ∧ H.size ≤ 13 ∧ Hid (H = bA h) ∧ Hid (Lib.decDigits n ++ h = L) ∧ Below w.heap.size w wr) (fun nv _ _ => (intOf nv).toNat)
  case atStart => exact ⟨N, [], ⟨#[]⟩, rfl, rfl, hN, by decide, rfl, by show _ = _; rw [List.append_nil]; exact HL.out, Below.refl _ _⟩
  case round =>
    obtain ⟨n, h, H, rfl, rfl, hn, hH, HH, hst, hbw⟩ := hrel
    have hsz := hbw.size
    have k3 := fun W => one_conv W (48 + (n : Int) % 10) (dg1 n) (dig_cast n)
    have hXs : (bA [dg1 n]).size = 1 := bA_size _
    have hXH : bA [dg1 n] ++ H = bA (dg1 n :: h) := by rw [HH.out]; exact bA_append [dg1 n] h
    have HXH := Lib.hid hXH
    have hXz := Lib.hid (append_sz (bA [dg1 n]) H)
    have hHs : H.size = h.length := by rw [HH.out, bA_size]
    have hhl : h.length + 1 ≤ 13 := by
      have := congrArg List.length hst.out
      rw [List.length_append] at this
      have := dec_pos n
      omega
    clear hXH
    generalize bA [dg1 n] = X at *
    by_cases hn10 : n < 10
    · have e0 : (n : Int) / 10 = 0 := by omega
      have hfin : dg1 n :: h = L := by rw [← hst.out, dec_small hn10]; rfl
      rw [hfin] at HXH
      clear hst hfin
      go_wp2
      go_ret
      exact ⟨ret_str HXH.out, hbw.alloc hsz _⟩
    · have e0 : ¬ (n : Int) / 10 = 0 := by omega
      have hdd : ((n : Int) / 10 == 0) = false := by simp; omega
      have hfin : Lib.decDigits (n / 10) ++ dg1 n :: h = L := by rw [← hst.out, dec_big hn10, List.append_assoc]; rfl
      have HF := Lib.hid hfin
      clear hst hfin e0
      go_wp2
      go_roundw
      case rel => exact ⟨n / 10, dg1 n :: h, X ++ H, by rw [cast_div10], rfl, by omega, by rw [hXz.out]; omega, HXH.out, HF.out, hbw.alloc hsz _⟩
      case measure => simp [intOf]; omega
theorem rdig_any (n : Nat) (w : World) (hn : n < 10) : Calls Tryd.prog 16 #[.int .i64 n] w fun e w' => e = .returned (.string (bA [M.dch n])) ∧ Below w.heap.size w w' := by
  have h := rtext_any n w (by omega)
  rw [dec_small hn] at h
  unfold dg1 at h
  rwa [Nat.mod_eq_of_lt hn] at h
/-- The two lowest digits. -/
def e2 (n : Nat) : List UInt8 := [M.dch (n / 10 % 10), M.dch (n % 10)]
theorem e2_small {n : Nat} (h : n < 100) : e2 n = M.d2 n := by unfold e2 M.d2; rw [Nat.mod_eq_of_lt (show n / 10 < 10 by omega)]
theorem e2_year (y : Nat) (h : y < 10000) : e2 (y / 100) ++ e2 y = M.d4 y := by
  rw [e2_small (by omega)]
  unfold M.d4
  congr 1
  unfold e2 M.d2
  rw [show y / 10 % 10 = y % 100 / 10 by omega, show y % 100 % 10 = y % 10 by omega]
set_option maxRecDepth 100000 in
set_option maxHeartbeats 1000000 in
theorem two_any (n : Nat) (w : World) (hn : n ≤ 1000000) : Calls Tryd.prog 15 #[.int .i64 n] w fun e w' => e = .returned (.string (bA (e2 n))) ∧ Below w.heap.size w w' := by
  obtain ⟨a, ha⟩ : ∃ a, n / 10 % 10 = a := ⟨_, rfl⟩
  obtain ⟨b, hb⟩ : ∃ b, n % 10 = b := ⟨_, rfl⟩
  have c1 := fun W => rdig_any a W (by omega)
  have c2 := fun W => rdig_any b W (by omega)
  have f1 : (n : Int) / 10 % 10 = (a : Int) := by omega
  have f2 : (n : Int) % 10 = (b : Int) := by omega
  have hr : bA [M.dch a] ++ bA [M.dch b] = bA (e2 n) := by unfold e2; rw [ha, hb]; exact bA_append _ _
  have HR := Lib.hid hr
  have z1 : (bA [M.dch a]).size = 1 := bA_size _
  have z2 : (bA [M.dch b]).size = 1 := bA_size _
  clear ha hb hr
  generalize bA [M.dch a] = A at *
  generalize bA [M.dch b] = B at *
  have a1 : ∀ W, (Op.stringOp .add A B).run Tryd.prog W = .ok (.string (A ++ B)) W := fun W => run_string_add_sum _ _ _ (by omega)
  go_enter Tryd.func15, Tryd.ntmps15
  go_wp2_with fail
  refine (c1 _).mono ?_
  rintro r w1 ⟨rfl, hb1⟩
  go_wp2_with fail
  refine (c2 _).mono ?_
  rintro r w2 ⟨rfl, hb2⟩
  have HB := Lib.hid (hb1.trans (hb2.mono hb1.size))
  clear hb1 hb2 c1 c2 z1 z2
  go_wp2
  go_ret
  exact ⟨ret_str HR.out, HB.out⟩

theorem kn (l : List UInt8) (R : Value) (h : ofV (M.ofS l) = R) (w : World) (ht : Tab w) (hl : l.length ≤ 1000) : Calls Tryd.prog 10 #[.string (bA l)] w fun e w' => e = .returned R ∧ Below w.heap.size w w' := by
  have := of_any (bA l) w ht (by rw [bA_size]; exact hl)
  rw [bA_toList, h] at this
  exact this
theorem k1 : ofV (M.ofS [50, 48, 48, 49, 45, 49, 45, 49]) = .tuple #[.string ⟨#[]⟩, .bool false] := by
  rw [show M.ofS [50, 48, 48, 49, 45, 49, 45, 49] = none by decide +kernel]; rfl
theorem k2 : ofV (M.ofS [50, 48, 48, 49, 45, 48, 49, 45, 48, 49]) = .tuple #[.string ⟨#[50, 48, 48, 49, 45, 48, 49, 45, 48, 49]⟩, .bool true] := by
  rw [show M.ofS [50, 48, 48, 49, 45, 48, 49, 45, 48, 49] = some [50, 48, 48, 49, 45, 48, 49, 45, 48, 49] by decide +kernel]; rfl
end Go.Proofs.YtoidlgopibnaaaaDoor
