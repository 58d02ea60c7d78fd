/- Walks: bin's Of; targumhelp's Bytes, Within; targumlaw11's known. -/
import Derived.Test.YthhhmmogefpcgaaDoorWi
set_option linter.unusedVariables false
namespace Go.Proofs.YthhhmmogefpcgaaDoor
open Go.RowKit

theorem by_le (L : List UInt8) : (M.by_ L).length ≤ L.length := by
  cases h : M.ok L with
  | false => rw [M.of_no L h]; exact Nat.zero_le _
  | true =>
    have h1 := M.tx_len (M.by_ L)
    rw [M.of_ok L h] at h1
    have h2 := bare_le L
    omega
set_option maxRecDepth 100000 in
set_option maxHeartbeats 1000000 in
theorem of_any (s : ByteArray) (w : World) (ht : Tab w) (hs : s.size ≤ 1000) :
    Calls Tryd.prog 11 #[.string s] w fun e w' => e = .returned (.tuple #[.string (bA (M.TX (M.by_ s.data.toList))), .bool (M.ok s.data.toList)]) ∧ Below w.heap.size w w' := by
  have c1 := bytes_any s w ht (by omega)
  have hle := by_le s.data.toList
  rw [← sz_list] at hle
  generalize M.ok s.data.toList = K at *
  generalize M.by_ s.data.toList = Y at *
  obtain ⟨R, hR⟩ : ∃ R, bA (M.TX Y) = R := ⟨_, rfl⟩
  have HR := Lib.hid hR
  rw [hR]
  clear hR
  have HT := Lib.hid ht
  clear ht
  go_enter Tryd.func11, Tryd.ntmps11
  go_wp2_with fail
  refine c1.mono ?_
  rintro e w1 ⟨a, cap, rfl, hin, hb1⟩
  have c2 := text_any a Y cap w1 (HT.out.next hb1) hin (by omega)
  clear c1 hin
  rw [HR.out] at c2
  go_wp2_with fail
  refine c2.mono ?_
  rintro e w2 ⟨rfl, hb2⟩
  clear c2
  go_wp2
  go_ret2
  exact ⟨rfl, hb1.trans (hb2.mono hb1.size)⟩
set_option maxRecDepth 100000 in
theorem hbytes_any (a b : Option Addr) (l m : List UInt8) (c d : Nat) (w : World) (h : InS w a l c) (k : InS w b m d) :
    Calls Tryd.prog 10 #[.slice a l.length c, .slice b m.length d] w fun e w' => e = .returned (.bool (bA l == bA m)) ∧ w' = w := by
  have h1 := h.conv
  have h2 := k.conv
  clear h k
  generalize bA l = x at *
  generalize bA m = y at *
  go_enter Tryd.func10, Tryd.ntmps10
  go_wp2
  go_ret
  exact ⟨by rw [beq_toListBytes]; rfl, rfl⟩
set_option maxRecDepth 100000 in
set_option maxHeartbeats 1000000 in
theorem within_any (n : Int) (hi : Nat) (w : World) (h0 : -9223372036854775808 ≤ n) (h1 : n ≤ 9223372036854775807) (hh : hi ≤ 1000) :
    Calls Tryd.prog 12 #[.int .i64 n, .int .i64 0, .int .i64 hi] w fun e w' => (∃ k : Nat, k ≤ hi ∧ e = .returned (.int .i64 k)) ∧ w' = w := by
  obtain ⟨q, hq⟩ : ∃ q, Int.tmod n ((hi : Int) + 1) = q := ⟨_, rfl⟩
  have hq1 : -(hi : Int) - 1 < q ∧ q < (hi : Int) + 1 := by
    rw [← hq]
    have h2 := Int.tmod_lt_of_pos n (show (0 : Int) < (hi : Int) + 1 by omega)
    have h3 := Int.lt_tmod_of_pos n (show (0 : Int) < (hi : Int) + 1 by omega)
    omega
  obtain ⟨q1, q2⟩ := hq1
  go_enter Tryd.func12, Tryd.ntmps12
  go_wp2
  · go_ret
    obtain ⟨k, hk⟩ := Int.eq_ofNat_of_zero_le (show 0 ≤ q + (hi : Int) + 1 by omega)
    exact ⟨⟨k, by omega, ret_int hk⟩, rfl⟩
  · go_ret
    obtain ⟨k, hk⟩ := Int.eq_ofNat_of_zero_le (show 0 ≤ q by omega)
    exact ⟨⟨k, by omega, ret_int hk⟩, rfl⟩
theorem k1 : M.ok [65, 81, 32, 73, 61, 10] = true ∧ M.TX (M.by_ [65, 81, 32, 73, 61, 10]) = [65, 81, 73, 61] := by decide +kernel
theorem k2 : M.ok [65, 81, 73] = false := by decide +kernel
theorem k3 : M.ok [65, 82, 61, 61] = false := by decide +kernel
theorem k4 : M.ok [] = true ∧ M.by_ [] = [] := by decide +kernel
theorem k5 : M.TX [1, 2] = [65, 81, 73, 61] := by decide +kernel
set_option maxRecDepth 100000 in
set_option maxHeartbeats 1000000 in
theorem known_any (w : World) (ht : Tab w) : Calls Tryd.prog 7 #[] w fun e w' => e = .returned (.bool true) ∧ Below w.heap.size w w' := by
  have c1 : ∀ W, Tab W → Calls Tryd.prog 11 #[.string ⟨#[65, 81, 32, 73, 61, 10]⟩] W fun e w' => e = .returned (.tuple #[.string ⟨#[65, 81, 73, 61]⟩, .bool true]) ∧ Below W.heap.size W w' := fun W h => by
    have c := of_any ⟨#[65, 81, 32, 73, 61, 10]⟩ W h (by decide)
    rw [show (⟨#[65, 81, 32, 73, 61, 10]⟩ : ByteArray).data.toList = [65, 81, 32, 73, 61, 10] from rfl, k1.1, k1.2] at c
    exact c
  have c2 : ∀ W, Tab W → Calls Tryd.prog 11 #[.string ⟨#[65, 81, 73]⟩] W fun e w' => e = .returned (.tuple #[.string ⟨#[]⟩, .bool false]) ∧ Below W.heap.size W w' := fun W h => by
    have c := of_any ⟨#[65, 81, 73]⟩ W h (by decide)
    rw [show (⟨#[65, 81, 73]⟩ : ByteArray).data.toList = [65, 81, 73] from rfl, M.of_no _ k2, k2] at c
    exact c
  have c3 : ∀ W, Tab W → Calls Tryd.prog 11 #[.string ⟨#[65, 82, 61, 61]⟩] W fun e w' => e = .returned (.tuple #[.string ⟨#[]⟩, .bool false]) ∧ Below W.heap.size W w' := fun W h => by
    have c := of_any ⟨#[65, 82, 61, 61]⟩ W h (by decide)
    rw [show (⟨#[65, 82, 61, 61]⟩ : ByteArray).data.toList = [65, 82, 61, 61] from rfl, M.of_no _ k3, k3] at c
    exact c
  have c4 : ∀ W, Tab W → Calls Tryd.prog 8 #[.string ⟨#[]⟩] W fun e w' => ∃ a cap, e = .returned (.tuple #[.slice a 0 cap, .bool true]) ∧ Below W.heap.size W w' := fun W h => by
    have c := bytes_any ⟨#[]⟩ W h (by decide)
    rw [show (⟨#[]⟩ : ByteArray).data.toList = [] from rfl, k4.1, k4.2] at c
    exact c.mono fun e w' ⟨a, cap, h1, h2, h3⟩ => ⟨a, cap, h1, h3⟩
  have c5 : ∀ W g, Tab W → W.heap[g]? = some (.cells #[.int .u8 1, .int .u8 2] 5 (0, 0)) → Calls Tryd.prog 9 #[.slice (some ⟨g, 0, none⟩) 2 2] W fun e w' => e = .returned (.string ⟨#[65, 81, 73, 61]⟩) ∧ Below W.heap.size W w' := fun W g h hg => by
    have c := text_any (some ⟨g, 0, none⟩) [1, 2] 2 W h ⟨Nat.le_refl _, fun _ => ⟨g, 0, rfl, fun j hj => by
      match j, hj with
      | 0, _ => simp [World.cell?, hg]
      | 1, _ => simp [World.cell?, hg]
      | n + 2, hj => exact absurd hj (by simp only [List.length_cons, List.length_nil]; omega), (Array.getElem?_eq_some_iff.1 hg).1⟩⟩ (by decide)
    rw [k5] at c
    exact c
  have HT := Lib.hid ht
  clear ht
  go_enter Tryd.func7, Tryd.ntmps7
  go_wp2_with fail
  refine (c1 _ HT.out).mono ?_
  rintro e w1 ⟨rfl, hb1⟩
  go_wp2_with fail
  refine (c2 _ (HT.out.next hb1)).mono ?_
  rintro e w2 ⟨rfl, h2⟩
  have hb2 := hb1.trans (h2.mono hb1.size)
  clear h2 hb1
  go_wp2_with fail
  refine (c3 _ (HT.out.next hb2)).mono ?_
  rintro e w3 ⟨rfl, h3⟩
  have hb3 := hb2.trans (h3.mono hb2.size)
  clear h3 hb2
  go_wp2_with fail
  refine (c4 _ (HT.out.next hb3)).mono ?_
  rintro e w4 ⟨a4, cp4, rfl, h4⟩
  have hb4 := hb3.trans (h4.mono hb3.size)
  clear h4 hb3 c1 c2 c3 c4
  have hn := heap_alloc_new w4 (.cells #[.int .u8 1, .int .u8 2] 5)
  have hb5 := hb4.alloc hb4.size (.cells #[.int .u8 1, .int .u8 2] 5)
  have c6 := c5 _ _ (HT.out.next hb5) hn
  have HB := Lib.hid hb5
  clear c5 hn hb5 hb4
  go_wp2_with fail
  refine c6.mono ?_
  rintro e w6 ⟨rfl, h6⟩
  clear c6
  have HB6 := Lib.hid (HB.out.trans (h6.mono HB.out.size))
  clear h6 HB
  go_wp2
  go_ret
  exact ⟨rfl, HB6.out⟩
end Go.Proofs.YthhhmmogefpcgaaDoor
