/- The law BinApart: its walk. -/
import Derived.Test.YthhhmmogefpcgaaDoorWk
set_option linter.unusedVariables false
namespace Go.Proofs.YthhhmmogefpcgaaDoor
open Go.RowKit

set_option maxRecDepth 100000 in
set_option maxHeartbeats 1000000 in
theorem apart_long (a b : Option Addr) (cap cap' : Nat) (l m : List UInt8) (n : Nat) (w : World) (ht : Tab w) (h : 100 < l.length ∨ (l.length ≤ 100 ∧ 100 < m.length)) :
    Calls Tryd.prog 6 #[.slice a l.length cap, .slice b m.length cap', .int .u8 n] w fun e w' => e = .returned (.bool true) ∧ Below w.heap.size w w' := by
  have c0 := known_any w ht
  rcases h with h | ⟨h, h'⟩
  · have d1 : decide ((100 : Int) < (l.length : Int)) = true := decide_eq_true (by omega)
    have d2 : decide (100 < l.length) = true := decide_eq_true (by omega)
    go_enter Tryd.func6, Tryd.ntmps6
    go_wp2_with fail
    refine c0.mono ?_
    rintro r w1 ⟨rfl, hb⟩
    clear c0
    go_wp2
    go_ret
    exact ⟨rfl, hb⟩
  · have d1 : decide ((100 : Int) < (l.length : Int)) = false := decide_eq_false (by omega)
    have d2 : decide (100 < l.length) = false := decide_eq_false (by omega)
    have d3 : decide ((100 : Int) < (m.length : Int)) = true := decide_eq_true (by omega)
    have d4 : decide (100 < m.length) = true := decide_eq_true (by omega)
    go_enter Tryd.func6, Tryd.ntmps6
    go_wp2_with fail
    refine c0.mono ?_
    rintro r w1 ⟨rfl, hb⟩
    clear c0
    go_wp2
    go_ret
    exact ⟨rfl, hb⟩
theorem extract_take (t : ByteArray) (n : Nat) : (t.extract 0 n).data.toList = t.data.toList.take n := by
  simp only [ByteArray.data_extract, Array.toList_extract, List.extract_eq_take_drop, List.drop_zero, Nat.sub_zero]
theorem run_cutH {w : World} {ad : Option Addr} {l : List UInt8} {cap k : Nat} (hs : InS w ad l cap) (hk : k ≤ l.length) (W : World) :
    (Instr.sliceAt 22 (.slice ad l.length cap) none (some (.int .i64 (k : Int))) none).run Tryd.prog W = .ok (.slice ad k cap) W := by
  have hle := hs.le
  rw [run_sliceAt_slice (h := und22), run_slice_h (ht := und22) (h0 := by omega) (h2 := by omega)]
  rw [show Tryd.prog.elem 22 = 5 from by kernel_rfl]
  cases ad with
  | none => simp [Tryd.sizeOf5, Result.andThen, sliced]
  | some p => simp [Tryd.sizeOf5, Result.andThen, sliced, Addr.add]
theorem beq_eqB {x y : ByteArray} (h : (x == y) = true) : x = y := by
  cases x with | mk a => cases y with | mk b =>
  have : (a == b) = true := h
  rw [eq_of_beq this]
theorem apart_eq (l m : List UInt8) (k : Nat) (h1 : 3 * k ≤ l.length) (h2 : 3 * k ≤ m.length) :
    (bA (M.TX l) == bA (M.TX m)) = (bA l == bA m) ∧ (bA ((M.TX l).take (4 * k)) == bA ((M.TX m).take (4 * k))) = (bA (l.take (3 * k)) == bA (m.take (3 * k))) := by
  have key : ∀ x y : List UInt8, (bA (M.TX x) == bA (M.TX y)) = (bA x == bA y) := by
    intro x y
    rw [Bool.eq_iff_iff]
    constructor
    · intro h
      have : x = y := M.tx_inj (bA_inj.1 (beq_eqB h))
      rw [this, beq_toListBytes]; exact beq_self_eq_true _
    · intro h
      have : x = y := bA_inj.1 (beq_eqB h)
      rw [this, beq_toListBytes]; exact beq_self_eq_true _
  refine ⟨key l m, ?_⟩
  rw [M.tx_take l k h1, M.tx_take m k h2]
  exact key _ _
set_option maxRecDepth 100000 in
set_option maxHeartbeats 4000000 in
theorem apart_core (a b : Option Addr) (cap cap' : Nat) (l m : List UInt8) (n : Nat) (w : World) (ht : Tab w) (hin : InS w a l cap) (hin' : InS w b m cap') (hl : l.length ≤ 100) (hm : m.length ≤ 100) (hn : n ≤ 255) :
    Calls Tryd.prog 6 #[.slice a l.length cap, .slice b m.length cap', .int .u8 n] w fun e w' => e = .returned (.bool true) ∧ Below w.heap.size w w' := by
  have c0 := known_any w ht
  obtain ⟨X1, hX1⟩ : ∃ S, bA (M.TX l) = S := ⟨_, rfl⟩
  obtain ⟨X2, hX2⟩ : ∃ S, bA (M.TX m) = S := ⟨_, rfl⟩
  have hX1s : X1.size = (l.length + 2) / 3 * 4 := by rw [← hX1, bA_size, M.tx_len]
  have hX2s : X2.size = (m.length + 2) / 3 * 4 := by rw [← hX2, bA_size, M.tx_len]
  have cA : ∀ W, Tab W → InS W a l cap → Calls Tryd.prog 9 #[.slice a l.length cap] W fun e w' => e = .returned (.string X1) ∧ Below W.heap.size W w' := fun W h1 h2 => by
    rw [← hX1]; exact text_any a l cap W h1 h2 (by omega)
  have cM : ∀ W, Tab W → InS W b m cap' → Calls Tryd.prog 9 #[.slice b m.length cap'] W fun e w' => e = .returned (.string X2) ∧ Below W.heap.size W w' := fun W h1 h2 => by
    rw [← hX2]; exact text_any b m cap' W h1 h2 (by omega)
  have HT := Lib.hid ht
  have HI := Lib.hid hin
  have HJ := Lib.hid hin'
  have HX := Lib.hid (And.intro hX1 hX2)
  clear ht hin hin' hX1 hX2
  have d1 : decide ((100 : Int) < (l.length : Int)) = false := decide_eq_false (by omega)
  have d2 : decide (100 < l.length) = false := decide_eq_false (by omega)
  have d3 : decide ((100 : Int) < (m.length : Int)) = false := decide_eq_false (by omega)
  have d4 : decide (100 < m.length) = false := decide_eq_false (by omega)
  go_enter Tryd.func6, Tryd.ntmps6
  go_wp2_with fail
  refine c0.mono ?_
  rintro r w1 ⟨rfl, hb1⟩
  clear c0
  go_wp2_with fail
  refine (cA _ (HT.out.next hb1) (HI.out.next hb1)).mono ?_
  rintro r w2 ⟨rfl, h2⟩
  have hb2 := hb1.trans (h2.mono hb1.size)
  clear h2 hb1 cA
  go_wp2_with fail
  refine (cM _ (HT.out.next hb2) (HJ.out.next hb2)).mono ?_
  rintro r w3 ⟨rfl, h3⟩
  have hb3 := hb2.trans (h3.mono hb2.size)
  clear h3 hb2 cM
  go_upto_region 7 with fail
  obtain ⟨k, hk⟩ : ∃ k : Nat, (if (m.length : Int) / 3 < (if (l.length : Int) / 3 < (n : Int) / 3 then (l.length : Int) / 3 else (n : Int) / 3) then (m.length : Int) / 3 else (if (l.length : Int) / 3 < (n : Int) / 3 then (l.length : Int) / 3 else (n : Int) / 3)) = (k : Int) :=
    Int.eq_ofNat_of_zero_le (by split <;> (try split) <;> omega)
  have hk1 : 3 * k ≤ l.length ∧ 3 * k ≤ m.length := by
    split at hk <;> (try split at hk) <;> (try split at *) <;> omega
  rw [hk]
  clear hk
  obtain ⟨hk1, hk2⟩ := hk1
  obtain ⟨e1, e2⟩ := apart_eq l m k hk1 hk2
  obtain ⟨x1, x2⟩ := HX.out
  obtain ⟨k4, hk4⟩ : ∃ j, 4 * k = j := ⟨_, rfl⟩
  obtain ⟨k3, hk3⟩ : ∃ j, 3 * k = j := ⟨_, rfl⟩
  have s1 : bA ((M.TX l).take k4) = X1.extract 0 k4 := by rw [← x1]; exact (eq_bA (by rw [extract_take, bA_toList])).symm
  have s2 : bA ((M.TX m).take k4) = X2.extract 0 k4 := by rw [← x2]; exact (eq_bA (by rw [extract_take, bA_toList])).symm
  rw [hk4, hk3, s1, s2] at e2
  rw [x1, x2] at e1
  have v1 := fun q => (HI.out.next (below_dN hb3 q)).conv
  have v2 := fun q => (HJ.out.next (below_dN hb3 q)).conv
  have v3 : ∀ q, (convert 22 9 (.slice a k3 cap)).run Tryd.prog (w3.drewN q) = .ok (.string (bA (l.take k3))) (w3.drewN q) := fun q => by
    have := ((HI.out.take (k := k3) (by omega)).next (below_dN hb3 q)).conv
    rwa [List.length_take, Nat.min_eq_left (by omega)] at this
  have v4 : ∀ q, (convert 22 9 (.slice b k3 cap')).run Tryd.prog (w3.drewN q) = .ok (.string (bA (m.take k3))) (w3.drewN q) := fun q => by
    have := ((HJ.out.take (k := k3) (by omega)).next (below_dN hb3 q)).conv
    rwa [List.length_take, Nat.min_eq_left (by omega)] at this
  have u1 := run_cutH HI.out (k := k3) (by omega)
  have u2 := run_cutH HJ.out (k := k3) (by omega)
  have q4 : 4 * (k : Int) = (k4 : Int) := by omega
  have q3 : 3 * (k : Int) = (k3 : Int) := by omega
  have g4 : k4 ≤ 1000 := by omega
  have g3 : k3 ≤ 1000 := by omega
  have g5 : wrap64 (k4 : Int) = (k4 : Int) := by unfold wrap64; omega
  have g6 : wrap64 (k3 : Int) = (k3 : Int) := by unfold wrap64; omega
  have l1 : k4 ≤ X1.size := by omega
  have l2 : k4 ≤ X2.size := by omega
  have d5 : decide ((X1.size : Int) < (k4 : Int)) = false := decide_eq_false (by omega)
  have d6 : decide (X1.size < k4) = false := decide_eq_false (by omega)
  have d7 : decide ((X2.size : Int) < (k4 : Int)) = false := decide_eq_false (by omega)
  have d8 : decide (X2.size < k4) = false := decide_eq_false (by omega)
  rw [beq_toListBytes, beq_toListBytes] at e1
  rw [beq_toListBytes, beq_toListBytes] at e2
  have t1 : ((X1.toList == X2.toList) == ((bA l).toList == (bA m).toList)) = true := by rw [e1]; exact beq_self_eq_true _
  have t2 : (((X1.extract 0 k4).toList == (X2.extract 0 k4).toList) == ((bA (l.take k3)).toList == (bA (m.take k3)).toList)) = true := by rw [e2]; exact beq_self_eq_true _
  clear e1 e2 s1 s2 x1 x2 HX hX1s hX2s hk4 hk3 hk1 hk2
  have HL := Lib.hid (And.intro l1 l2)
  have HB := Lib.hid hb3
  clear hb3
  generalize bA l = Y1 at *
  generalize bA m = Y2 at *
  generalize bA (l.take k3) = Y3 at *
  generalize bA (m.take k3) = Y4 at *
  go_wp2_with fail
  go_quiet (fail)
  go_wp2
  go_ret
  exact ⟨rfl, below_dN HB.out _⟩
theorem apart_any (a : Option Addr) (cap : Nat) (l : List UInt8) (b : Option Addr) (cap' : Nat) (m : List UInt8) (n : Nat) (w : World) (ht : Tab w) (hin : InS w a l cap) (hin' : InS w b m cap') (hn : n ≤ 255) :
    Calls Tryd.prog 6 #[.slice a l.length cap, .slice b m.length cap', .int .u8 n] w fun e w' => e = .returned (.bool true) ∧ Below w.heap.size w w' := by
  by_cases h1 : l.length ≤ 100
  · by_cases h2 : m.length ≤ 100
    · exact apart_core a b cap cap' l m n w ht hin hin' h1 h2 hn
    · exact apart_long a b cap cap' l m n w ht (Or.inr ⟨h1, by omega⟩)
  · exact apart_long a b cap cap' l m n w ht (Or.inl (by omega))
end Go.Proofs.YthhhmmogefpcgaaDoor
