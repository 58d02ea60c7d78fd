/- The law ResolveTells: its walk. -/
import Derived.Test.YtipgipgehnhgkaaGreatDoorWc
import Derived.Test.YtipgipgehnhgkaaGreatDoorVg
import Derived.Deep.RegionHeld3
set_option linter.unusedVariables false
namespace Go.Proofs.YtipgipgehnhgkaaGreatDoor
open Go.RowKit
open Go

theorem liftC {W0 w : World} {f : Nat} {args : Array Value} {e0 : Ending} {S : World → Prop} (hs : ∀ w', Below W0.heap.size W0 w' → S w') (hb : ∀ w', S w' → Below W0.heap.size W0 w') (c : Calls Tryz.prog f args w fun e w' => e = e0 ∧ Below w.heap.size w w') (h : S w) : Calls Tryz.prog f args w fun e w' => e = e0 ∧ S w' :=
  c.mono fun e w' hh => ⟨hh.1, hs _ ((hb _ h).trans (hh.2.mono (hb _ h).size))⟩
theorem inB_below {w w' : World} {a : Option Addr} {l : List UInt8} (h : InB w a l) (hb : Below w.heap.size w w') : InB w' a l := by
  intro hne
  obtain ⟨b, off, e, hc, hlt⟩ := h hne
  refine ⟨b, off, e, fun j hj => ?_, Nat.lt_of_lt_of_le hlt hb.size⟩
  rw [← hc j hj]; simp [World.cell?, hb.block b hlt]

set_option maxRecDepth 100000 in
set_option maxHeartbeats 4000000 in
theorem tells_long (v : Int) (s : ByteArray) (a : Option Addr) (cap : Nat) (l : List UInt8) (w : World) (hE : Env w) (h : 60 < s.size ∨ (s.size ≤ 60 ∧ 8 < l.length)) :
    Calls Tryz.prog 3 #[.int .i64 v, .string s, .slice a l.length cap] w fun e w' => e = .returned (.bool true) ∧ Below w.heap.size w w' := by
  rcases h with h | ⟨h, h'⟩
  · have d1 : decide ((60 : Int) < (s.size : Int)) = true := decide_eq_true (by omega)
    have d2 : decide (60 < s.size) = true := decide_eq_true (by omega)
    go_enter Tryz.func3, Tryz.ntmps3
    go_wp2_with fail
    refine (known_any _ hE).mono ?_
    rintro r w1 ⟨rfl, hb⟩
    go_wp2
    go_ret
    exact ⟨rfl, hb⟩
  · have d1 : decide ((60 : Int) < (s.size : Int)) = false := decide_eq_false (by omega)
    have d2 : decide (60 < s.size) = false := decide_eq_false (by omega)
    have d3 : decide ((8 : Int) < (l.length : Int)) = true := decide_eq_true (by omega)
    have d4 : decide (8 < l.length) = true := decide_eq_true (by omega)
    go_enter Tryz.func3, Tryz.ntmps3
    go_wp2_with fail
    refine (known_any _ hE).mono ?_
    rintro r w1 ⟨rfl, hb⟩
    go_wp2
    go_ret
    exact ⟨rfl, hb⟩

set_option maxRecDepth 100000 in
set_option maxHeartbeats 4000000 in
theorem tells_core (v : Int) (s : ByteArray) (a : Option Addr) (cap : Nat) (l : List UInt8) (w : World) (hE : Env w) (hin : InB w a l) (hs : s.size ≤ 60) (hl : l.length ≤ 8) :
    Calls Tryz.prog 3 #[.int .i64 v, .string s, .slice a l.length cap] w fun e w' => e = .returned (.bool true) ∧ Below w.heap.size w w' := by
  have d1 : decide ((60 : Int) < (s.size : Int)) = false := decide_eq_false (by omega)
  have d2 : decide (60 < s.size) = false := decide_eq_false (by omega)
  have d3 : decide ((8 : Int) < (l.length : Int)) = false := decide_eq_false (by omega)
  have d4 : decide (8 < l.length) = false := decide_eq_false (by omega)
  have HIN := Lib.hid hin
  clear hin
  go_enter Tryz.func3, Tryz.ntmps3
  go_wp2_with fail
  refine (known_any _ hE).mono ?_
  rintro r w1 ⟨rfl, B1⟩
  have E1 := env_next _ _ hE B1
  have I1 := inB_below HIN.out B1
  clear HIN
  go_wp2_with fail
  refine (some_any a cap l _ I1 hl).mono ?_
  rintro r w2 ⟨t, rfl, htz, hb⟩
  have B2 := B1.trans (hb.mono B1.size)
  have E2 := env_next _ _ E1 hb
  clear I1 B1 E1 hb d1 d2 d3 d4
  go_wp2_with fail
  have hrow : (w2.alloc (.cells #[.string s, .string t] 9)).heap[w2.heap.size]? = some (.cells #[.string s, .string t] 9) := heap_alloc_new w2 _
  have B3 : Below w.heap.size w (w2.alloc (.cells #[.string s, .string t] 9)) := B2.alloc B2.size _
  have E3 : Env (w2.alloc (.cells #[.string s, .string t] 9)) := env_next _ _ E2 ((Below.refl _ w2).alloc (Nat.le_refl _) _)
  have hg : w2.heap.size < (w2.alloc (.cells #[.string s, .string t] 9)).heap.size := (Array.getElem?_eq_some_iff.1 hrow).1
  have hcell : ∀ i, i < 2 → ∃ x : ByteArray, x.size ≤ 80 ∧ (w2.alloc (.cells #[.string s, .string t] 9)).cell? ⟨w2.heap.size, i, none⟩ = some (.string x) := by
    intro i hi
    have : i = 0 ∨ i = 1 := by omega
    rcases this with rfl | rfl
    · exact ⟨s, by omega, by simp only [World.cell?, hrow]; rfl⟩
    · exact ⟨t, by omega, by simp only [World.cell?, hrow]; rfl⟩
  clear hrow htz
  generalize w2.alloc (.cells #[.string s, .string t] 9) = W at *
  generalize w2.heap.size = g at *
  clear B2 E2
  have HC := Lib.hid hcell
  have ne := neq2
  have eq := eql2
  have gg := eqGv
  clear hcell
  go_loopw [8, 9, 10, 26] (fun _ _ _ kv wr => ∃ i : Nat, kv = .int .i64 i ∧ i ≤ 2 ∧ Below W.heap.size W wr) (fun _ _ _ kv _ => 2 - (intOf kv).toNat)
  case atStart => exact ⟨0, rfl, by omega, Below.refl _ _⟩
  case round =>
    obtain ⟨i, rfl, hi, hbw⟩ := hrel
    have Er := env_next _ _ E3 hbw
    by_cases hlt : i < 2
    · have l1 : decide (i < 2) = true := decide_eq_true hlt
      have l2 : decide ((i : Int) < 2) = true := decide_eq_true (by omega)
      obtain ⟨x, hx, hc0⟩ := HC.out i hlt
      have hc : wr.cell? ⟨g, i, none⟩ = some (.string x) := by
        rw [← hc0]; simp [World.cell?, hbw.block g hg]
      obtain ⟨T1, X1, c1, c2⟩ := both_plain' 11 x hx
      obtain ⟨T2, X2, c3, c4⟩ := both_plain' 12 x hx
      obtain ⟨T3, X3, c5, c6⟩ := both_plain' v x hx
      have c7 : ∀ W, Env W → Calls Tryz.prog 10 #[.string x] W fun e w' => e = .returned (.bool (decide (T1 = T2) && decide (X1 = X2))) ∧ Below W.heap.size W w' := alike_tel x T1 X1 T2 X2 c1 c3
      clear hc0 HC
      go_wp2_with fail
      refine (c1 _ Er).mono ?_
      rintro r w3 ⟨rfl, hb⟩
      have B4 := hbw.trans (hb.mono hbw.size)
      have E4 := env_next _ _ E3 B4
      clear hbw hb Er hc
      go_wp2_with fail
      refine (c3 _ E4).mono ?_
      rintro r w4 ⟨rfl, hb⟩
      have B5 := B4.trans (hb.mono B4.size)
      clear B4 E4 hb c1 c3
      have KA := VBk.made w4 T1 X1
      have BA := (Below.refl _ w4).alloc (Nat.le_refl _) (.cells #[.string T1, .string X1] 27)
      have KB := VBk.made (w4.alloc (.cells #[.string T1, .string X1] 27)) T2 X2
      rw [show (w4.alloc (.cells #[.string T1, .string X1] 27)).heap.size = w4.heap.size + 1 by simp] at KB
      have BB := (Below.refl _ (w4.alloc (.cells #[.string T1, .string X1] 27))).alloc (Nat.le_refl _) (.cells #[.string T2, .string X2] 27)
      replace KA := KA.next BB
      replace B5 := B5.trans ((BA.trans (BB.mono BA.size)).mono B5.size)
      have E5 := env_next _ _ E3 B5
      clear BA BB
      obtain ⟨W5, hW5⟩ : ∃ W5, (w4.alloc (.cells #[.string T1, .string X1] 27)).alloc (.cells #[.string T2, .string X2] 27) = W5 := ⟨_, rfl⟩
      obtain ⟨gA, hgA⟩ : ∃ gA, w4.heap.size = gA := ⟨_, rfl⟩
      rw [hW5, hgA] at KA KB
      rw [hW5] at B5 E5
      have hS1 : ∀ wx, Below W5.heap.size W5 wx → (wx.cell? ⟨gA, 0, none⟩ = some (.string T1) ∧ wx.cell? ⟨gA, 1, none⟩ = some (.string X1) ∧ wx.cell? ⟨gA + 1, 0, none⟩ = some (.string T2) ∧ wx.cell? ⟨gA + 1, 1, none⟩ = some (.string X2) ∧ Below W5.heap.size W5 wx) := fun wx h => ⟨(KA.next h).cells.1, (KA.next h).cells.2, (KB.next h).cells.1, (KB.next h).cells.2, h⟩
      have hS2 : ∀ wx, (wx.cell? ⟨gA, 0, none⟩ = some (.string T1) ∧ wx.cell? ⟨gA, 1, none⟩ = some (.string X1) ∧ wx.cell? ⟨gA + 1, 0, none⟩ = some (.string T2) ∧ wx.cell? ⟨gA + 1, 1, none⟩ = some (.string X2) ∧ Below W5.heap.size W5 wx) → Below W5.heap.size W5 wx := fun wx h => h.2.2.2.2
      have HS1 := Lib.hid hS1
      have HS2 := Lib.hid hS2
      have HE : Hid (∀ wx, Below W5.heap.size W5 wx → Env wx) := fun wx h => env_next _ _ E5 h
      have HW := Lib.hid hW5
      have HG := Lib.hid hgA
      clear hS1 hS2 KA KB hW5 hgA E5
      go_wp2_with fail
      rw [HG.out, HW.out]
      clear HG HW
      go_region_held3 (fun wx => wx.cell? ⟨gA, 0, none⟩ = some (.string T1) ∧ wx.cell? ⟨gA, 1, none⟩ = some (.string X1) ∧ wx.cell? ⟨gA + 1, 0, none⟩ = some (.string T2) ∧ wx.cell? ⟨gA + 1, 1, none⟩ = some (.string X2) ∧ Below W5.heap.size W5 wx)
        (first | exact hS | exact HS1.out _ (Below.refl _ _).drew)
        (first
          | (go_at_call 9; (with_reducible refine (liftC HS1.out HS2.out (c2 _) ?_).mono ?_); (exact ‹_ ∧ _ ∧ _ ∧ _ ∧ Below _ _ _›); rintro r wq ⟨rfl, hS⟩)
          | (go_at_call 9; (with_reducible refine (liftC HS1.out HS2.out (c4 _) ?_).mono ?_); (exact ‹_ ∧ _ ∧ _ ∧ _ ∧ Below _ _ _›); rintro r wq ⟨rfl, hS⟩)
          | (go_at_call 9; (with_reducible refine (liftC HS1.out HS2.out (c6 _) ?_).mono ?_); (exact ‹_ ∧ _ ∧ _ ∧ _ ∧ Below _ _ _›); rintro r wq ⟨rfl, hS⟩)
          | (go_at_call 8; (with_reducible refine (liftC HS1.out HS2.out (c5 _ (HE.out _ (‹_ ∧ _ ∧ _ ∧ _ ∧ Below _ _ _›).2.2.2.2)) ?_).mono ?_); (exact ‹_ ∧ _ ∧ _ ∧ _ ∧ Below _ _ _›); rintro r wq ⟨rfl, hS⟩)
          | (go_at_call 10; (with_reducible refine (liftC HS1.out HS2.out (c7 _ (HE.out _ (‹_ ∧ _ ∧ _ ∧ _ ∧ Below _ _ _›).2.2.2.2)) ?_).mono ?_); (exact ‹_ ∧ _ ∧ _ ∧ _ ∧ Below _ _ _›); rintro r wq ⟨rfl, hS⟩))
      have hq := HS2.out _ hS
      have B6 := B5.trans (hq.mono B5.size)
      clear hS hq HS1 HS2 HE B5
      go_wp2_with fail
      go_roundw
      case rel => exact ⟨i + 1, by go_num, by omega, B6⟩
      case measure => simp [intOf]; omega
    · obtain rfl : i = 2 := by omega
      have B6 := B3.trans (hbw.mono B3.size)
      clear hbw Er hlt hi HC B3 E3
      go_wp2
      go_ret
      exact ⟨rfl, B6⟩
theorem tells_any (v : Int) (s : ByteArray) (a : Option Addr) (cap : Nat) (l : List UInt8) (w : World) (hE : Env w) (hin : InB w a l) :
    Calls Tryz.prog 3 #[.int .i64 v, .string s, .slice a l.length cap] w fun e w' => e = .returned (.bool true) ∧ Below w.heap.size w w' := by
  by_cases h : 60 < s.size ∨ (s.size ≤ 60 ∧ 8 < l.length)
  · exact tells_long v s a cap l w hE h
  · exact tells_core v s a cap l w hE hin (by omega) (by omega)
theorem tells_law (v : Int) (s : ByteArray) (a : Option Addr) (cap : Nat) (l : List UInt8) (w : World) (hE : Env w) (hv : -9223372036854775808 ≤ v ∧ v ≤ 9223372036854775807) (hs : s.size ≤ maxLen) (hin : InB w a l) :
    Calls Tryz.prog 3 #[.int .i64 v, .string s, .slice a l.length cap] w fun e w' => e = .returned (.bool true) ∧ Below w.heap.size w w' := tells_any v s a cap l w hE hin
end Go.Proofs.YtipgipgehnhgkaaGreatDoor
