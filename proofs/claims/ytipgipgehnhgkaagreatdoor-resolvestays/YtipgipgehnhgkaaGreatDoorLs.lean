/- The law ResolveStays: its walk. -/
import Derived.Test.YtipgipgehnhgkaaGreatDoorWf
import Derived.Test.YtipgipgehnhgkaaGreatDoorVg
import Derived.Test.YtipgipgehnhgkaaGreatDoorWe
import Derived.Deep.RegionHeld3
set_option linter.unusedVariables false
namespace Go.Proofs.YtipgipgehnhgkaaGreatDoor
open Go.RowKit
open Go

theorem version_any (old : Bool) (w : World) : Calls Tryz.prog 11 #[.bool old] w fun e w' => e = .returned (.int .i64 (if old = true then 11 else 12)) ∧ w = w' := by
  cases old
  · go_enter Tryz.func11, Tryz.ntmps11
    go_wp2
    go_ret
    exact ⟨rfl, rfl⟩
  · go_enter Tryz.func11, Tryz.ntmps11
    go_wp2
    go_ret
    exact ⟨rfl, rfl⟩
set_option maxRecDepth 100000 in
set_option maxHeartbeats 4000000 in
theorem stays_long (old : Bool) (s : ByteArray) (a : Option Addr) (cap : Nat) (l : List UInt8) (w : World) (hE : Env w) (h : 60 < s.size ∨ (s.size ≤ 60 ∧ 8 < l.length)) :
    Calls Tryz.prog 4 #[.bool old, .string s, .slice a l.length cap] w fun e w' => e = .returned (.bool true) ∧ Below w.heap.size w w' := by
  rcases h with h | ⟨h, h'⟩
  · have d1 : decide ((60 : Int) < (s.size : Int)) = true := decide_eq_true (by omega)
    have d2 : decide (60 < s.size) = true := decide_eq_true (by omega)
    go_enter Tryz.func4, Tryz.ntmps4
    go_wp2_with fail
    refine (known_any _ hE).mono ?_
    rintro r w1 ⟨rfl, hb⟩
    go_wp2
    go_ret
    exact ⟨rfl, hb⟩
  · have d1 : decide ((60 : Int) < (s.size : Int)) = false := decide_eq_false (by omega)
    have d2 : decide (60 < s.size) = false := decide_eq_false (by omega)
    have d3 : decide ((8 : Int) < (l.length : Int)) = true := decide_eq_true (by omega)
    have d4 : decide (8 < l.length) = true := decide_eq_true (by omega)
    go_enter Tryz.func4, Tryz.ntmps4
    go_wp2_with fail
    refine (known_any _ hE).mono ?_
    rintro r w1 ⟨rfl, hb⟩
    go_wp2
    go_ret
    exact ⟨rfl, hb⟩

set_option maxRecDepth 100000 in
set_option maxHeartbeats 8000000 in
theorem stays_core (old : Bool) (v : Int) (s : ByteArray) (a : Option Addr) (cap : Nat) (l : List UInt8) (w : World) (hE : Env w) (hin : InB w a l) (hs : s.size ≤ 60) (hl : l.length ≤ 8)
    (hver : ∀ W, Calls Tryz.prog 11 #[.bool old] W fun e w' => e = .returned (.int .i64 v) ∧ W = w')
    (hst : ∀ x : ByteArray, x.size ≤ 80 → ∃ T X, Tel v x T X ∧ Stay v x T X) (hvo : v = 11 → old = true) :
    Calls Tryz.prog 4 #[.bool old, .string s, .slice a l.length cap] w fun e w' => e = .returned (.bool true) ∧ Below w.heap.size w w' := by
  have d1 : decide ((60 : Int) < (s.size : Int)) = false := decide_eq_false (by omega)
  have d2 : decide (60 < s.size) = false := decide_eq_false (by omega)
  have d3 : decide ((8 : Int) < (l.length : Int)) = false := decide_eq_false (by omega)
  have d4 : decide (8 < l.length) = false := decide_eq_false (by omega)
  have HIN := Lib.hid hin
  have HST := Lib.hid hst
  have HVO := Lib.hid hvo
  clear hin hst hvo
  go_enter Tryz.func4, Tryz.ntmps4
  go_wp2_with fail
  refine (known_any _ hE).mono ?_
  rintro r w1 ⟨rfl, B1⟩
  have E1 := env_next _ _ hE B1
  have I1 := inB_below HIN.out B1
  clear HIN
  go_wp2_with fail
  refine (hver _).mono ?_
  rintro r w1' ⟨rfl, rfl⟩
  clear hver
  go_wp2_with fail
  refine (some_any a cap l _ I1 hl).mono ?_
  rintro r w2 ⟨t, rfl, htz, hb⟩
  have B2 := B1.trans (hb.mono B1.size)
  have E2 := env_next _ _ E1 hb
  clear I1 B1 E1 hb d1 d2 d3 d4
  go_wp2_with fail
  have hrow : (w2.alloc (.cells #[.string s, .string t] 9)).heap[w2.heap.size]? = some (.cells #[.string s, .string t] 9) := heap_alloc_new w2 _
  have B3 : Below w.heap.size w (w2.alloc (.cells #[.string s, .string t] 9)) := B2.alloc B2.size _
  have E3 : Env (w2.alloc (.cells #[.string s, .string t] 9)) := env_next _ _ E2 ((Below.refl _ w2).alloc (Nat.le_refl _) _)
  have hg : w2.heap.size < (w2.alloc (.cells #[.string s, .string t] 9)).heap.size := (Array.getElem?_eq_some_iff.1 hrow).1
  have hcell : ∀ i, i < 2 → ∃ x : ByteArray, x.size ≤ 80 ∧ (w2.alloc (.cells #[.string s, .string t] 9)).cell? ⟨w2.heap.size, i, none⟩ = some (.string x) := by
    intro i hi
    have : i = 0 ∨ i = 1 := by omega
    rcases this with rfl | rfl
    · exact ⟨s, by omega, by simp only [World.cell?, hrow]; rfl⟩
    · exact ⟨t, by omega, by simp only [World.cell?, hrow]; rfl⟩
  clear hrow htz
  generalize w2.alloc (.cells #[.string s, .string t] 9) = W at *
  generalize w2.heap.size = g at *
  clear B2 E2
  have HC := Lib.hid hcell
  have ne := neq2
  have eq := eql2
  have gg := eqGv
  clear hcell
  go_loopw [9, 10, 28] (fun _ _ kv wr => ∃ i : Nat, kv = .int .i64 i ∧ i ≤ 2 ∧ Below W.heap.size W wr) (fun _ _ kv _ => 2 - (intOf kv).toNat)
  case atStart => exact ⟨0, rfl, by omega, Below.refl _ _⟩
  case round =>
    obtain ⟨i, rfl, hi, hbw⟩ := hrel
    have Er := env_next _ _ E3 hbw
    by_cases hlt : i < 2
    · have l1 : decide (i < 2) = true := decide_eq_true hlt
      have l2 : decide ((i : Int) < 2) = true := decide_eq_true (by omega)
      obtain ⟨x, hx, hc0⟩ := HC.out i hlt
      have hc : wr.cell? ⟨g, i, none⟩ = some (.string x) := by
        rw [← hc0]; simp [World.cell?, hbw.block g hg]
      obtain ⟨T, X, c1, hS⟩ := HST.out x hx
      have HS := Lib.hid hS
      clear hc0 HC HST hS
      unfold Tel at c1
      go_wp2_with fail
      refine (c1 _ Er).mono ?_
      rintro r w3 ⟨rfl, hb⟩
      have B4 := hbw.trans (hb.mono hbw.size)
      clear hbw hb Er hc c1
      have KA := VBk.made w3 T X
      have BA := (Below.refl _ w3).alloc (Nat.le_refl _) (.cells #[.string T, .string X] 27)
      replace B4 := B4.trans (BA.mono B4.size)
      have E4 := env_next _ _ E3 B4
      clear BA
      have B5 := B3.trans (B4.mono B3.size)
      obtain ⟨k1, k2⟩ := KA.cells
      rcases HS.out with ⟨rfl, rfl, hne⟩ | ⟨rfl, rfl, h4⟩ | ⟨hT, c5, c6⟩ | ⟨rfl, rfl, c5⟩
      · clear HS
        have hne1 : (X.toList == ([] : List UInt8)) = false := by
          rw [beq_eq_false_iff_ne]; intro k; exact hne ((toList_iff2 _ _).1 (k.trans (by rw [ByteArray.toList_eq])))
        go_wp2_with fail
        go_roundw
        case rel => exact ⟨i + 1, by go_num, by omega, B4⟩
        case measure => simp [intOf]; omega
      · clear HS
        have l3 : decide (4 < x.size) = false := decide_eq_false (by omega)
        have l4 : decide ((4 : Int) < (x.size : Int)) = false := decide_eq_false (by omega)
        go_wp2_with fail
        go_roundw
        case rel => exact ⟨i + 1, by go_num, by omega, B4⟩
        case measure => simp [intOf]; omega
      · clear HS
        have c7 : ∀ W, Env W → Calls Tryz.prog 10 #[.string X] W fun e w' => e = .returned (.bool true) ∧ Below W.heap.size W w' := by
          have := alike_tel X T X T X c5 c6
          simpa using this
        unfold Tel at c5 c6
        obtain ⟨W5, hW5⟩ : ∃ W5, w3.alloc (.cells #[.string T, .string X] 27) = W5 := ⟨_, rfl⟩
        obtain ⟨gA, hgA⟩ : ∃ gA, w3.heap.size = gA := ⟨_, rfl⟩
        rw [hW5, hgA] at KA
        rw [hW5] at B4 E4
        have hS1 : ∀ wx, Below W5.heap.size W5 wx → (wx.cell? ⟨gA, 0, none⟩ = some (.string T) ∧ wx.cell? ⟨gA, 1, none⟩ = some (.string X) ∧ Below W5.heap.size W5 wx) := fun wx h => ⟨(KA.next h).cells.1, (KA.next h).cells.2, h⟩
        have hS2 : ∀ wx, (wx.cell? ⟨gA, 0, none⟩ = some (.string T) ∧ wx.cell? ⟨gA, 1, none⟩ = some (.string X) ∧ Below W5.heap.size W5 wx) → Below W5.heap.size W5 wx := fun wx h => h.2.2
        have HS1 := Lib.hid hS1
        have HS2 := Lib.hid hS2
        have HE : Hid (∀ wx, Below W5.heap.size W5 wx → Env wx) := fun wx h => env_next _ _ E4 h
        have HW := Lib.hid hW5
        have HG := Lib.hid hgA
        have HB := Lib.hid B4
        clear hS1 hS2 KA E4 B5 hW5 hgA B4
        rcases hT with rfl | rfl | rfl
        · go_wp2_with fail
          rw [HG.out, HW.out]
          clear HG HW k1 k2
          go_region_held3 (fun wx => wx.cell? ⟨gA, 0, none⟩ = some (.string tBool) ∧ wx.cell? ⟨gA, 1, none⟩ = some (.string X) ∧ Below W5.heap.size W5 wx)
            (first | exact hS | exact HS1.out _ (Below.refl _ _).drew)
            (first
              | (go_at_call 8; (with_reducible refine (liftC HS1.out HS2.out (c5 _ (HE.out _ (‹_ ∧ _ ∧ Below _ _ _›).2.2)) ?_).mono ?_); (exact ‹_ ∧ _ ∧ Below _ _ _›); rintro r wq ⟨rfl, hS⟩)
              | (go_at_call 8; (with_reducible refine (liftC HS1.out HS2.out (c6 _ (HE.out _ (‹_ ∧ _ ∧ Below _ _ _›).2.2)) ?_).mono ?_); (exact ‹_ ∧ _ ∧ Below _ _ _›); rintro r wq ⟨rfl, hS⟩)
              | (go_at_call 10; (with_reducible refine (liftC HS1.out HS2.out (c7 _ (HE.out _ (‹_ ∧ _ ∧ Below _ _ _›).2.2)) ?_).mono ?_); (exact ‹_ ∧ _ ∧ Below _ _ _›); rintro r wq ⟨rfl, hS⟩))
          have hq := HS2.out _ hS
          have B6 := HB.out.trans (hq.mono HB.out.size)
          clear hS hq HS1 HS2 HE HB
          go_wp2_with fail
          go_roundw
          case rel => exact ⟨i + 1, by go_num, by omega, B6⟩
          case measure => simp [intOf]; omega
        · go_wp2_with fail
          rw [HG.out, HW.out]
          clear HG HW k1 k2
          go_region_held3 (fun wx => wx.cell? ⟨gA, 0, none⟩ = some (.string tInt) ∧ wx.cell? ⟨gA, 1, none⟩ = some (.string X) ∧ Below W5.heap.size W5 wx)
            (first | exact hS | exact HS1.out _ (Below.refl _ _).drew)
            (first
              | (go_at_call 8; (with_reducible refine (liftC HS1.out HS2.out (c5 _ (HE.out _ (‹_ ∧ _ ∧ Below _ _ _›).2.2)) ?_).mono ?_); (exact ‹_ ∧ _ ∧ Below _ _ _›); rintro r wq ⟨rfl, hS⟩)
              | (go_at_call 8; (with_reducible refine (liftC HS1.out HS2.out (c6 _ (HE.out _ (‹_ ∧ _ ∧ Below _ _ _›).2.2)) ?_).mono ?_); (exact ‹_ ∧ _ ∧ Below _ _ _›); rintro r wq ⟨rfl, hS⟩)
              | (go_at_call 10; (with_reducible refine (liftC HS1.out HS2.out (c7 _ (HE.out _ (‹_ ∧ _ ∧ Below _ _ _›).2.2)) ?_).mono ?_); (exact ‹_ ∧ _ ∧ Below _ _ _›); rintro r wq ⟨rfl, hS⟩))
          have hq := HS2.out _ hS
          have B6 := HB.out.trans (hq.mono HB.out.size)
          clear hS hq HS1 HS2 HE HB
          go_wp2_with fail
          go_roundw
          case rel => exact ⟨i + 1, by go_num, by omega, B6⟩
          case measure => simp [intOf]; omega
        · go_wp2_with fail
          rw [HG.out, HW.out]
          clear HG HW k1 k2
          go_region_held3 (fun wx => wx.cell? ⟨gA, 0, none⟩ = some (.string tFloat) ∧ wx.cell? ⟨gA, 1, none⟩ = some (.string X) ∧ Below W5.heap.size W5 wx)
            (first | exact hS | exact HS1.out _ (Below.refl _ _).drew)
            (first
              | (go_at_call 8; (with_reducible refine (liftC HS1.out HS2.out (c5 _ (HE.out _ (‹_ ∧ _ ∧ Below _ _ _›).2.2)) ?_).mono ?_); (exact ‹_ ∧ _ ∧ Below _ _ _›); rintro r wq ⟨rfl, hS⟩)
              | (go_at_call 8; (with_reducible refine (liftC HS1.out HS2.out (c6 _ (HE.out _ (‹_ ∧ _ ∧ Below _ _ _›).2.2)) ?_).mono ?_); (exact ‹_ ∧ _ ∧ Below _ _ _›); rintro r wq ⟨rfl, hS⟩)
              | (go_at_call 10; (with_reducible refine (liftC HS1.out HS2.out (c7 _ (HE.out _ (‹_ ∧ _ ∧ Below _ _ _›).2.2)) ?_).mono ?_); (exact ‹_ ∧ _ ∧ Below _ _ _›); rintro r wq ⟨rfl, hS⟩))
          have hq := HS2.out _ hS
          have B6 := HB.out.trans (hq.mono HB.out.size)
          clear hS hq HS1 HS2 HE HB
          go_wp2_with fail
          go_roundw
          case rel => exact ⟨i + 1, by go_num, by omega, B6⟩
          case measure => simp [intOf]; omega
      · obtain rfl := HVO.out rfl
        clear HS
        unfold Tel at c5
        obtain ⟨W5, hW5⟩ : ∃ W5, w3.alloc (.cells #[.string tTime, .string X] 27) = W5 := ⟨_, rfl⟩
        obtain ⟨gA, hgA⟩ : ∃ gA, w3.heap.size = gA := ⟨_, rfl⟩
        rw [hW5, hgA] at KA
        rw [hW5] at B4 E4
        have hS1 : ∀ wx, Below W5.heap.size W5 wx → (wx.cell? ⟨gA, 0, none⟩ = some (.string tTime) ∧ wx.cell? ⟨gA, 1, none⟩ = some (.string X) ∧ Below W5.heap.size W5 wx) := fun wx h => ⟨(KA.next h).cells.1, (KA.next h).cells.2, h⟩
        have hS2 : ∀ wx, (wx.cell? ⟨gA, 0, none⟩ = some (.string tTime) ∧ wx.cell? ⟨gA, 1, none⟩ = some (.string X) ∧ Below W5.heap.size W5 wx) → Below W5.heap.size W5 wx := fun wx h => h.2.2
        have HS1 := Lib.hid hS1
        have HS2 := Lib.hid hS2
        have HE : Hid (∀ wx, Below W5.heap.size W5 wx → Env wx) := fun wx h => env_next _ _ E4 h
        have HW := Lib.hid hW5
        have HG := Lib.hid hgA
        have HB := Lib.hid B4
        clear hS1 hS2 KA E4 B5 hW5 hgA B4
        go_wp2_with fail
        rw [HG.out, HW.out]
        clear HG HW k1 k2
        go_region_held3 (fun wx => wx.cell? ⟨gA, 0, none⟩ = some (.string tTime) ∧ wx.cell? ⟨gA, 1, none⟩ = some (.string X) ∧ Below W5.heap.size W5 wx)
          (first | exact hS | exact HS1.out _ (Below.refl _ _).drew)
          (first
            | (go_at_call 8; (with_reducible refine (liftC HS1.out HS2.out (c5 _ (HE.out _ (‹_ ∧ _ ∧ Below _ _ _›).2.2)) ?_).mono ?_); (exact ‹_ ∧ _ ∧ Below _ _ _›); rintro r wq ⟨rfl, hS⟩))
        have hq := HS2.out _ hS
        have B6 := HB.out.trans (hq.mono HB.out.size)
        clear hS hq HS1 HS2 HE HB
        go_wp2_with fail
        go_roundw
        case rel => exact ⟨i + 1, by go_num, by omega, B6⟩
        case measure => simp [intOf]; omega
    · obtain rfl : i = 2 := by omega
      have B6 := B3.trans (hbw.mono B3.size)
      clear hbw Er hlt hi HC B3 E3
      go_wp2
      go_ret
      exact ⟨rfl, B6⟩
theorem stays_any (old : Bool) (s : ByteArray) (a : Option Addr) (cap : Nat) (l : List UInt8) (w : World) (hE : Env w) (hin : InB w a l) :
    Calls Tryz.prog 4 #[.bool old, .string s, .slice a l.length cap] w fun e w' => e = .returned (.bool true) ∧ Below w.heap.size w w' := by
  by_cases h : 60 < s.size ∨ (s.size ≤ 60 ∧ 8 < l.length)
  · exact stays_long old s a cap l w hE h
  · cases old
    · exact stays_core false 12 s a cap l w hE hin (by omega) (by omega) (fun W => version_any false W) stay_new (by decide)
    · exact stays_core true 11 s a cap l w hE hin (by omega) (by omega) (fun W => version_any true W) stay_old (fun _ => rfl)
theorem stays_law (b : Bool) (s : ByteArray) (a : Option Addr) (cap : Nat) (l : List UInt8) (w : World) (hE : Env w) (hs : s.size ≤ maxLen) (hin : InB w a l) :
    Calls Tryz.prog 4 #[.bool b, .string s, .slice a l.length cap] w fun e w' => e = .returned (.bool true) ∧ Below w.heap.size w w' := stays_any b s a cap l w hE hin
end Go.Proofs.YtipgipgehnhgkaaGreatDoor
