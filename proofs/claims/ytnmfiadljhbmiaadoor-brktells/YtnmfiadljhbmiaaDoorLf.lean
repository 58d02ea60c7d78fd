/- The law BrkTells: its walk. -/
import Derived.Test.YtnmfiadljhbmiaaDoorRg
import Derived.Test.YtnmfiadljhbmiaaDoorRe
import Derived.Test.YtnmfiadljhbmiaaDoorLb
import Derived.Deep.RegionHeld3
set_option linter.unusedVariables false
namespace Go.Proofs.YtnmfiadljhbmiaaDoor
open Go.RowKit

theorem may_any (s : ByteArray) (i : Int) (w : World) (hT : Tabs w) :
    Calls Tryd.prog 12 #[.string s, .int .i64 i] w fun r w' => r = .returned (.int .i64 (mayZ s.data.toList i)) ∧ Below w.heap.size w w' := by
  by_cases h : i < 0 ∨ (s.size : Int) ≤ i
  · rw [mayZ_out _ _ h]; exact (may_out s i w h).mono fun _ _ ⟨h1, h2⟩ => ⟨h1, h2 ▸ Below.refl _ _⟩
  · obtain ⟨n, rfl⟩ := Int.eq_ofNat_of_zero_le (show 0 ≤ i by omega)
    rw [mayZ_nat]; exact may_in s n w hT (by omega)

/-- What a drawn statement that tells a line holds: the line's three cells, and all that was there. -/
def SC (W0 : World) (K : Nat) (a e x : Int) (w : World) : Prop :=
  w.cell? ⟨K, 0, none⟩ = some (.int .i64 a) ∧ w.cell? ⟨K, 1, none⟩ = some (.int .i64 e) ∧ w.cell? ⟨K, 2, none⟩ = some (.int .i64 x) ∧ Below W0.heap.size W0 w
theorem SC.next {W0 : World} {K : Nat} {a e x : Int} {w w' : World} (h : SC W0 K a e x w) (hK : K < W0.heap.size) (hb : Below w.heap.size w w') : SC W0 K a e x w' := by
  obtain ⟨h0, h1, h2, h3⟩ := h
  have hk : K < w.heap.size := Nat.lt_of_lt_of_le hK h3.size
  exact ⟨(hb.cell (p := ⟨K, 0, none⟩) hk).trans h0, (hb.cell (p := ⟨K, 1, none⟩) hk).trans h1, (hb.cell (p := ⟨K, 2, none⟩) hk).trans h2, h3.trans (hb.mono h3.size)⟩
theorem lift_same {f : FuncId} {args : Array Value} {w : World} {v : Value} {W0 : World} {K : Nat} {a e x : Int} (c : Calls Tryd.prog f args w fun r w' => r = .returned v ∧ w = w') (h : SC W0 K a e x w) :
    Calls Tryd.prog f args w fun r w' => r = .returned v ∧ SC W0 K a e x w' := c.mono fun _ _ ⟨h1, h2⟩ => ⟨h1, h2 ▸ h⟩
theorem lift_below {f : FuncId} {args : Array Value} {w : World} {v : Value} {W0 : World} {K : Nat} {a e x : Int} (hK : K < W0.heap.size) (c : Calls Tryd.prog f args w fun r w' => r = .returned v ∧ Below w.heap.size w w') (h : SC W0 K a e x w) :
    Calls Tryd.prog f args w fun r w' => r = .returned v ∧ SC W0 K a e x w' := c.mono fun _ _ ⟨h1, h2⟩ => ⟨h1, h.next hK h2⟩

set_option maxRecDepth 100000 in
set_option maxHeartbeats 4000000 in
theorem tells_any (s : ByteArray) (v i a e x : Int) (w : World) (hT : Tabs w) (hs : s.size ≤ maxLen) :
    Calls Tryd.prog 3 #[.string s, .int .i64 v, .int .i64 i, .agg #[.int .i64 a, .int .i64 e, .int .i64 x]] w fun r w' => r = .returned (.bool true) ∧ Below w.heap.size w w' := by
  unfold maxLen at hs
  have hs2 : s.size ≤ 9223372036854775807 := by omega
  clear hs
  have b0 := (Below.refl w.heap.size w).alloc (Nat.le_refl _) (.cells #[.int .i64 a, .int .i64 e, .int .i64 x] 23)
  have hTb := hT.below b0
  have HB0 := Lib.hid b0
  clear b0
  go_enter Tryd.func3, Tryd.ntmps3
  go_wp2_with fail
  refine (known_any _ hTb).mono ?_
  rintro r W0 ⟨rfl, b1⟩
  have p0 : W0.cell? ⟨w.heap.size, 0, none⟩ = some (.int .i64 a) := (b1.cell (p := ⟨w.heap.size, 0, none⟩) (by simp)).trans (by simp)
  have p1 : W0.cell? ⟨w.heap.size, 1, none⟩ = some (.int .i64 e) := (b1.cell (p := ⟨w.heap.size, 1, none⟩) (by simp)).trans (by simp)
  have p2 : W0.cell? ⟨w.heap.size, 2, none⟩ = some (.int .i64 x) := (b1.cell (p := ⟨w.heap.size, 2, none⟩) (by simp)).trans (by simp)
  have hK0 : w.heap.size < W0.heap.size := by have := b1.size; simp at this; omega
  have B0 : Below w.heap.size w W0 := HB0.out.trans (b1.mono (by simp))
  have T0 : Tabs W0 := hTb.below b1
  clear b1 hTb HB0
  by_cases h3 : 300 < s.size
  · have d3 : decide ((300 : Int) < (s.size : Int)) = true := by simp; omega
    go_wp2
    go_ret
    exact ⟨rfl, B0⟩
  have d3 : decide ((300 : Int) < (s.size : Int)) = false := by simp; omega
  have hs3 : s.size ≤ 300 := by omega
  clear h3
  obtain ⟨K, hK⟩ : ∃ K, w.heap.size = K := ⟨_, rfl⟩
  have HK := Lib.hid hK
  rw [hK] at p0 p1 p2 hK0 ⊢
  clear hK
  have c10 := fun W => break_any v s i W (by omega)
  have c11 := fun W => rbreak_any v s i W (by omega)
  have c12 := fun W hT => may_any s i W hT
  have c13 := fun W => rmay_any s i W (by omega)
  have c14 := fun W hT => check_any s W hT (by omega)
  have c15 := fun W => rcheck_any s W (by omega)
  have c16 := fun W => indent_any s a e x W (by omega)
  have c17 := fun W => rindent_any s a e x W (by omega)
  have c18 := fun W => blank_any s a e x W (by omega)
  have c19 := fun W => rblank_any s a e x W (by omega)
  have c20 := fun W => marker_any s a e x W (by omega)
  have c21 := fun W => rmarker_any s a e x W (by omega)
  generalize brkZ (isOld v) s.data.toList i = z1 at c10 c11
  generalize mayZ s.data.toList i = z2 at c12 c13
  generalize M.optZ (M.chk s.data.toList) = z3 at c14 c15
  generalize indZ s.data.toList a e x = z4 at c16 c17
  generalize blZ s.data.toList a e x = z5 at c18 c19
  generalize mkZ s.data.toList a e x = z6 at c20 c21
  go_wp2_with fail
  go_region_held3 (fun w' => w'.cell? ⟨K, 0, none⟩ = some (.int .i64 a) ∧ w'.cell? ⟨K, 1, none⟩ = some (.int .i64 e) ∧ w'.cell? ⟨K, 2, none⟩ = some (.int .i64 x) ∧ Below W0.heap.size W0 w')
    (first | exact hS | exact ⟨p0, p1, p2, (Below.refl _ _).drew⟩)
    (first
      | (go_at_call 10; refine (lift_same (W0 := W0) (K := K) (a := a) (e := e) (x := x) (c10 _) ?_).mono ?_; (exact ‹_ ∧ _ ∧ _ ∧ Below _ _ _›); rintro r w2 ⟨rfl, hS⟩)
      | (go_at_call 11; refine (lift_same (W0 := W0) (K := K) (a := a) (e := e) (x := x) (c11 _) ?_).mono ?_; (exact ‹_ ∧ _ ∧ _ ∧ Below _ _ _›); rintro r w2 ⟨rfl, hS⟩)
      | (go_at_call 12; refine (lift_below (W0 := W0) (K := K) (a := a) (e := e) (x := x) hK0 (c12 _ (T0.below (‹_ ∧ _ ∧ _ ∧ Below _ _ _›).2.2.2)) ?_).mono ?_; (exact ‹_ ∧ _ ∧ _ ∧ Below _ _ _›); rintro r w2 ⟨rfl, hS⟩)
      | (go_at_call 13; refine (lift_same (W0 := W0) (K := K) (a := a) (e := e) (x := x) (c13 _) ?_).mono ?_; (exact ‹_ ∧ _ ∧ _ ∧ Below _ _ _›); rintro r w2 ⟨rfl, hS⟩)
      | (go_at_call 14; refine (lift_below (W0 := W0) (K := K) (a := a) (e := e) (x := x) hK0 (c14 _ (T0.below (‹_ ∧ _ ∧ _ ∧ Below _ _ _›).2.2.2)) ?_).mono ?_; (exact ‹_ ∧ _ ∧ _ ∧ Below _ _ _›); rintro r w2 ⟨rfl, hS⟩)
      | (go_at_call 15; refine (lift_same (W0 := W0) (K := K) (a := a) (e := e) (x := x) (c15 _) ?_).mono ?_; (exact ‹_ ∧ _ ∧ _ ∧ Below _ _ _›); rintro r w2 ⟨rfl, hS⟩)
      | (go_at_call 16; refine (lift_below (W0 := W0) (K := K) (a := a) (e := e) (x := x) hK0 (c16 _) ?_).mono ?_; (exact ‹_ ∧ _ ∧ _ ∧ Below _ _ _›); rintro r w2 ⟨rfl, hS⟩)
      | (go_at_call 17; refine (lift_below (W0 := W0) (K := K) (a := a) (e := e) (x := x) hK0 (c17 _) ?_).mono ?_; (exact ‹_ ∧ _ ∧ _ ∧ Below _ _ _›); rintro r w2 ⟨rfl, hS⟩)
      | (go_at_call 18; refine (lift_below (W0 := W0) (K := K) (a := a) (e := e) (x := x) hK0 (c18 _) ?_).mono ?_; (exact ‹_ ∧ _ ∧ _ ∧ Below _ _ _›); rintro r w2 ⟨rfl, hS⟩)
      | (go_at_call 19; refine (lift_below (W0 := W0) (K := K) (a := a) (e := e) (x := x) hK0 (c19 _) ?_).mono ?_; (exact ‹_ ∧ _ ∧ _ ∧ Below _ _ _›); rintro r w2 ⟨rfl, hS⟩)
      | (go_at_call 20; refine (lift_below (W0 := W0) (K := K) (a := a) (e := e) (x := x) hK0 (c20 _) ?_).mono ?_; (exact ‹_ ∧ _ ∧ _ ∧ Below _ _ _›); rintro r w2 ⟨rfl, hS⟩)
      | (go_at_call 21; refine (lift_below (W0 := W0) (K := K) (a := a) (e := e) (x := x) hK0 (c21 _) ?_).mono ?_; (exact ‹_ ∧ _ ∧ _ ∧ Below _ _ _›); rintro r w2 ⟨rfl, hS⟩))
  have B2 : Below w.heap.size w w2 := B0.trans (hS.2.2.2.mono B0.size)
  have T2 : Tabs w2 := T0.below hS.2.2.2
  clear c10 c11 c12 c13 c14 c15 c16 c17 c18 c19 c20 c21
  clear p0 p1 p2 hS T0 B0 hK0 HK
  go_wp2_with fail
  have q0 : (w2.alloc (.cells #[.int .i64 11, .int .i64 12, .int .i64 v] 3)).cell? ⟨w2.heap.size, 0, none⟩ = some (.int .i64 11) := by simp
  have q1 : (w2.alloc (.cells #[.int .i64 11, .int .i64 12, .int .i64 v] 3)).cell? ⟨w2.heap.size, 1, none⟩ = some (.int .i64 12) := by simp
  have q2 : (w2.alloc (.cells #[.int .i64 11, .int .i64 12, .int .i64 v] 3)).cell? ⟨w2.heap.size, 2, none⟩ = some (.int .i64 v) := by simp
  have B3 := B2.alloc B2.size (.cells #[.int .i64 11, .int .i64 12, .int .i64 v] 3)
  have T3 := T2.below ((Below.refl w2.heap.size w2).alloc (Nat.le_refl _) (.cells #[.int .i64 11, .int .i64 12, .int .i64 v] 3))
  have hG : w2.heap.size < (w2.alloc (.cells #[.int .i64 11, .int .i64 12, .int .i64 v] 3)).heap.size := by simp
  generalize w2.alloc (.cells #[.int .i64 11, .int .i64 12, .int .i64 v] 3) = W3 at *
  obtain ⟨G, hGe⟩ : ∃ G, w2.heap.size = G := ⟨_, rfl⟩
  rw [hGe] at q0 q1 q2 hG ⊢
  clear hGe B2 T2
  have HQ : Hid (∀ n : Nat, n < 3 → ∃ vv : Int, W3.cell? ⟨G, n, none⟩ = some (.int .i64 vv)) := by
    intro n hn
    rcases (show n = 0 ∨ n = 1 ∨ n = 2 by omega) with rfl | rfl | rfl
    · exact ⟨_, q0⟩
    · exact ⟨_, q1⟩
    · exact ⟨_, q2⟩
  clear q0 q1 q2
  go_loopw [75] (fun iv wr => ∃ n : Nat, iv = .int .i64 n ∧ n ≤ 3 ∧ Below W3.heap.size W3 wr) (fun iv _ => 3 - (intOf iv).toNat)
  case atStart => exact ⟨0, rfl, by omega, Below.refl _ _⟩
  case round =>
    obtain ⟨n, rfl, hn3, hbw⟩ := hrel
    by_cases hlt : n < 3
    · have d1 : decide (n < 3) = true := by simpa using hlt
      have d2 : (n : Int) < 3 := by omega
      obtain ⟨vv, hcell⟩ := HQ.out n hlt
      have hc : wr.cell? ⟨G, n, none⟩ = some (.int .i64 vv) := (hbw.cell (p := ⟨G, n, none⟩) hG).trans hcell
      clear hcell
      have cA := lines_any vv s wr (by omega)
      have cB := fun W => rlines_any vv s W (by omega)
      have hll := lines_le (isOld vv) s.data.toList
      rw [← sz_list] at hll
      obtain ⟨X, hX⟩ : ∃ X, M.lines (isOld vv) s.data.toList = X := ⟨_, rfl⟩
      rw [hX] at hll
      have HX := Lib.hid hX
      clear hX
      go_wp2_with fail
      refine cA.mono ?_
      rintro r w4 ⟨⟨v4, rfl, o4⟩, b4⟩
      rw [HX.out] at o4
      go_wp2_with fail
      refine (cB _).mono ?_
      rintro r w5 ⟨⟨v5, rfl, o5⟩, b5⟩
      rw [HX.out] at o5
      go_wp2_with fail
      refine (hlines_any v4 v5 X X w5 (o4.sl.below b5) o5.sl (by omega)).mono ?_
      rintro r w6 ⟨rfl, b6⟩
      rw [decide_eq_true (rfl : X = X)]
      have S6 : SL w6 v4 X := (o4.sl.below b5).below b6
      have B6 : Below W3.heap.size W3 w6 := ((hbw.trans (b4.mono hbw.size)).trans (b5.mono (Nat.le_trans hbw.size b4.size))).trans (b6.mono (Nat.le_trans hbw.size (Nat.le_trans b4.size b5.size)))
      clear o4 o5 b4 b5 b6 cA cB HX
      obtain ⟨ad, cp, hv4, hrow⟩ := S6
      rw [hv4]
      clear hv4
      have HRow := Lib.hid hrow
      clear hrow hc
      go_wp2_with fail
      go_loopw [90] (fun jv wq => ∃ j : Nat, jv = .int .i64 j ∧ j ≤ X.length ∧ Below w6.heap.size w6 wq) (fun jv _ => X.length - (intOf jv).toNat)
      case atStart => exact ⟨0, rfl, Nat.zero_le _, Below.refl _ _⟩
      case round =>
        obtain ⟨j, rfl, hj, hbq⟩ := hrel
        by_cases hjl : j < X.length
        · have d4 : decide (j < X.length) = true := by simpa using hjl
          have d5 : (j : Int) < (X.length : Int) := by omega
          obtain ⟨g, rfl, hrows, hgl⟩ := HRow.out (by intro h; rw [h] at hjl; simp at hjl)
          obtain ⟨r0, r1, r2⟩ := (hrows.below hgl hbq) j hjl
          obtain ⟨⟨xa, xe, xx⟩, hxj⟩ : ∃ y, X[j] = y := ⟨_, rfl⟩
          rw [hxj] at r0 r1 r2
          simp only at r0 r1 r2
          clear hxj hrows
          have c16 := fun W => indent_any s xa xe xx W (by omega)
          have c17 := fun W => rindent_any s xa xe xx W (by omega)
          have c18 := fun W => blank_any s xa xe xx W (by omega)
          have c19 := fun W => rblank_any s xa xe xx W (by omega)
          have c20 := fun W => marker_any s xa xe xx W (by omega)
          have c21 := fun W => rmarker_any s xa xe xx W (by omega)
          generalize indZ s.data.toList xa xe xx = y4 at c16 c17
          generalize blZ s.data.toList xa xe xx = y5 at c18 c19
          generalize mkZ s.data.toList xa xe xx = y6 at c20 c21
          go_wp2_with fail
          have m0 : (wr.alloc (.cells #[.int .i64 xa, .int .i64 xe, .int .i64 xx] 23)).cell? ⟨wr.heap.size, 0, none⟩ = some (.int .i64 xa) := by simp
          have m1 : (wr.alloc (.cells #[.int .i64 xa, .int .i64 xe, .int .i64 xx] 23)).cell? ⟨wr.heap.size, 1, none⟩ = some (.int .i64 xe) := by simp
          have m2 : (wr.alloc (.cells #[.int .i64 xa, .int .i64 xe, .int .i64 xx] 23)).cell? ⟨wr.heap.size, 2, none⟩ = some (.int .i64 xx) := by simp
          have hK7 : wr.heap.size < (wr.alloc (.cells #[.int .i64 xa, .int .i64 xe, .int .i64 xx] 23)).heap.size := by simp
          have hb7 := hbq.alloc hbq.size (.cells #[.int .i64 xa, .int .i64 xe, .int .i64 xx] 23)
          generalize wr.alloc (.cells #[.int .i64 xa, .int .i64 xe, .int .i64 xx] 23) = W7 at *
          obtain ⟨K7, hK7e⟩ : ∃ K7, wr.heap.size = K7 := ⟨_, rfl⟩
          rw [hK7e] at m0 m1 m2 hK7 ⊢
          clear hK7e hbq r0 r1 r2
          go_region_held3 (fun w' => w'.cell? ⟨K7, 0, none⟩ = some (.int .i64 xa) ∧ w'.cell? ⟨K7, 1, none⟩ = some (.int .i64 xe) ∧ w'.cell? ⟨K7, 2, none⟩ = some (.int .i64 xx) ∧ Below W7.heap.size W7 w')
            (first | exact hS | exact ⟨m0, m1, m2, (Below.refl _ _).drew⟩)
            (first
              | (go_at_call 16; refine (lift_below (W0 := W7) (K := K7) (a := xa) (e := xe) (x := xx) hK7 (c16 _) ?_).mono ?_; (exact ‹_ ∧ _ ∧ _ ∧ Below _ _ _›); rintro r w8 ⟨rfl, hS⟩)
              | (go_at_call 17; refine (lift_below (W0 := W7) (K := K7) (a := xa) (e := xe) (x := xx) hK7 (c17 _) ?_).mono ?_; (exact ‹_ ∧ _ ∧ _ ∧ Below _ _ _›); rintro r w8 ⟨rfl, hS⟩)
              | (go_at_call 18; refine (lift_below (W0 := W7) (K := K7) (a := xa) (e := xe) (x := xx) hK7 (c18 _) ?_).mono ?_; (exact ‹_ ∧ _ ∧ _ ∧ Below _ _ _›); rintro r w8 ⟨rfl, hS⟩)
              | (go_at_call 19; refine (lift_below (W0 := W7) (K := K7) (a := xa) (e := xe) (x := xx) hK7 (c19 _) ?_).mono ?_; (exact ‹_ ∧ _ ∧ _ ∧ Below _ _ _›); rintro r w8 ⟨rfl, hS⟩)
              | (go_at_call 20; refine (lift_below (W0 := W7) (K := K7) (a := xa) (e := xe) (x := xx) hK7 (c20 _) ?_).mono ?_; (exact ‹_ ∧ _ ∧ _ ∧ Below _ _ _›); rintro r w8 ⟨rfl, hS⟩)
              | (go_at_call 21; refine (lift_below (W0 := W7) (K := K7) (a := xa) (e := xe) (x := xx) hK7 (c21 _) ?_).mono ?_; (exact ‹_ ∧ _ ∧ _ ∧ Below _ _ _›); rintro r w8 ⟨rfl, hS⟩))
          have B8 : Below w6.heap.size w6 w8 := hb7.trans (hS.2.2.2.mono hb7.size)
          clear c16 c17 c18 c19 c20 c21 m0 m1 m2 hS
          go_wp2
          go_roundw
          case rel => first | exact ⟨j + 1, by go_num, by omega, B8⟩ | ((repeat apply Exists.intro); exact ⟨⟨j + 1, by go_num, by omega, B8⟩, rfl⟩)
          case measure => simp [intOf]; omega
        · obtain rfl : j = X.length := by omega
          have d4 : decide (X.length < X.length) = false := by simp
          clear hjl
          go_wp2
          go_roundw
          case rel => exact ⟨n + 1, by go_num, by omega, B6.trans (hbq.mono B6.size)⟩
          case measure => simp [intOf]; omega
    · obtain rfl : n = 3 := by omega
      have d1 : decide ((3 : Int) < 3) = false := by simp
      clear hlt
      go_wp2_with fail
      go_loopw [14] (fun kv wq => ∃ k : Nat, kv = .int .i64 k ∧ k ≤ s.size + 1 ∧ Below W3.heap.size W3 wq) (fun kv _ => s.size + 1 - (intOf kv).toNat)
      case atStart => exact ⟨0, rfl, Nat.zero_le _, hbw⟩
      case round =>
        obtain ⟨k, rfl, hk, hbq⟩ := hrel
        by_cases hkl : k ≤ s.size
        · have d2 : decide (k ≤ s.size) = true := by simpa using hkl
          have c10 := fun W => break_any 11 s k W (by omega)
          have c11 := fun W => rbreak_any 11 s k W (by omega)
          have c12 := fun W hT => may_any s k W hT
          have c13 := fun W => rmay_any s k W (by omega)
          generalize brkZ (isOld 11) s.data.toList k = z1 at c10 c11
          generalize mayZ s.data.toList k = z2 at c12 c13
          go_wp2_with fail
          refine (c10 _).mono ?_
          rintro r w' ⟨rfl, rfl⟩
          go_wp2_with fail
          refine (c11 _).mono ?_
          rintro r w' ⟨rfl, rfl⟩
          go_wp2_with fail
          refine (c12 _ (T3.below hbq)).mono ?_
          rintro r w7 ⟨rfl, b7⟩
          go_wp2_with fail
          refine (c13 _).mono ?_
          rintro r w' ⟨rfl, rfl⟩
          clear c10 c11 c12 c13
          go_wp2
          go_roundw
          case rel => first | exact ⟨k + 1, by go_num, by omega, hbq.trans (b7.mono hbq.size)⟩ | ((repeat apply Exists.intro); exact ⟨⟨k + 1, by go_num, by omega, hbq.trans (b7.mono hbq.size)⟩, rfl⟩)
          case measure => simp [intOf]; omega
        · obtain rfl : k = s.size + 1 := by omega
          have d2 : decide ((s.size : Int) + 1 ≤ (s.size : Int)) = false := decide_eq_false (by omega)
          clear hkl
          go_wp2
          go_ret
          exact ⟨rfl, B3.trans (hbq.mono B3.size)⟩

end Go.Proofs.YtnmfiadljhbmiaaDoor
