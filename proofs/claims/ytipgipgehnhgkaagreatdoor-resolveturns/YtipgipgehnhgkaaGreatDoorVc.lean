/- Walks: resolve's Plain and Alike, out of what they call. -/
import Derived.Test.YtipgipgehnhgkaaGreatDoorVb
set_option linter.unusedVariables false
namespace Go.Proofs.YtipgipgehnhgkaaGreatDoor
open Go.RowKit
open Go

set_option maxRecDepth 100000 in
set_option maxHeartbeats 1000000 in
theorem plain_word {E : World → Prop} (hn : ∀ w w' : World, E w → Below w.heap.size w w' → E w') (v : Int) (s T1 X1 : ByteArray) (w : World) (hE : E w)
    (hp : decide (T1 = (⟨#[]⟩ : ByteArray) ∧ X1 = (⟨#[]⟩ : ByteArray)) = false)
    (c1 : ∀ W, E W → Calls Tryz.prog 14 #[.int .i64 v, .string s] W fun e w' => e = .returned (vV T1 X1) ∧ Below W.heap.size W w') :
    Calls Tryz.prog 8 #[.int .i64 v, .string s] w fun e w' => e = .returned (vV T1 X1) ∧ Below w.heap.size w w' := by
  have ne := neq2
  have eq := eql2
  have gg := eqGv
  have B : Below w.heap.size w (w.alloc (.cells #[.string ⟨#[]⟩, .string ⟨#[]⟩] 27)) := (Below.refl _ _).alloc (Nat.le_refl _) _
  have K0 := VBk.made w ⟨#[]⟩ ⟨#[]⟩
  have K1 := VBk.made (w.alloc (.cells #[.string ⟨#[]⟩, .string ⟨#[]⟩] 27)) ⟨#[]⟩ ⟨#[]⟩
  rw [show (w.alloc (.cells #[.string ⟨#[]⟩, .string ⟨#[]⟩] 27)).heap.size = w.heap.size + 1 by simp] at K1
  have BB := (Below.refl _ (w.alloc (.cells #[.string ⟨#[]⟩, .string ⟨#[]⟩] 27))).alloc (Nat.le_refl _) (.cells #[.string ⟨#[]⟩, .string ⟨#[]⟩] 27)
  replace K0 := K0.next BB
  replace B := B.trans (BB.mono B.size)
  have E0 := hn _ _ hE B
  go_enter Tryz.func8, Tryz.ntmps8
  go_wp2_with fail
  refine (c1 _ E0).mono ?_
  rintro r w1 ⟨rfl, hb⟩
  replace K0 := K0.next hb
  replace K1 := K1.next hb
  replace B := B.trans (hb.mono B.size)
  clear hb BB
  have K2 := VBk.made w1 T1 X1
  have BB := (Below.refl _ w1).alloc (Nat.le_refl _) (.cells #[.string T1, .string X1] 27)
  replace K0 := K0.next BB
  replace K1 := K1.next BB
  replace B := B.trans (BB.mono B.size)
  obtain ⟨k0, k1⟩ := K0.cells
  obtain ⟨k2, k3⟩ := K1.cells
  obtain ⟨f0, f1⟩ := K0.fro
  clear BB
  go_wp2
  exact bodyPost_ret (ret_val Tryz.results8 _ rfl (K0.set _ _)) rfl ⟨rfl, below_set2 B (Nat.le_refl _) _ _⟩
set_option maxRecDepth 100000 in
set_option maxHeartbeats 1000000 in
theorem plain_old {E : World → Prop} (hn : ∀ w w' : World, E w → Below w.heap.size w w' → E w') (v : Int) (s T2 X2 : ByteArray) (w : World) (hE : E w) (hv : (v == 11) = true)
    (hq : decide (T2 = (⟨#[]⟩ : ByteArray) ∧ X2 = (⟨#[]⟩ : ByteArray)) = false)
    (c1 : ∀ W, E W → Calls Tryz.prog 14 #[.int .i64 v, .string s] W fun e w' => e = .returned (vV ⟨#[]⟩ ⟨#[]⟩) ∧ Below W.heap.size W w')
    (c2 : ∀ W, E W → Calls Tryz.prog 15 #[.string s] W fun e w' => e = .returned (vV T2 X2) ∧ Below W.heap.size W w') :
    Calls Tryz.prog 8 #[.int .i64 v, .string s] w fun e w' => e = .returned (vV T2 X2) ∧ Below w.heap.size w w' := by
  have ne := neq2
  have eq := eql2
  have gg := eqGv
  have B : Below w.heap.size w (w.alloc (.cells #[.string ⟨#[]⟩, .string ⟨#[]⟩] 27)) := (Below.refl _ _).alloc (Nat.le_refl _) _
  have K0 := VBk.made w ⟨#[]⟩ ⟨#[]⟩
  have K1 := VBk.made (w.alloc (.cells #[.string ⟨#[]⟩, .string ⟨#[]⟩] 27)) ⟨#[]⟩ ⟨#[]⟩
  rw [show (w.alloc (.cells #[.string ⟨#[]⟩, .string ⟨#[]⟩] 27)).heap.size = w.heap.size + 1 by simp] at K1
  have BB := (Below.refl _ (w.alloc (.cells #[.string ⟨#[]⟩, .string ⟨#[]⟩] 27))).alloc (Nat.le_refl _) (.cells #[.string ⟨#[]⟩, .string ⟨#[]⟩] 27)
  replace K0 := K0.next BB
  replace B := B.trans (BB.mono B.size)
  have hlt0 : w.heap.size < w.heap.size + 1 := by omega
  have E0 := hn _ _ hE B
  go_enter Tryz.func8, Tryz.ntmps8
  go_wp2_with fail
  refine (c1 _ E0).mono ?_
  rintro r w1 ⟨rfl, hb⟩
  replace K0 := K0.next hb
  replace K1 := K1.next hb
  have hK1 := K1.lt
  replace B := B.trans (hb.mono B.size)
  replace E0 := hn _ _ E0 hb
  clear hb BB
  have K2 := VBk.made w1 ⟨#[]⟩ ⟨#[]⟩
  have BB := (Below.refl _ w1).alloc (Nat.le_refl _) (.cells #[.string ⟨#[]⟩, .string ⟨#[]⟩] 27)
  replace K0 := K0.next BB
  replace K1 := K1.next BB
  replace B := B.trans (BB.mono B.size)
  replace E0 := hn _ _ E0 BB
  obtain ⟨k0, k1⟩ := K0.cells
  obtain ⟨k2, k3⟩ := K1.cells
  have hg12 : w.heap.size + 1 < w1.heap.size := by
    have := K1.lt
    rcases Nat.lt_or_ge (w.heap.size + 1) w1.heap.size with h | h
    · exact h
    · exfalso; exact absurd hK1 (by omega)
  clear BB
  go_wp2_with fail
  refine (c2 _ E0).mono ?_
  rintro r w2 ⟨rfl, hb⟩
  clear k0 k1 k2 k3
  replace K0 := (K0.next hb).other (k := w1.heap.size) (by omega) T2 X2
  replace K1 := (K1.next hb).other (k := w1.heap.size) (by omega) T2 X2
  replace K2 := K2.next hb
  obtain ⟨j0, j1⟩ := K2.cells
  obtain ⟨i0, i1⟩ := K2.fro
  replace K2 := K2.set T2 X2
  replace B := below_set2 (B.trans (hb.mono B.size)) (g := w1.heap.size) (by omega) T2 X2
  clear hb
  obtain ⟨k0, k1⟩ := K0.cells
  obtain ⟨k2, k3⟩ := K1.cells
  obtain ⟨k4, k5⟩ := K2.cells
  obtain ⟨f0, f1⟩ := K0.fro
  go_wp2
  exact bodyPost_ret (ret_val Tryz.results8 _ rfl (K0.set _ _)) rfl ⟨rfl, below_set2 B (Nat.le_refl _) _ _⟩
set_option maxRecDepth 100000 in
set_option maxHeartbeats 1000000 in
theorem plain_oldS {E : World → Prop} (hn : ∀ w w' : World, E w → Below w.heap.size w w' → E w') (v : Int) (s T2 X2 : ByteArray) (w : World) (hE : E w) (hv : (v == 11) = true)
    (hq : decide (T2 = (⟨#[]⟩ : ByteArray) ∧ X2 = (⟨#[]⟩ : ByteArray)) = true)
    (c1 : ∀ W, E W → Calls Tryz.prog 14 #[.int .i64 v, .string s] W fun e w' => e = .returned (vV ⟨#[]⟩ ⟨#[]⟩) ∧ Below W.heap.size W w')
    (c2 : ∀ W, E W → Calls Tryz.prog 15 #[.string s] W fun e w' => e = .returned (vV T2 X2) ∧ Below W.heap.size W w')
    (c5 : ∀ W, Calls Tryz.prog 17 #[.string s] W fun e w' => e = .returned (.string s) ∧ Below W.heap.size W w') :
    Calls Tryz.prog 8 #[.int .i64 v, .string s] w fun e w' => e = .returned (vV tStr s) ∧ Below w.heap.size w w' := by
  have ne := neq2
  have eq := eql2
  have gg := eqGv
  have B : Below w.heap.size w (w.alloc (.cells #[.string ⟨#[]⟩, .string ⟨#[]⟩] 27)) := (Below.refl _ _).alloc (Nat.le_refl _) _
  have K0 := VBk.made w ⟨#[]⟩ ⟨#[]⟩
  have K1 := VBk.made (w.alloc (.cells #[.string ⟨#[]⟩, .string ⟨#[]⟩] 27)) ⟨#[]⟩ ⟨#[]⟩
  rw [show (w.alloc (.cells #[.string ⟨#[]⟩, .string ⟨#[]⟩] 27)).heap.size = w.heap.size + 1 by simp] at K1
  have BB := (Below.refl _ (w.alloc (.cells #[.string ⟨#[]⟩, .string ⟨#[]⟩] 27))).alloc (Nat.le_refl _) (.cells #[.string ⟨#[]⟩, .string ⟨#[]⟩] 27)
  replace K0 := K0.next BB
  replace B := B.trans (BB.mono B.size)
  have hlt0 : w.heap.size < w.heap.size + 1 := by omega
  have E0 := hn _ _ hE B
  go_enter Tryz.func8, Tryz.ntmps8
  go_wp2_with fail
  refine (c1 _ E0).mono ?_
  rintro r w1 ⟨rfl, hb⟩
  replace K0 := K0.next hb
  replace K1 := K1.next hb
  have hK1 := K1.lt
  replace B := B.trans (hb.mono B.size)
  replace E0 := hn _ _ E0 hb
  clear hb BB
  have K2 := VBk.made w1 ⟨#[]⟩ ⟨#[]⟩
  have BB := (Below.refl _ w1).alloc (Nat.le_refl _) (.cells #[.string ⟨#[]⟩, .string ⟨#[]⟩] 27)
  replace K0 := K0.next BB
  replace K1 := K1.next BB
  replace B := B.trans (BB.mono B.size)
  replace E0 := hn _ _ E0 BB
  obtain ⟨k0, k1⟩ := K0.cells
  obtain ⟨k2, k3⟩ := K1.cells
  have hg12 : w.heap.size + 1 < w1.heap.size := by
    have := K1.lt
    rcases Nat.lt_or_ge (w.heap.size + 1) w1.heap.size with h | h
    · exact h
    · exfalso; exact absurd hK1 (by omega)
  clear BB
  go_wp2_with fail
  refine (c2 _ E0).mono ?_
  rintro r w2 ⟨rfl, hb⟩
  clear k0 k1 k2 k3
  replace K0 := (K0.next hb).other (k := w1.heap.size) (by omega) T2 X2
  replace K1 := (K1.next hb).other (k := w1.heap.size) (by omega) T2 X2
  replace K2 := K2.next hb
  obtain ⟨j0, j1⟩ := K2.cells
  obtain ⟨i0, i1⟩ := K2.fro
  replace K2 := K2.set T2 X2
  replace B := below_set2 (B.trans (hb.mono B.size)) (g := w1.heap.size) (by omega) T2 X2
  clear hb
  obtain ⟨k0, k1⟩ := K0.cells
  obtain ⟨k2, k3⟩ := K1.cells
  obtain ⟨k4, k5⟩ := K2.cells
  obtain ⟨f0, f1⟩ := K0.fro
  go_wp2_with fail
  refine (c5 _).mono ?_
  rintro r w3 ⟨rfl, hb⟩
  replace K0 := K0.next hb
  replace B := B.trans (hb.mono B.size)
  clear k0 k1 k2 k3 k4 k5 f0 f1 hb j0 j1 i0 i1
  obtain ⟨k0, k1⟩ := K0.cells
  obtain ⟨f0, f1⟩ := K0.fro
  go_wp2
  exact bodyPost_ret (ret_val Tryz.results8 _ rfl (K0.set _ _)) rfl ⟨rfl, below_set2 B (Nat.le_refl _) _ _⟩
set_option maxRecDepth 100000 in
set_option maxHeartbeats 1000000 in
theorem plain_new {E : World → Prop} (hn : ∀ w w' : World, E w → Below w.heap.size w w' → E w') (v : Int) (s T2 X2 : ByteArray) (w : World) (hE : E w) (hv : (v == 11) = false)
    (hq : decide (T2 = (⟨#[]⟩ : ByteArray) ∧ X2 = (⟨#[]⟩ : ByteArray)) = false)
    (c1 : ∀ W, E W → Calls Tryz.prog 14 #[.int .i64 v, .string s] W fun e w' => e = .returned (vV ⟨#[]⟩ ⟨#[]⟩) ∧ Below W.heap.size W w')
    (c2 : ∀ W, E W → Calls Tryz.prog 16 #[.string s] W fun e w' => e = .returned (vV T2 X2) ∧ Below W.heap.size W w') :
    Calls Tryz.prog 8 #[.int .i64 v, .string s] w fun e w' => e = .returned (vV T2 X2) ∧ Below w.heap.size w w' := by
  have ne := neq2
  have eq := eql2
  have gg := eqGv
  have B : Below w.heap.size w (w.alloc (.cells #[.string ⟨#[]⟩, .string ⟨#[]⟩] 27)) := (Below.refl _ _).alloc (Nat.le_refl _) _
  have K0 := VBk.made w ⟨#[]⟩ ⟨#[]⟩
  have K1 := VBk.made (w.alloc (.cells #[.string ⟨#[]⟩, .string ⟨#[]⟩] 27)) ⟨#[]⟩ ⟨#[]⟩
  rw [show (w.alloc (.cells #[.string ⟨#[]⟩, .string ⟨#[]⟩] 27)).heap.size = w.heap.size + 1 by simp] at K1
  have BB := (Below.refl _ (w.alloc (.cells #[.string ⟨#[]⟩, .string ⟨#[]⟩] 27))).alloc (Nat.le_refl _) (.cells #[.string ⟨#[]⟩, .string ⟨#[]⟩] 27)
  replace K0 := K0.next BB
  replace B := B.trans (BB.mono B.size)
  have hlt0 : w.heap.size < w.heap.size + 1 := by omega
  have E0 := hn _ _ hE B
  go_enter Tryz.func8, Tryz.ntmps8
  go_wp2_with fail
  refine (c1 _ E0).mono ?_
  rintro r w1 ⟨rfl, hb⟩
  replace K0 := K0.next hb
  replace K1 := K1.next hb
  have hK1 := K1.lt
  replace B := B.trans (hb.mono B.size)
  replace E0 := hn _ _ E0 hb
  clear hb BB
  have K2 := VBk.made w1 ⟨#[]⟩ ⟨#[]⟩
  have BB := (Below.refl _ w1).alloc (Nat.le_refl _) (.cells #[.string ⟨#[]⟩, .string ⟨#[]⟩] 27)
  replace K0 := K0.next BB
  replace K1 := K1.next BB
  replace B := B.trans (BB.mono B.size)
  replace E0 := hn _ _ E0 BB
  obtain ⟨k0, k1⟩ := K0.cells
  obtain ⟨k2, k3⟩ := K1.cells
  have hg12 : w.heap.size + 1 < w1.heap.size := by
    have := K1.lt
    rcases Nat.lt_or_ge (w.heap.size + 1) w1.heap.size with h | h
    · exact h
    · exfalso; exact absurd hK1 (by omega)
  clear BB
  go_wp2_with fail
  refine (c2 _ E0).mono ?_
  rintro r w2 ⟨rfl, hb⟩
  clear k0 k1 k2 k3
  replace K0 := (K0.next hb).other (k := w1.heap.size) (by omega) T2 X2
  replace K1 := (K1.next hb).other (k := w1.heap.size) (by omega) T2 X2
  replace K2 := K2.next hb
  obtain ⟨j0, j1⟩ := K2.cells
  obtain ⟨i0, i1⟩ := K2.fro
  replace K2 := K2.set T2 X2
  replace B := below_set2 (B.trans (hb.mono B.size)) (g := w1.heap.size) (by omega) T2 X2
  clear hb
  obtain ⟨k0, k1⟩ := K0.cells
  obtain ⟨k2, k3⟩ := K1.cells
  obtain ⟨k4, k5⟩ := K2.cells
  obtain ⟨f0, f1⟩ := K0.fro
  go_wp2
  exact bodyPost_ret (ret_val Tryz.results8 _ rfl (K0.set _ _)) rfl ⟨rfl, below_set2 B (Nat.le_refl _) _ _⟩
set_option maxRecDepth 100000 in
set_option maxHeartbeats 1000000 in
theorem plain_newS {E : World → Prop} (hn : ∀ w w' : World, E w → Below w.heap.size w w' → E w') (v : Int) (s T2 X2 : ByteArray) (w : World) (hE : E w) (hv : (v == 11) = false)
    (hq : decide (T2 = (⟨#[]⟩ : ByteArray) ∧ X2 = (⟨#[]⟩ : ByteArray)) = true)
    (c1 : ∀ W, E W → Calls Tryz.prog 14 #[.int .i64 v, .string s] W fun e w' => e = .returned (vV ⟨#[]⟩ ⟨#[]⟩) ∧ Below W.heap.size W w')
    (c2 : ∀ W, E W → Calls Tryz.prog 16 #[.string s] W fun e w' => e = .returned (vV T2 X2) ∧ Below W.heap.size W w')
    (c5 : ∀ W, Calls Tryz.prog 17 #[.string s] W fun e w' => e = .returned (.string s) ∧ Below W.heap.size W w') :
    Calls Tryz.prog 8 #[.int .i64 v, .string s] w fun e w' => e = .returned (vV tStr s) ∧ Below w.heap.size w w' := by
  have ne := neq2
  have eq := eql2
  have gg := eqGv
  have B : Below w.heap.size w (w.alloc (.cells #[.string ⟨#[]⟩, .string ⟨#[]⟩] 27)) := (Below.refl _ _).alloc (Nat.le_refl _) _
  have K0 := VBk.made w ⟨#[]⟩ ⟨#[]⟩
  have K1 := VBk.made (w.alloc (.cells #[.string ⟨#[]⟩, .string ⟨#[]⟩] 27)) ⟨#[]⟩ ⟨#[]⟩
  rw [show (w.alloc (.cells #[.string ⟨#[]⟩, .string ⟨#[]⟩] 27)).heap.size = w.heap.size + 1 by simp] at K1
  have BB := (Below.refl _ (w.alloc (.cells #[.string ⟨#[]⟩, .string ⟨#[]⟩] 27))).alloc (Nat.le_refl _) (.cells #[.string ⟨#[]⟩, .string ⟨#[]⟩] 27)
  replace K0 := K0.next BB
  replace B := B.trans (BB.mono B.size)
  have hlt0 : w.heap.size < w.heap.size + 1 := by omega
  have E0 := hn _ _ hE B
  go_enter Tryz.func8, Tryz.ntmps8
  go_wp2_with fail
  refine (c1 _ E0).mono ?_
  rintro r w1 ⟨rfl, hb⟩
  replace K0 := K0.next hb
  replace K1 := K1.next hb
  have hK1 := K1.lt
  replace B := B.trans (hb.mono B.size)
  replace E0 := hn _ _ E0 hb
  clear hb BB
  have K2 := VBk.made w1 ⟨#[]⟩ ⟨#[]⟩
  have BB := (Below.refl _ w1).alloc (Nat.le_refl _) (.cells #[.string ⟨#[]⟩, .string ⟨#[]⟩] 27)
  replace K0 := K0.next BB
  replace K1 := K1.next BB
  replace B := B.trans (BB.mono B.size)
  replace E0 := hn _ _ E0 BB
  obtain ⟨k0, k1⟩ := K0.cells
  obtain ⟨k2, k3⟩ := K1.cells
  have hg12 : w.heap.size + 1 < w1.heap.size := by
    have := K1.lt
    rcases Nat.lt_or_ge (w.heap.size + 1) w1.heap.size with h | h
    · exact h
    · exfalso; exact absurd hK1 (by omega)
  clear BB
  go_wp2_with fail
  refine (c2 _ E0).mono ?_
  rintro r w2 ⟨rfl, hb⟩
  clear k0 k1 k2 k3
  replace K0 := (K0.next hb).other (k := w1.heap.size) (by omega) T2 X2
  replace K1 := (K1.next hb).other (k := w1.heap.size) (by omega) T2 X2
  replace K2 := K2.next hb
  obtain ⟨j0, j1⟩ := K2.cells
  obtain ⟨i0, i1⟩ := K2.fro
  replace K2 := K2.set T2 X2
  replace B := below_set2 (B.trans (hb.mono B.size)) (g := w1.heap.size) (by omega) T2 X2
  clear hb
  obtain ⟨k0, k1⟩ := K0.cells
  obtain ⟨k2, k3⟩ := K1.cells
  obtain ⟨k4, k5⟩ := K2.cells
  obtain ⟨f0, f1⟩ := K0.fro
  go_wp2_with fail
  refine (c5 _).mono ?_
  rintro r w3 ⟨rfl, hb⟩
  replace K0 := K0.next hb
  replace B := B.trans (hb.mono B.size)
  clear k0 k1 k2 k3 k4 k5 f0 f1 hb j0 j1 i0 i1
  obtain ⟨k0, k1⟩ := K0.cells
  obtain ⟨f0, f1⟩ := K0.fro
  go_wp2
  exact bodyPost_ret (ret_val Tryz.results8 _ rfl (K0.set _ _)) rfl ⟨rfl, below_set2 B (Nat.le_refl _) _ _⟩
end Go.Proofs.YtipgipgehnhgkaaGreatDoor
