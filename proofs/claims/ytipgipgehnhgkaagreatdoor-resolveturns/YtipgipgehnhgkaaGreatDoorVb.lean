/- Walks: resolve's ofOld, ofNew, out of what they call. -/
import Derived.Test.YtipgipgehnhgkaaGreatDoorVa
set_option linter.unusedVariables false
namespace Go.Proofs.YtipgipgehnhgkaaGreatDoor
open Go.RowKit
open Go

/-- What the old schema's numbers and moments answer. -/
def oldV (qi qf qs : Bool) (NI P MO : ByteArray) : ByteArray × ByteArray := if qi = true then (tInt, NI) else if qf = true then (tFloat, P) else if qs = true then (tTime, MO) else (⟨#[]⟩, ⟨#[]⟩)
def newV (qi qf : Bool) (NI P : ByteArray) : ByteArray × ByteArray := if qi = true then (tInt, NI) else if qf = true then (tFloat, P) else (⟨#[]⟩, ⟨#[]⟩)
set_option maxRecDepth 100000 in
set_option maxHeartbeats 1000000 in
theorem ofOld_any {E : World → Prop} (hn : ∀ w w' : World, E w → Below w.heap.size w w' → E w') (s NI D X P MO : ByteArray) (k : Int) (n qi qf qs : Bool) (w : World) (hE : E w)
    (c1 : ∀ W, E W → Calls Tryz.prog 22 #[.string s] W fun e w' => e = .returned (.tuple #[.string NI, .bool qi]) ∧ Below W.heap.size W w')
    (c2 : qi = false → ∀ W, E W → Calls Tryz.prog 23 #[.string s] W fun e w' => e = .returned (.tuple #[dV k n D X, .bool qf]) ∧ Below W.heap.size W w')
    (c3 : qi = false → qf = true → ∀ W, E W → Calls Tryz.prog 24 #[dV k n D X] W fun e w' => e = .returned (.string P) ∧ Below W.heap.size W w')
    (c4 : qi = false → qf = false → ∀ W, E W → Calls Tryz.prog 25 #[.string s] W fun e w' => e = .returned (.tuple #[.string MO, .bool qs]) ∧ Below W.heap.size W w') :
    Calls Tryz.prog 15 #[.string s] w fun e w' => e = .returned (vV (oldV qi qf qs NI P MO).1 (oldV qi qf qs NI P MO).2) ∧ Below w.heap.size w w' := by
  have K := VBk.made w ⟨#[]⟩ ⟨#[]⟩
  have B : Below w.heap.size w (w.alloc (.cells #[.string ⟨#[]⟩, .string ⟨#[]⟩] 27)) := (Below.refl _ _).alloc (Nat.le_refl _) _
  have E0 := hn _ _ hE B
  cases qi
  · replace c2 := c2 rfl
    replace c3 := c3 rfl
    cases qf
    · replace c4 := c4 rfl rfl
      cases qs
      · go_enter Tryz.func15, Tryz.ntmps15
        go_wp2_with fail
        refine (c1 _ E0).mono ?_
        rintro r w1 ⟨rfl, hb⟩
        replace K := K.next hb
        replace E0 := hn _ _ E0 hb
        replace B := B.trans (hb.mono B.size)
        clear hb
        go_wp2_with fail
        refine (c2 _ E0).mono ?_
        rintro r w1 ⟨rfl, hb⟩
        replace K := K.next hb
        replace E0 := hn _ _ E0 hb
        replace B := B.trans (hb.mono B.size)
        clear hb
        have BB := (Below.refl _ w1).alloc (Nat.le_refl _) (.cells #[.int .i64 k, .bool n, .string D, .string X] 46)
        replace K := K.next BB
        replace E0 := hn _ _ E0 BB
        replace B := B.trans (BB.mono B.size)
        clear BB
        go_wp2_with fail
        refine (c4 _ E0).mono ?_
        rintro r w1 ⟨rfl, hb⟩
        replace K := K.next hb
        replace E0 := hn _ _ E0 hb
        replace B := B.trans (hb.mono B.size)
        clear hb
        obtain ⟨k0, k1⟩ := K.cells
        obtain ⟨f0, f1⟩ := K.fro
        go_wp2
        exact bodyPost_ret (ret_val Tryz.results15 _ rfl (K.set _ _)) rfl ⟨rfl, below_set2 B (Nat.le_refl _) _ _⟩
      · go_enter Tryz.func15, Tryz.ntmps15
        go_wp2_with fail
        refine (c1 _ E0).mono ?_
        rintro r w1 ⟨rfl, hb⟩
        replace K := K.next hb
        replace E0 := hn _ _ E0 hb
        replace B := B.trans (hb.mono B.size)
        clear hb
        go_wp2_with fail
        refine (c2 _ E0).mono ?_
        rintro r w1 ⟨rfl, hb⟩
        replace K := K.next hb
        replace E0 := hn _ _ E0 hb
        replace B := B.trans (hb.mono B.size)
        clear hb
        have BB := (Below.refl _ w1).alloc (Nat.le_refl _) (.cells #[.int .i64 k, .bool n, .string D, .string X] 46)
        replace K := K.next BB
        replace E0 := hn _ _ E0 BB
        replace B := B.trans (BB.mono B.size)
        clear BB
        go_wp2_with fail
        refine (c4 _ E0).mono ?_
        rintro r w1 ⟨rfl, hb⟩
        replace K := K.next hb
        replace E0 := hn _ _ E0 hb
        replace B := B.trans (hb.mono B.size)
        clear hb
        obtain ⟨k0, k1⟩ := K.cells
        obtain ⟨f0, f1⟩ := K.fro
        go_wp2
        exact bodyPost_ret (ret_val Tryz.results15 _ rfl (K.set _ _)) rfl ⟨rfl, below_set2 B (Nat.le_refl _) _ _⟩
    · replace c3 := c3 rfl
      go_enter Tryz.func15, Tryz.ntmps15
      go_wp2_with fail
      refine (c1 _ E0).mono ?_
      rintro r w1 ⟨rfl, hb⟩
      replace K := K.next hb
      replace E0 := hn _ _ E0 hb
      replace B := B.trans (hb.mono B.size)
      clear hb
      go_wp2_with fail
      refine (c2 _ E0).mono ?_
      rintro r w1 ⟨rfl, hb⟩
      replace K := K.next hb
      replace E0 := hn _ _ E0 hb
      replace B := B.trans (hb.mono B.size)
      clear hb
      have BB := (Below.refl _ w1).alloc (Nat.le_refl _) (.cells #[.int .i64 k, .bool n, .string D, .string X] 46)
      replace K := K.next BB
      replace E0 := hn _ _ E0 BB
      replace B := B.trans (BB.mono B.size)
      clear BB
      go_wp2_with fail
      refine (c3 _ E0).mono ?_
      rintro r w1 ⟨rfl, hb⟩
      replace K := K.next hb
      replace E0 := hn _ _ E0 hb
      replace B := B.trans (hb.mono B.size)
      clear hb
      obtain ⟨k0, k1⟩ := K.cells
      obtain ⟨f0, f1⟩ := K.fro
      go_wp2
      exact bodyPost_ret (ret_val Tryz.results15 _ rfl (K.set _ _)) rfl ⟨rfl, below_set2 B (Nat.le_refl _) _ _⟩
  · go_enter Tryz.func15, Tryz.ntmps15
    go_wp2_with fail
    refine (c1 _ E0).mono ?_
    rintro r w1 ⟨rfl, hb⟩
    replace K := K.next hb
    replace E0 := hn _ _ E0 hb
    replace B := B.trans (hb.mono B.size)
    clear hb
    obtain ⟨k0, k1⟩ := K.cells
    obtain ⟨f0, f1⟩ := K.fro
    go_wp2
    exact bodyPost_ret (ret_val Tryz.results15 _ rfl (K.set _ _)) rfl ⟨rfl, below_set2 B (Nat.le_refl _) _ _⟩
set_option maxRecDepth 100000 in
set_option maxHeartbeats 1000000 in
theorem ofNew_any {E : World → Prop} (hn : ∀ w w' : World, E w → Below w.heap.size w w' → E w') (s NI D X P : ByteArray) (k : Int) (n qi qf : Bool) (w : World) (hE : E w)
    (c1 : ∀ W, E W → Calls Tryz.prog 26 #[.string s] W fun e w' => e = .returned (.tuple #[.string NI, .bool qi]) ∧ Below W.heap.size W w')
    (c2 : qi = false → ∀ W, E W → Calls Tryz.prog 27 #[.string s] W fun e w' => e = .returned (.tuple #[dV k n D X, .bool qf]) ∧ Below W.heap.size W w')
    (c3 : qi = false → qf = true → ∀ W, E W → Calls Tryz.prog 24 #[dV k n D X] W fun e w' => e = .returned (.string P) ∧ Below W.heap.size W w') :
    Calls Tryz.prog 16 #[.string s] w fun e w' => e = .returned (vV (newV qi qf NI P).1 (newV qi qf NI P).2) ∧ Below w.heap.size w w' := by
  have K := VBk.made w ⟨#[]⟩ ⟨#[]⟩
  have B : Below w.heap.size w (w.alloc (.cells #[.string ⟨#[]⟩, .string ⟨#[]⟩] 27)) := (Below.refl _ _).alloc (Nat.le_refl _) _
  have E0 := hn _ _ hE B
  cases qi
  · replace c2 := c2 rfl
    replace c3 := c3 rfl
    cases qf
    · go_enter Tryz.func16, Tryz.ntmps16
      go_wp2_with fail
      refine (c1 _ E0).mono ?_
      rintro r w1 ⟨rfl, hb⟩
      replace K := K.next hb
      replace E0 := hn _ _ E0 hb
      replace B := B.trans (hb.mono B.size)
      clear hb
      go_wp2_with fail
      refine (c2 _ E0).mono ?_
      rintro r w1 ⟨rfl, hb⟩
      replace K := K.next hb
      replace E0 := hn _ _ E0 hb
      replace B := B.trans (hb.mono B.size)
      clear hb
      have BB := (Below.refl _ w1).alloc (Nat.le_refl _) (.cells #[.int .i64 k, .bool n, .string D, .string X] 46)
      replace K := K.next BB
      replace E0 := hn _ _ E0 BB
      replace B := B.trans (BB.mono B.size)
      clear BB
      obtain ⟨k0, k1⟩ := K.cells
      obtain ⟨f0, f1⟩ := K.fro
      go_wp2
      exact bodyPost_ret (ret_val Tryz.results16 _ rfl (K.set _ _)) rfl ⟨rfl, below_set2 B (Nat.le_refl _) _ _⟩
    · replace c3 := c3 rfl
      go_enter Tryz.func16, Tryz.ntmps16
      go_wp2_with fail
      refine (c1 _ E0).mono ?_
      rintro r w1 ⟨rfl, hb⟩
      replace K := K.next hb
      replace E0 := hn _ _ E0 hb
      replace B := B.trans (hb.mono B.size)
      clear hb
      go_wp2_with fail
      refine (c2 _ E0).mono ?_
      rintro r w1 ⟨rfl, hb⟩
      replace K := K.next hb
      replace E0 := hn _ _ E0 hb
      replace B := B.trans (hb.mono B.size)
      clear hb
      have BB := (Below.refl _ w1).alloc (Nat.le_refl _) (.cells #[.int .i64 k, .bool n, .string D, .string X] 46)
      replace K := K.next BB
      replace E0 := hn _ _ E0 BB
      replace B := B.trans (BB.mono B.size)
      clear BB
      go_wp2_with fail
      refine (c3 _ E0).mono ?_
      rintro r w1 ⟨rfl, hb⟩
      replace K := K.next hb
      replace E0 := hn _ _ E0 hb
      replace B := B.trans (hb.mono B.size)
      clear hb
      obtain ⟨k0, k1⟩ := K.cells
      obtain ⟨f0, f1⟩ := K.fro
      go_wp2
      exact bodyPost_ret (ret_val Tryz.results16 _ rfl (K.set _ _)) rfl ⟨rfl, below_set2 B (Nat.le_refl _) _ _⟩
  · go_enter Tryz.func16, Tryz.ntmps16
    go_wp2_with fail
    refine (c1 _ E0).mono ?_
    rintro r w1 ⟨rfl, hb⟩
    replace K := K.next hb
    replace E0 := hn _ _ E0 hb
    replace B := B.trans (hb.mono B.size)
    clear hb
    obtain ⟨k0, k1⟩ := K.cells
    obtain ⟨f0, f1⟩ := K.fro
    go_wp2
    exact bodyPost_ret (ret_val Tryz.results16 _ rfl (K.set _ _)) rfl ⟨rfl, below_set2 B (Nat.le_refl _) _ _⟩
end Go.Proofs.YtipgipgehnhgkaaGreatDoor
