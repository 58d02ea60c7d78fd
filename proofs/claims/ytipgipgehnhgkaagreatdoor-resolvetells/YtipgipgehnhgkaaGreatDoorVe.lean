/- Walks: targumref12's Plain, out of what it calls. -/
import Derived.Test.YtipgipgehnhgkaaGreatDoorVd
set_option linter.unusedVariables false
namespace Go.Proofs.YtipgipgehnhgkaaGreatDoor
open Go.RowKit
open Go

/-- What the document's Plain answers, by what its parts answer. -/
def rpV (old n okb oki okf oks : Bool) (XB XI XF XM s : ByteArray) : ByteArray × ByteArray :=
  if n = true then (tNull, ⟨#[]⟩) else if okb = true then (tBool, XB) else if oki = true then (tInt, XI) else if okf = true then (tFloat, XF) else if (oks && old) = true then (tTime, XM) else (tStr, s)
set_option maxRecDepth 100000 in
set_option maxHeartbeats 4000000 in
theorem rplain_any (v : Int) (s XB XI XF XM : ByteArray) (old n okb oki okf oks : Bool) (w : World) (hv : (v == 11) = old)
    (c0 : ∀ W, Calls Tryz.prog 18 #[.string s] W fun e w' => e = .returned (.bool n) ∧ W = w')
    (c1 : ∀ W, Calls Tryz.prog 19 #[.int .i64 v, .string tBool, .string s] W fun e w' => e = .returned (.tuple #[.string XB, .bool okb]) ∧ W = w')
    (c2 : ∀ W, Calls Tryz.prog 19 #[.int .i64 v, .string tInt, .string s] W fun e w' => e = .returned (.tuple #[.string XI, .bool oki]) ∧ Below W.heap.size W w')
    (c3 : ∀ W, Calls Tryz.prog 19 #[.int .i64 v, .string tFloat, .string s] W fun e w' => e = .returned (.tuple #[.string XF, .bool okf]) ∧ Below W.heap.size W w')
    (c4 : ∀ W, Calls Tryz.prog 19 #[.int .i64 v, .string tTime, .string s] W fun e w' => e = .returned (.tuple #[.string XM, .bool oks]) ∧ Below W.heap.size W w') :
    Calls Tryz.prog 9 #[.int .i64 v, .string s] w fun e w' => e = .returned (vV (rpV old n okb oki okf oks XB XI XF XM s).1 (rpV old n okb oki okf oks XB XI XF XM s).2) ∧ Below w.heap.size w w' := by
  have K := VBk.made w ⟨#[]⟩ ⟨#[]⟩
  have B : Below w.heap.size w (w.alloc (.cells #[.string ⟨#[]⟩, .string ⟨#[]⟩] 27)) := (Below.refl _ _).alloc (Nat.le_refl _) _
  cases n
  · cases okb
    · cases oki
      · cases okf
        · cases oks
          · cases old
            · go_enter Tryz.func9, Tryz.ntmps9
              go_wp2_with fail
              refine (c0 _).mono ?_
              rintro r w1 ⟨rfl, rfl⟩
              clear c0
              go_wp2_with fail
              refine (c1 _).mono ?_
              rintro r w1 ⟨rfl, rfl⟩
              clear c1
              go_wp2_with fail
              refine (c2 _).mono ?_
              rintro r w1 ⟨rfl, hb⟩
              replace K := K.next hb
              replace B := B.trans (hb.mono B.size)
              clear hb c2
              go_wp2_with fail
              refine (c3 _).mono ?_
              rintro r w1 ⟨rfl, hb⟩
              replace K := K.next hb
              replace B := B.trans (hb.mono B.size)
              clear hb c3
              go_wp2_with fail
              refine (c4 _).mono ?_
              rintro r w1 ⟨rfl, hb⟩
              replace K := K.next hb
              replace B := B.trans (hb.mono B.size)
              clear hb c4
              obtain ⟨k0, k1⟩ := K.cells
              obtain ⟨f0, f1⟩ := K.fro
              go_wp2
              exact bodyPost_ret (ret_val Tryz.results9 _ rfl (K.set _ _)) rfl ⟨rfl, below_set2 B (Nat.le_refl _) _ _⟩
            · go_enter Tryz.func9, Tryz.ntmps9
              go_wp2_with fail
              refine (c0 _).mono ?_
              rintro r w1 ⟨rfl, rfl⟩
              clear c0
              go_wp2_with fail
              refine (c1 _).mono ?_
              rintro r w1 ⟨rfl, rfl⟩
              clear c1
              go_wp2_with fail
              refine (c2 _).mono ?_
              rintro r w1 ⟨rfl, hb⟩
              replace K := K.next hb
              replace B := B.trans (hb.mono B.size)
              clear hb c2
              go_wp2_with fail
              refine (c3 _).mono ?_
              rintro r w1 ⟨rfl, hb⟩
              replace K := K.next hb
              replace B := B.trans (hb.mono B.size)
              clear hb c3
              go_wp2_with fail
              refine (c4 _).mono ?_
              rintro r w1 ⟨rfl, hb⟩
              replace K := K.next hb
              replace B := B.trans (hb.mono B.size)
              clear hb c4
              obtain ⟨k0, k1⟩ := K.cells
              obtain ⟨f0, f1⟩ := K.fro
              go_wp2
              exact bodyPost_ret (ret_val Tryz.results9 _ rfl (K.set _ _)) rfl ⟨rfl, below_set2 B (Nat.le_refl _) _ _⟩
          · cases old
            · go_enter Tryz.func9, Tryz.ntmps9
              go_wp2_with fail
              refine (c0 _).mono ?_
              rintro r w1 ⟨rfl, rfl⟩
              clear c0
              go_wp2_with fail
              refine (c1 _).mono ?_
              rintro r w1 ⟨rfl, rfl⟩
              clear c1
              go_wp2_with fail
              refine (c2 _).mono ?_
              rintro r w1 ⟨rfl, hb⟩
              replace K := K.next hb
              replace B := B.trans (hb.mono B.size)
              clear hb c2
              go_wp2_with fail
              refine (c3 _).mono ?_
              rintro r w1 ⟨rfl, hb⟩
              replace K := K.next hb
              replace B := B.trans (hb.mono B.size)
              clear hb c3
              go_wp2_with fail
              refine (c4 _).mono ?_
              rintro r w1 ⟨rfl, hb⟩
              replace K := K.next hb
              replace B := B.trans (hb.mono B.size)
              clear hb c4
              obtain ⟨k0, k1⟩ := K.cells
              obtain ⟨f0, f1⟩ := K.fro
              go_wp2
              exact bodyPost_ret (ret_val Tryz.results9 _ rfl (K.set _ _)) rfl ⟨rfl, below_set2 B (Nat.le_refl _) _ _⟩
            · go_enter Tryz.func9, Tryz.ntmps9
              go_wp2_with fail
              refine (c0 _).mono ?_
              rintro r w1 ⟨rfl, rfl⟩
              clear c0
              go_wp2_with fail
              refine (c1 _).mono ?_
              rintro r w1 ⟨rfl, rfl⟩
              clear c1
              go_wp2_with fail
              refine (c2 _).mono ?_
              rintro r w1 ⟨rfl, hb⟩
              replace K := K.next hb
              replace B := B.trans (hb.mono B.size)
              clear hb c2
              go_wp2_with fail
              refine (c3 _).mono ?_
              rintro r w1 ⟨rfl, hb⟩
              replace K := K.next hb
              replace B := B.trans (hb.mono B.size)
              clear hb c3
              go_wp2_with fail
              refine (c4 _).mono ?_
              rintro r w1 ⟨rfl, hb⟩
              replace K := K.next hb
              replace B := B.trans (hb.mono B.size)
              clear hb c4
              obtain ⟨k0, k1⟩ := K.cells
              obtain ⟨f0, f1⟩ := K.fro
              go_wp2
              exact bodyPost_ret (ret_val Tryz.results9 _ rfl (K.set _ _)) rfl ⟨rfl, below_set2 B (Nat.le_refl _) _ _⟩
        · go_enter Tryz.func9, Tryz.ntmps9
          go_wp2_with fail
          refine (c0 _).mono ?_
          rintro r w1 ⟨rfl, rfl⟩
          clear c0
          go_wp2_with fail
          refine (c1 _).mono ?_
          rintro r w1 ⟨rfl, rfl⟩
          clear c1
          go_wp2_with fail
          refine (c2 _).mono ?_
          rintro r w1 ⟨rfl, hb⟩
          replace K := K.next hb
          replace B := B.trans (hb.mono B.size)
          clear hb c2
          go_wp2_with fail
          refine (c3 _).mono ?_
          rintro r w1 ⟨rfl, hb⟩
          replace K := K.next hb
          replace B := B.trans (hb.mono B.size)
          clear hb c3
          obtain ⟨k0, k1⟩ := K.cells
          obtain ⟨f0, f1⟩ := K.fro
          go_wp2
          exact bodyPost_ret (ret_val Tryz.results9 _ rfl (K.set _ _)) rfl ⟨rfl, below_set2 B (Nat.le_refl _) _ _⟩
      · go_enter Tryz.func9, Tryz.ntmps9
        go_wp2_with fail
        refine (c0 _).mono ?_
        rintro r w1 ⟨rfl, rfl⟩
        clear c0
        go_wp2_with fail
        refine (c1 _).mono ?_
        rintro r w1 ⟨rfl, rfl⟩
        clear c1
        go_wp2_with fail
        refine (c2 _).mono ?_
        rintro r w1 ⟨rfl, hb⟩
        replace K := K.next hb
        replace B := B.trans (hb.mono B.size)
        clear hb c2
        obtain ⟨k0, k1⟩ := K.cells
        obtain ⟨f0, f1⟩ := K.fro
        go_wp2
        exact bodyPost_ret (ret_val Tryz.results9 _ rfl (K.set _ _)) rfl ⟨rfl, below_set2 B (Nat.le_refl _) _ _⟩
    · go_enter Tryz.func9, Tryz.ntmps9
      go_wp2_with fail
      refine (c0 _).mono ?_
      rintro r w1 ⟨rfl, rfl⟩
      clear c0
      go_wp2_with fail
      refine (c1 _).mono ?_
      rintro r w1 ⟨rfl, rfl⟩
      clear c1
      go_wp2
      exact bodyPost_ret (ret_val Tryz.results9 _ rfl (VBk.made w _ _)) rfl ⟨rfl, (Below.refl _ _).alloc (Nat.le_refl _) _⟩
  · go_enter Tryz.func9, Tryz.ntmps9
    go_wp2_with fail
    refine (c0 _).mono ?_
    rintro r w1 ⟨rfl, rfl⟩
    clear c0
    go_wp2
    exact bodyPost_ret (ret_val Tryz.results9 _ rfl (VBk.made w _ _)) rfl ⟨rfl, (Below.refl _ _).alloc (Nat.le_refl _) _⟩
end Go.Proofs.YtipgipgehnhgkaaGreatDoor
