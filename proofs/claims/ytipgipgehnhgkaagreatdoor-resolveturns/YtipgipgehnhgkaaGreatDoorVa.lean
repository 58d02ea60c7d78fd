/- Walks: resolve's ofWord, ofOld, ofNew, Plain, Alike, out of what they call. -/
import Derived.Test.YtipgipgehnhgkaaGreatDoorKa
set_option linter.unusedVariables false
namespace Go.Proofs.YtipgipgehnhgkaaGreatDoor
open Go.RowKit
open Go

abbrev tNull : ByteArray := ⟨#[116, 97, 103, 58, 121, 97, 109, 108, 46, 111, 114, 103, 44, 50, 48, 48, 50, 58, 110, 117, 108, 108]⟩
abbrev tBool : ByteArray := ⟨#[116, 97, 103, 58, 121, 97, 109, 108, 46, 111, 114, 103, 44, 50, 48, 48, 50, 58, 98, 111, 111, 108]⟩
abbrev tInt : ByteArray := ⟨#[116, 97, 103, 58, 121, 97, 109, 108, 46, 111, 114, 103, 44, 50, 48, 48, 50, 58, 105, 110, 116]⟩
abbrev tFloat : ByteArray := ⟨#[116, 97, 103, 58, 121, 97, 109, 108, 46, 111, 114, 103, 44, 50, 48, 48, 50, 58, 102, 108, 111, 97, 116]⟩
abbrev tTime : ByteArray := ⟨#[116, 97, 103, 58, 121, 97, 109, 108, 46, 111, 114, 103, 44, 50, 48, 48, 50, 58, 116, 105, 109, 101, 115, 116, 97, 109, 112]⟩
abbrev tStr : ByteArray := ⟨#[116, 97, 103, 58, 121, 97, 109, 108, 46, 111, 114, 103, 44, 50, 48, 48, 50, 58, 115, 116, 114]⟩
abbrev xTrue : ByteArray := ⟨#[116, 114, 117, 101]⟩
abbrev xFalse : ByteArray := ⟨#[102, 97, 108, 115, 101]⟩
/-- The text of a truth. -/
def xB (b : Bool) : ByteArray := if b = true then xTrue else xFalse
/-- What a text's word is: its tag and its text; both empty: it is none. -/
def wV (n b ok : Bool) : ByteArray × ByteArray := if n = true then (tNull, ⟨#[]⟩) else if ok = true then (tBool, xB b) else (⟨#[]⟩, ⟨#[]⟩)

set_option maxRecDepth 100000 in
set_option maxHeartbeats 1000000 in
theorem ofWord_any (v : Int) (s : ByteArray) (n b ok : Bool) (w : World)
    (c1 : ∀ W, Calls Tryz.prog 20 #[.string s] W fun e w' => e = .returned (.bool n) ∧ W = w')
    (c2 : ∀ W, Calls Tryz.prog 21 #[.int .i64 v, .string s] W fun e w' => e = .returned (.tuple #[.bool b, .bool ok]) ∧ W = w') :
    Calls Tryz.prog 14 #[.int .i64 v, .string s] w fun e w' => e = .returned (vV (wV n b ok).1 (wV n b ok).2) ∧ Below w.heap.size w w' := by
  have K := VBk.made w ⟨#[]⟩ ⟨#[]⟩
  have B : Below w.heap.size w (w.alloc (.cells #[.string ⟨#[]⟩, .string ⟨#[]⟩] 27)) := (Below.refl _ _).alloc (Nat.le_refl _) _
  have f := K.fro
  obtain ⟨f0, f1⟩ := f
  cases n
  · cases ok
    · go_enter Tryz.func14, Tryz.ntmps14
      go_wp2_with fail
      refine (c1 _).mono ?_
      rintro r w1 ⟨rfl, rfl⟩
      go_wp2_with fail
      refine (c2 _).mono ?_
      rintro r w1 ⟨rfl, rfl⟩
      go_wp2
      exact bodyPost_ret (ret_val Tryz.results14 _ rfl (VBk.made w _ _)) rfl ⟨rfl, (Below.refl _ _).alloc (Nat.le_refl _) _⟩
    · cases b
      · go_enter Tryz.func14, Tryz.ntmps14
        go_wp2_with fail
        refine (c1 _).mono ?_
        rintro r w1 ⟨rfl, rfl⟩
        go_wp2_with fail
        refine (c2 _).mono ?_
        rintro r w1 ⟨rfl, rfl⟩
        go_wp2
        exact bodyPost_ret (ret_val Tryz.results14 _ rfl (VBk.made w _ _)) rfl ⟨rfl, (Below.refl _ _).alloc (Nat.le_refl _) _⟩
      · go_enter Tryz.func14, Tryz.ntmps14
        go_wp2_with fail
        refine (c1 _).mono ?_
        rintro r w1 ⟨rfl, rfl⟩
        go_wp2_with fail
        refine (c2 _).mono ?_
        rintro r w1 ⟨rfl, rfl⟩
        go_wp2
        exact bodyPost_ret (ret_val Tryz.results14 _ rfl (VBk.made w _ _)) rfl ⟨rfl, (Below.refl _ _).alloc (Nat.le_refl _) _⟩
  · go_enter Tryz.func14, Tryz.ntmps14
    go_wp2_with fail
    refine (c1 _).mono ?_
    rintro r w1 ⟨rfl, rfl⟩
    go_wp2
    exact bodyPost_ret (ret_val Tryz.results14 _ rfl (VBk.made w _ _)) rfl ⟨rfl, (Below.refl _ _).alloc (Nat.le_refl _) _⟩
end Go.Proofs.YtipgipgehnhgkaaGreatDoor
