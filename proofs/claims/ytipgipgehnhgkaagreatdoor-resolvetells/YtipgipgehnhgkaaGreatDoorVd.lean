/- Walks: targumref12's boolean and typed, out of what they call. -/
import Derived.Test.YtipgipgehnhgkaaGreatDoorVa
set_option linter.unusedVariables false
namespace Go.Proofs.YtipgipgehnhgkaaGreatDoor
open Go.RowKit
open Go

set_option maxRecDepth 100000 in
theorem boolean_any (b : Bool) (w : World) : Calls Tryz.prog 30 #[.bool b] w fun e w' => e = .returned (.string (xB b)) ∧ w = w' := by
  cases b
  · go_enter Tryz.func30, Tryz.ntmps30
    go_wp2
    go_ret
    exact ⟨rfl, rfl⟩
  · go_enter Tryz.func30, Tryz.ntmps30
    go_wp2
    go_ret
    exact ⟨rfl, rfl⟩
set_option maxRecDepth 100000 in
set_option maxHeartbeats 1000000 in
theorem rty_bool (v : Int) (s : ByteArray) (b ok : Bool) (w : World)
    (c : ∀ W, Calls Tryz.prog 29 #[.int .i64 v, .string s] W fun e w' => e = .returned (.tuple #[.bool b, .bool ok]) ∧ W = w') :
    Calls Tryz.prog 19 #[.int .i64 v, .string tBool, .string s] w fun e w' => e = .returned (.tuple #[.string (if ok = true then xB b else ⟨#[]⟩), .bool ok]) ∧ w = w' := by
  have cb := fun W => boolean_any b W
  generalize xB b = XB at *
  cases ok
  · go_enter Tryz.func19, Tryz.ntmps19
    go_wp2_with fail
    refine (c _).mono ?_
    rintro r w1 ⟨rfl, rfl⟩
    go_wp2
    go_ret2
    exact ⟨rfl, rfl⟩
  · go_enter Tryz.func19, Tryz.ntmps19
    go_wp2_with fail
    refine (c _).mono ?_
    rintro r w1 ⟨rfl, rfl⟩
    go_wp2_with fail
    refine (cb _).mono ?_
    rintro r w1 ⟨rfl, rfl⟩
    go_wp2
    go_ret2
    exact ⟨rfl, rfl⟩
set_option maxRecDepth 100000 in
set_option maxHeartbeats 1000000 in
theorem rty_intN (v : Int) (s NI : ByteArray) (qi : Bool) (w : World) (hv : (v != 11) = true)
    (c : ∀ W, Calls Tryz.prog 31 #[.string s] W fun e w' => e = .returned (.tuple #[.string NI, .bool qi]) ∧ Below W.heap.size W w') :
    Calls Tryz.prog 19 #[.int .i64 v, .string tInt, .string s] w fun e w' => e = .returned (.tuple #[.string NI, .bool qi]) ∧ Below w.heap.size w w' := by
  go_enter Tryz.func19, Tryz.ntmps19
  go_wp2_with fail
  refine (c _).mono ?_
  rintro r w1 ⟨rfl, hb⟩
  go_wp2
  go_ret2
  exact ⟨rfl, hb⟩
set_option maxRecDepth 100000 in
set_option maxHeartbeats 1000000 in
theorem rty_intO (v : Int) (s NI : ByteArray) (F : Nat) (qi : Bool) (w : World) (hv : (v != 11) = false) (hq : decide (0 < F) = qi)
    (c : ∀ W, Calls Tryz.prog 32 #[.string s] W fun e w' => e = .returned (.tuple #[.string NI, .int .i64 (F : Nat)]) ∧ Below W.heap.size W w') :
    Calls Tryz.prog 19 #[.int .i64 v, .string tInt, .string s] w fun e w' => e = .returned (.tuple #[.string NI, .bool qi]) ∧ Below w.heap.size w w' := by
  have hq2 : decide ((0 : Int) < (F : Int)) = qi := by rw [← hq, Bool.eq_iff_iff]; simp
  go_enter Tryz.func19, Tryz.ntmps19
  go_wp2_with fail
  refine (c _).mono ?_
  rintro r w1 ⟨rfl, hb⟩
  go_wp2
  go_ret2
  exact ⟨rfl, hb⟩
set_option maxRecDepth 100000 in
set_option maxHeartbeats 1000000 in
theorem rty_floatN (v : Int) (s D X P : ByteArray) (k : Int) (n : Bool) (qf : Bool) (w : World) (hv : (v != 11) = true) 
    (c : ∀ W, Calls Tryz.prog 33 #[.string s] W fun e w' => e = .returned (.tuple #[dV k n D X, .bool qf]) ∧ Below W.heap.size W w')
    (cp : qf = true → ∀ W, Calls Tryz.prog 34 #[dV k n D X] W fun e w' => e = .returned (.string P) ∧ Below W.heap.size W w') :
    Calls Tryz.prog 19 #[.int .i64 v, .string tFloat, .string s] w fun e w' => e = .returned (.tuple #[.string (if qf = true then P else ⟨#[]⟩), .bool qf]) ∧ Below w.heap.size w w' := by
  cases qf
  · clear cp
    go_enter Tryz.func19, Tryz.ntmps19
    go_wp2_with fail
    refine (c _).mono ?_
    rintro r w1 ⟨rfl, hb⟩
    have BB := hb.alloc hb.size (.cells #[.int .i64 k, .bool n, .string D, .string X] 46)
    clear hb
    go_wp2
    go_ret2
    exact ⟨rfl, BB⟩
  · replace cp := cp rfl
    go_enter Tryz.func19, Tryz.ntmps19
    go_wp2_with fail
    refine (c _).mono ?_
    rintro r w1 ⟨rfl, hb⟩
    have BB := hb.alloc hb.size (.cells #[.int .i64 k, .bool n, .string D, .string X] 46)
    clear hb
    go_wp2_with fail
    refine (cp _).mono ?_
    rintro r w2 ⟨rfl, hb⟩
    replace BB := BB.trans (hb.mono BB.size)
    clear hb
    go_wp2
    go_ret2
    exact ⟨rfl, BB⟩
set_option maxRecDepth 100000 in
set_option maxHeartbeats 1000000 in
theorem rty_floatO (v : Int) (s D X P : ByteArray) (k : Int) (n : Bool) (F : Nat) (qf : Bool) (w : World) (hv : (v != 11) = false) (hq : decide (F ≠ 0) = qf)
    (c : ∀ W, Calls Tryz.prog 35 #[.string s] W fun e w' => e = .returned (.tuple #[dV k n D X, .int .i64 (F : Nat)]) ∧ Below W.heap.size W w')
    (cp : qf = true → ∀ W, Calls Tryz.prog 34 #[dV k n D X] W fun e w' => e = .returned (.string P) ∧ Below W.heap.size W w') :
    Calls Tryz.prog 19 #[.int .i64 v, .string tFloat, .string s] w fun e w' => e = .returned (.tuple #[.string (if qf = true then P else ⟨#[]⟩), .bool qf]) ∧ Below w.heap.size w w' := by
  have hq2 : ((F : Int) == 0) = !qf := by rw [← hq, Bool.eq_iff_iff]; simp
  cases qf
  · clear cp
    go_enter Tryz.func19, Tryz.ntmps19
    go_wp2_with fail
    refine (c _).mono ?_
    rintro r w1 ⟨rfl, hb⟩
    have BB := hb.alloc hb.size (.cells #[.int .i64 k, .bool n, .string D, .string X] 46)
    clear hb
    go_wp2
    go_ret2
    exact ⟨rfl, BB⟩
  · replace cp := cp rfl
    go_enter Tryz.func19, Tryz.ntmps19
    go_wp2_with fail
    refine (c _).mono ?_
    rintro r w1 ⟨rfl, hb⟩
    have BB := hb.alloc hb.size (.cells #[.int .i64 k, .bool n, .string D, .string X] 46)
    clear hb
    go_wp2_with fail
    refine (cp _).mono ?_
    rintro r w2 ⟨rfl, hb⟩
    replace BB := BB.trans (hb.mono BB.size)
    clear hb
    go_wp2
    go_ret2
    exact ⟨rfl, BB⟩
set_option maxRecDepth 100000 in
set_option maxHeartbeats 1000000 in
theorem rty_time (v : Int) (s MO : ByteArray) (qs : Bool) (w : World)
    (c : ∀ W, Calls Tryz.prog 36 #[.string s] W fun e w' => e = .returned (.tuple #[.string MO, .bool qs]) ∧ Below W.heap.size W w') :
    Calls Tryz.prog 19 #[.int .i64 v, .string tTime, .string s] w fun e w' => e = .returned (.tuple #[.string MO, .bool qs]) ∧ Below w.heap.size w w' := by
  go_enter Tryz.func19, Tryz.ntmps19
  go_wp2_with fail
  refine (c _).mono ?_
  rintro r w1 ⟨rfl, hb⟩
  go_wp2
  go_ret2
  exact ⟨rfl, hb⟩
end Go.Proofs.YtipgipgehnhgkaaGreatDoor
