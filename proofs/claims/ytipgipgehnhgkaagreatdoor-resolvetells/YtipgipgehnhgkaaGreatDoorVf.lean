/- What both sides' Plain answer, out of what the parts answer. -/
import Derived.Test.YtipgipgehnhgkaaGreatDoorVc
import Derived.Test.YtipgipgehnhgkaaGreatDoorVe
set_option linter.unusedVariables false
namespace Go.Proofs.YtipgipgehnhgkaaGreatDoor
open Go.RowKit
open Go

theorem not_nil {T X : ByteArray} (h : T ≠ ⟨#[]⟩) : decide (T = (⟨#[]⟩ : ByteArray) ∧ X = (⟨#[]⟩ : ByteArray)) = false := decide_eq_false fun k => h k.1
theorem rpV_eq (old n ok qi qf qs b : Bool) (NI P MO s : ByteArray) :
    rpV old n ok qi qf qs (if ok = true then xB b else ⟨#[]⟩) NI (if qf = true then P else ⟨#[]⟩) MO s = rpV old n ok qi qf qs (xB b) NI P MO s := by
  cases n <;> cases ok <;> cases qi <;> cases qf <;> rfl
theorem rpV_new (n ok qi qf qs qs' : Bool) (XB NI P MO MO' s : ByteArray) : rpV false n ok qi qf qs XB NI P MO s = rpV false n ok qi qf qs' XB NI P MO' s := by
  cases n <;> cases ok <;> cases qi <;> cases qf <;> cases qs <;> cases qs' <;> rfl
section
variable {E : World → Prop}
theorem plain_codeO (hn : ∀ w w' : World, E w → Below w.heap.size w w' → E w') (s NI D X P MO : ByteArray) (k : Int) (m n b ok qi qf qs : Bool) (w : World) (hE : E w)
    (n1 : ∀ W, Calls Tryz.prog 20 #[.string s] W fun e w' => e = .returned (.bool n) ∧ W = w')
    (n2 : ∀ W, Calls Tryz.prog 21 #[.int .i64 11, .string s] W fun e w' => e = .returned (.tuple #[.bool b, .bool ok]) ∧ W = w')
    (c1 : ∀ W, E W → Calls Tryz.prog 22 #[.string s] W fun e w' => e = .returned (.tuple #[.string NI, .bool qi]) ∧ Below W.heap.size W w')
    (c2 : ∀ W, E W → Calls Tryz.prog 23 #[.string s] W fun e w' => e = .returned (.tuple #[dV k m D X, .bool qf]) ∧ Below W.heap.size W w')
    (c3 : qf = true → ∀ W, E W → Calls Tryz.prog 24 #[dV k m D X] W fun e w' => e = .returned (.string P) ∧ Below W.heap.size W w')
    (c4 : ∀ W, E W → Calls Tryz.prog 25 #[.string s] W fun e w' => e = .returned (.tuple #[.string MO, .bool qs]) ∧ Below W.heap.size W w')
    (c5 : ∀ W, Calls Tryz.prog 17 #[.string s] W fun e w' => e = .returned (.string s) ∧ Below W.heap.size W w') :
    Calls Tryz.prog 8 #[.int .i64 11, .string s] w fun e w' => e = .returned (vV (rpV true n ok qi qf qs (xB b) NI P MO s).1 (rpV true n ok qi qf qs (xB b) NI P MO s).2) ∧ Below w.heap.size w w' := by
  have o1 := fun W (hW : E W) => ofWord_any 11 s n b ok W n1 n2
  have o2 := fun W (hW : E W) => ofOld_any hn s NI D X P MO k m qi qf qs W hW c1 (fun _ => c2) (fun _ => c3) (fun _ _ => c4)
  cases n
  · cases ok
    · cases qi
      · cases qf
        · cases qs
          · exact plain_oldS hn 11 s ⟨#[]⟩ ⟨#[]⟩ w hE rfl (by decide) o1 o2 c5
          · exact plain_old hn 11 s tTime MO w hE rfl (not_nil (by decide)) o1 o2
        · exact plain_old hn 11 s tFloat P w hE rfl (not_nil (by decide)) o1 o2
      · exact plain_old hn 11 s tInt NI w hE rfl (not_nil (by decide)) o1 o2
    · exact plain_word hn 11 s tBool (xB b) w hE (not_nil (by decide)) o1
  · exact plain_word hn 11 s tNull ⟨#[]⟩ w hE (not_nil (by decide)) o1
theorem plain_codeN (hn : ∀ w w' : World, E w → Below w.heap.size w w' → E w') (v : Int) (hv : v ≠ 11) (s NI D X P MO : ByteArray) (k : Int) (m n b ok qi qf qs : Bool) (w : World) (hE : E w)
    (n1 : ∀ W, Calls Tryz.prog 20 #[.string s] W fun e w' => e = .returned (.bool n) ∧ W = w')
    (n2 : ∀ W, Calls Tryz.prog 21 #[.int .i64 v, .string s] W fun e w' => e = .returned (.tuple #[.bool b, .bool ok]) ∧ W = w')
    (c1 : ∀ W, E W → Calls Tryz.prog 26 #[.string s] W fun e w' => e = .returned (.tuple #[.string NI, .bool qi]) ∧ Below W.heap.size W w')
    (c2 : ∀ W, E W → Calls Tryz.prog 27 #[.string s] W fun e w' => e = .returned (.tuple #[dV k m D X, .bool qf]) ∧ Below W.heap.size W w')
    (c3 : qf = true → ∀ W, E W → Calls Tryz.prog 24 #[dV k m D X] W fun e w' => e = .returned (.string P) ∧ Below W.heap.size W w')
    (c5 : ∀ W, Calls Tryz.prog 17 #[.string s] W fun e w' => e = .returned (.string s) ∧ Below W.heap.size W w') :
    Calls Tryz.prog 8 #[.int .i64 v, .string s] w fun e w' => e = .returned (vV (rpV false n ok qi qf qs (xB b) NI P MO s).1 (rpV false n ok qi qf qs (xB b) NI P MO s).2) ∧ Below w.heap.size w w' := by
  have o1 := fun W (hW : E W) => ofWord_any v s n b ok W n1 n2
  have o2 := fun W (hW : E W) => ofNew_any hn s NI D X P k m qi qf W hW c1 (fun _ => c2) (fun _ => c3)
  have hv2 : (v == 11) = false := beq_eq_false_iff_ne.2 hv
  rw [rpV_new n ok qi qf qs false (xB b) NI P MO MO s]
  cases n
  · cases ok
    · cases qi
      · cases qf
        · exact plain_newS hn v s ⟨#[]⟩ ⟨#[]⟩ w hE hv2 (by decide) o1 o2 c5
        · exact plain_new hn v s tFloat P w hE hv2 (not_nil (by decide)) o1 o2
      · exact plain_new hn v s tInt NI w hE hv2 (not_nil (by decide)) o1 o2
    · exact plain_word hn v s tBool (xB b) w hE (not_nil (by decide)) o1
  · exact plain_word hn v s tNull ⟨#[]⟩ w hE (not_nil (by decide)) o1
set_option maxRecDepth 100000 in
theorem alike_any (s : ByteArray) (T X T' X' : ByteArray) (hn : ∀ w w' : World, E w → Below w.heap.size w w' → E w') (w : World) (hE : E w)
    (c1 : ∀ W, E W → Calls Tryz.prog 8 #[.int .i64 11, .string s] W fun e w' => e = .returned (vV T X) ∧ Below W.heap.size W w')
    (c2 : ∀ W, E W → Calls Tryz.prog 8 #[.int .i64 12, .string s] W fun e w' => e = .returned (vV T' X') ∧ Below W.heap.size W w') :
    Calls Tryz.prog 10 #[.string s] w fun e w' => e = .returned (.bool (decide (T = T') && decide (X = X'))) ∧ Below w.heap.size w w' := by
  have eq := eql2
  have gg := eqGv
  go_enter Tryz.func10, Tryz.ntmps10
  go_wp2_with fail
  refine (c1 _ hE).mono ?_
  rintro r w1 ⟨rfl, hb⟩
  have E1 := hn _ _ hE hb
  go_wp2_with fail
  refine (c2 _ E1).mono ?_
  rintro r w2 ⟨rfl, hb2⟩
  go_wp2
  go_ret
  exact ⟨rfl, hb.trans (hb2.mono hb.size)⟩
end
end Go.Proofs.YtipgipgehnhgkaaGreatDoor
