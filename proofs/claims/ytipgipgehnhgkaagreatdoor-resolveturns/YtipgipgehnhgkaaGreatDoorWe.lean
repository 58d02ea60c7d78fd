/- Small things that the laws' walks use. -/
import Derived.Test.YtipgipgehnhgkaaGreatDoorFs
set_option linter.unusedVariables false
namespace Go.Proofs.YtipgipgehnhgkaaGreatDoor
open Go.RowKit
open Go

theorem liftC {W0 w : World} {f : Nat} {args : Array Value} {e0 : Ending} {S : World → Prop} (hs : ∀ w', Below W0.heap.size W0 w' → S w') (hb : ∀ w', S w' → Below W0.heap.size W0 w') (c : Calls Tryz.prog f args w fun e w' => e = e0 ∧ Below w.heap.size w w') (h : S w) : Calls Tryz.prog f args w fun e w' => e = e0 ∧ S w' :=
  c.mono fun e w' hh => ⟨hh.1, hs _ ((hb _ h).trans (hh.2.mono (hb _ h).size))⟩
theorem inB_below {w w' : World} {a : Option Addr} {l : List UInt8} (h : InB w a l) (hb : Below w.heap.size w w') : InB w' a l := by
  intro hne
  obtain ⟨b, off, e, hc, hlt⟩ := h hne
  refine ⟨b, off, e, fun j hj => ?_, Nat.lt_of_lt_of_le hlt hb.size⟩
  rw [← hc j hj]; simp [World.cell?, hb.block b hlt]

end Go.Proofs.YtipgipgehnhgkaaGreatDoor
