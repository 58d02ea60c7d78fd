/- The law StampParts: its walk. -/
import Derived.Test.YtoidlgopibnaaaaDoorLf
import Derived.Deep.RegionHeld3
import Derived.BigRegion
set_option linter.unusedVariables false
namespace Go.Proofs.YtoidlgopibnaaaaDoor
open Go.RowKit

theorem Off2 (B : ByteArray) (l a : List UInt8) (hl : B.data.toList = l) (ha : M.ofS l = some a) (hs : l.length ≤ 1000) : Ofs B (bA a) := fun W hT => ofB B l a hl ha hs W hT
theorem liftC {W0 w : World} {f : Nat} {args : Array Value} {e0 : Ending} {S : World → Prop} (hs : ∀ w', Below W0.heap.size W0 w' → S w') (hb : ∀ w', S w' → Below W0.heap.size W0 w') (c : Calls Tryd.prog f args w fun e w' => e = e0 ∧ Below w.heap.size w w') (h : S w) : Calls Tryd.prog f args w fun e w' => e = e0 ∧ S w' :=
  c.mono fun e w' hh => ⟨hh.1, hs _ ((hb _ h).trans (hh.2.mono (hb _ h).size))⟩
theorem is_parts (m d h n s z : Nat) (h1 : m < 100) (h2 : d < 100) (h3 : h < 100) (h4 : n < 100) (h5 : s < 100) (h6 : z < 100) (hx : 13 ≤ m ∨ 32 ≤ d ∨ 24 ≤ h ∨ 60 ≤ n ∨ 60 ≤ s ∨ 24 ≤ z) (W : World) (hT : Tab W) :
    Calls Tryd.prog 12 #[.string (⟨#[50, 48, 48, 49, 45]⟩ ++ bA (M.d2 m) ++ ⟨#[45]⟩ ++ bA (M.d2 d) ++ ⟨#[32]⟩ ++ bA (M.d2 h) ++ ⟨#[58]⟩ ++ bA (M.d2 n) ++ ⟨#[58]⟩ ++ bA (M.d2 s) ++ ⟨#[32, 43]⟩ ++ bA (M.d2 z))] W fun e w' => e = .returned (.bool false) ∧ Below W.heap.size W w' :=
  isB _ _ (by simp [bA_toList]; rfl) (M.of_parts m d h n s z h1 h2 h3 h4 h5 h6 hx) (by simp [M.DT_len, M.AT_len, M.len_d2]) W hT
set_option maxRecDepth 100000 in
theorem parts_long (f : ByteArray) (a b : Nat) (w : World) (ht : Tab w) (hs : f.size ≤ maxLen) (h : 30 < f.size) : Calls Tryd.prog 7 #[.string f, .int .u8 a, .int .u8 b] w fun e w' => e = .returned (.bool true) ∧ Below w.heap.size w w' := by
  unfold maxLen at hs
  have hd : decide (30 < f.size) = true := decide_eq_true h
  have hd2 : decide ((30 : Int) < (f.size : Int)) = true := decide_eq_true (by omega)
  go_enter Tryd.func7, Tryd.ntmps7
  go_wp2_with fail
  refine (known_any _ ht).mono ?_
  rintro r w1 ⟨rfl, hb⟩
  go_wp2
  go_ret
  exact ⟨rfl, hb⟩
end Go.Proofs.YtoidlgopibnaaaaDoor
