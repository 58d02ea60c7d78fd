/- Walks of the document's find, odd, tail. -/
import Derived.Test.YtocegiffbgnogaaDoorFi
import Derived.Test.YtocegiffbgnogaaDoorYa
set_option linter.unusedVariables false
namespace Go.Proofs.YtocegiffbgnogaaDoor
open Go.RowKit

set_option maxRecDepth 100000 in
theorem rodd_inf0 (n g : Bool) (w : World) : Calls Tryd.prog 27 #[.string ⟨#[46, 105, 110, 102]⟩, .bool n, .bool g] w fun e w' => e = .returned (.tuple #[dV 1 n ⟨#[]⟩ ⟨#[]⟩, .bool true]) ∧ Below w.heap.size w w' := by
  go_enter Tryd.func27, Tryd.ntmps27
  go_wp2
  exact bodyPost_ret (ret_dec Tryd.results27 _ rfl rfl (Blk.made w 1 n ⟨#[]⟩ ⟨#[]⟩)) rfl ⟨rfl, (Below.refl _ _).alloc (Nat.le_refl _) _⟩
set_option maxRecDepth 100000 in
theorem rodd_inf1 (n g : Bool) (w : World) : Calls Tryd.prog 27 #[.string ⟨#[46, 73, 110, 102]⟩, .bool n, .bool g] w fun e w' => e = .returned (.tuple #[dV 1 n ⟨#[]⟩ ⟨#[]⟩, .bool true]) ∧ Below w.heap.size w w' := by
  go_enter Tryd.func27, Tryd.ntmps27
  go_wp2
  exact bodyPost_ret (ret_dec Tryd.results27 _ rfl rfl (Blk.made w 1 n ⟨#[]⟩ ⟨#[]⟩)) rfl ⟨rfl, (Below.refl _ _).alloc (Nat.le_refl _) _⟩
set_option maxRecDepth 100000 in
theorem rodd_inf2 (n g : Bool) (w : World) : Calls Tryd.prog 27 #[.string ⟨#[46, 73, 78, 70]⟩, .bool n, .bool g] w fun e w' => e = .returned (.tuple #[dV 1 n ⟨#[]⟩ ⟨#[]⟩, .bool true]) ∧ Below w.heap.size w w' := by
  go_enter Tryd.func27, Tryd.ntmps27
  go_wp2
  exact bodyPost_ret (ret_dec Tryd.results27 _ rfl rfl (Blk.made w 1 n ⟨#[]⟩ ⟨#[]⟩)) rfl ⟨rfl, (Below.refl _ _).alloc (Nat.le_refl _) _⟩
set_option maxRecDepth 100000 in
theorem rodd_nan0 (n : Bool) (w : World) : Calls Tryd.prog 27 #[.string ⟨#[46, 110, 97, 110]⟩, .bool n, .bool false] w fun e w' => e = .returned (.tuple #[dV 2 false ⟨#[]⟩ ⟨#[]⟩, .bool true]) ∧ Below w.heap.size w w' := by
  go_enter Tryd.func27, Tryd.ntmps27
  go_wp2
  exact bodyPost_ret (ret_dec Tryd.results27 _ rfl rfl (Blk.made w 2 false ⟨#[]⟩ ⟨#[]⟩)) rfl ⟨rfl, (Below.refl _ _).alloc (Nat.le_refl _) _⟩
set_option maxRecDepth 100000 in
theorem rodd_snan0 (n : Bool) (w : World) : Calls Tryd.prog 27 #[.string ⟨#[46, 110, 97, 110]⟩, .bool n, .bool true] w fun e w' => e = .returned (.tuple #[dZ, .bool false]) ∧ Below w.heap.size w w' := by
  go_enter Tryd.func27, Tryd.ntmps27
  go_wp2
  exact bodyPost_ret (ret_dec Tryd.results27 _ rfl rfl (Blk.made w 0 false ⟨#[]⟩ ⟨#[]⟩)) rfl ⟨rfl, (Below.refl _ _).alloc (Nat.le_refl _) _⟩
set_option maxRecDepth 100000 in
theorem rodd_nan1 (n : Bool) (w : World) : Calls Tryd.prog 27 #[.string ⟨#[46, 78, 97, 78]⟩, .bool n, .bool false] w fun e w' => e = .returned (.tuple #[dV 2 false ⟨#[]⟩ ⟨#[]⟩, .bool true]) ∧ Below w.heap.size w w' := by
  go_enter Tryd.func27, Tryd.ntmps27
  go_wp2
  exact bodyPost_ret (ret_dec Tryd.results27 _ rfl rfl (Blk.made w 2 false ⟨#[]⟩ ⟨#[]⟩)) rfl ⟨rfl, (Below.refl _ _).alloc (Nat.le_refl _) _⟩
set_option maxRecDepth 100000 in
theorem rodd_snan1 (n : Bool) (w : World) : Calls Tryd.prog 27 #[.string ⟨#[46, 78, 97, 78]⟩, .bool n, .bool true] w fun e w' => e = .returned (.tuple #[dZ, .bool false]) ∧ Below w.heap.size w w' := by
  go_enter Tryd.func27, Tryd.ntmps27
  go_wp2
  exact bodyPost_ret (ret_dec Tryd.results27 _ rfl rfl (Blk.made w 0 false ⟨#[]⟩ ⟨#[]⟩)) rfl ⟨rfl, (Below.refl _ _).alloc (Nat.le_refl _) _⟩
set_option maxRecDepth 100000 in
theorem rodd_nan2 (n : Bool) (w : World) : Calls Tryd.prog 27 #[.string ⟨#[46, 78, 65, 78]⟩, .bool n, .bool false] w fun e w' => e = .returned (.tuple #[dV 2 false ⟨#[]⟩ ⟨#[]⟩, .bool true]) ∧ Below w.heap.size w w' := by
  go_enter Tryd.func27, Tryd.ntmps27
  go_wp2
  exact bodyPost_ret (ret_dec Tryd.results27 _ rfl rfl (Blk.made w 2 false ⟨#[]⟩ ⟨#[]⟩)) rfl ⟨rfl, (Below.refl _ _).alloc (Nat.le_refl _) _⟩
set_option maxRecDepth 100000 in
theorem rodd_snan2 (n : Bool) (w : World) : Calls Tryd.prog 27 #[.string ⟨#[46, 78, 65, 78]⟩, .bool n, .bool true] w fun e w' => e = .returned (.tuple #[dZ, .bool false]) ∧ Below w.heap.size w w' := by
  go_enter Tryd.func27, Tryd.ntmps27
  go_wp2
  exact bodyPost_ret (ret_dec Tryd.results27 _ rfl rfl (Blk.made w 0 false ⟨#[]⟩ ⟨#[]⟩)) rfl ⟨rfl, (Below.refl _ _).alloc (Nat.le_refl _) _⟩
set_option maxRecDepth 100000 in
theorem rodd_no (U : ByteArray) (n g : Bool) (w : World) (h : U.data.toList ∉ M.infs) (h' : U.data.toList ∉ M.nans) : Calls Tryd.prog 27 #[.string U, .bool n, .bool g] w fun e w' => e = .returned (.tuple #[dZ, .bool false]) ∧ Below w.heap.size w w' := by
  simp only [M.nans, List.mem_cons, List.not_mem_nil, or_false, not_or] at h'
  simp only [M.infs, List.mem_cons, List.not_mem_nil, or_false, not_or] at h
  have e1 := beq_list h.1
  have e2 := beq_list h.2.1
  have e3 := beq_list h.2.2
  have g1 := beq_list h'.1
  have g2 := beq_list h'.2.1
  have g3 := beq_list h'.2.2
  clear h h'
  go_enter Tryd.func27, Tryd.ntmps27
  go_wp2
  exact bodyPost_ret (ret_dec Tryd.results27 _ rfl rfl (Blk.made w 0 false ⟨#[]⟩ ⟨#[]⟩)) rfl ⟨rfl, (Below.refl _ _).alloc (Nat.le_refl _) _⟩
theorem rodd_infs (U : ByteArray) (n g : Bool) (w : World) (h : U.data.toList ∈ M.infs) : Calls Tryd.prog 27 #[.string U, .bool n, .bool g] w fun e w' => e = .returned (.tuple #[dV 1 n ⟨#[]⟩ ⟨#[]⟩, .bool true]) ∧ Below w.heap.size w w' := by
  simp only [M.infs, List.mem_cons, List.not_mem_nil, or_false] at h
  rcases h with h | h | h
  · rw [ba_of h]; exact rodd_inf0 n g w
  · rw [ba_of h]; exact rodd_inf1 n g w
  · rw [ba_of h]; exact rodd_inf2 n g w
theorem rodd_nans (U : ByteArray) (n g : Bool) (w : World) (h : U.data.toList ∈ M.nans) : Calls Tryd.prog 27 #[.string U, .bool n, .bool g] w fun e w' => e = .returned (.tuple #[if g = true then dZ else dV 2 false ⟨#[]⟩ ⟨#[]⟩, .bool (!g)]) ∧ Below w.heap.size w w' := by
  simp only [M.nans, List.mem_cons, List.not_mem_nil, or_false] at h
  cases g
  · rcases h with h | h | h
    · rw [ba_of h]; exact rodd_nan0 n w
    · rw [ba_of h]; exact rodd_nan1 n w
    · rw [ba_of h]; exact rodd_nan2 n w
  · rcases h with h | h | h
    · rw [ba_of h]; exact rodd_snan0 n w
    · rw [ba_of h]; exact rodd_snan1 n w
    · rw [ba_of h]; exact rodd_snan2 n w
/-- What the document's tail answers. -/
def tailV : Option Int → Value
  | some z => .tuple #[.string (tx z), .bool true]
  | none => .tuple #[.string ⟨#[]⟩, .bool false]
end Go.Proofs.YtocegiffbgnogaaDoor
