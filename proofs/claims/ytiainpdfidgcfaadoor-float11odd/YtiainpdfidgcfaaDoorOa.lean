/- The law Float11Odd: its walk. -/
import Derived.Test.YtiainpdfidgcfaaDoorFr
import Derived.Laws.PanicsMore
set_option linter.unusedVariables false
namespace Go.Proofs.YtiainpdfidgcfaaDoor
open Go.RowKit

theorem ix0 (a b c : ByteArray) (k : IntKind) (W : World) : (Instr.index 23 (.agg #[.string a, .string b, .string c]) (.int k 0)).run Tryd.prog W = .ok (.string a) W := by
  have h := Tryd.underlying23
  have z := Tryd.sizeOf9
  have g := Tryd.isAgg9
  simp [Instr.index, run_underlying h, asIntOf, go_sem, z, g]
theorem ix1 (a b c : ByteArray) (k : IntKind) (W : World) : (Instr.index 23 (.agg #[.string a, .string b, .string c]) (.int k 1)).run Tryd.prog W = .ok (.string b) W := by
  have h := Tryd.underlying23
  have z := Tryd.sizeOf9
  have g := Tryd.isAgg9
  simp [Instr.index, run_underlying h, asIntOf, go_sem, z, g]
theorem ix2 (a b c : ByteArray) (k : IntKind) (W : World) : (Instr.index 23 (.agg #[.string a, .string b, .string c]) (.int k 2)).run Tryd.prog W = .ok (.string c) W := by
  have h := Tryd.underlying23
  have z := Tryd.sizeOf9
  have g := Tryd.isAgg9
  simp [Instr.index, run_underlying h, asIntOf, go_sem, z, g]
theorem kis (s : ByteArray) (W : World) (hs : s.size ≤ 900) (h : M.flo s.data.toList = 0) : Calls Tryd.prog 7 #[.string s] W fun e w' => e = .returned (.bool false) ∧ W = w' := by
  have := fis_any s W (by omega)
  rw [h] at this
  exact this
theorem kform (s : ByteArray) (v : Nat) (W : World) (hs : s.size ≤ 900) (h : M.flo s.data.toList = v) : Calls Tryd.prog 6 #[.string s] W fun e w' => e = .returned (.int .i64 (v : Nat)) ∧ W = w' := by
  have := flo_any s W (by omega)
  rw [h] at this
  exact this
set_option maxRecDepth 100000 in
set_option maxHeartbeats 2000000 in
theorem odd00 (A B : Nat) (w : World) (he : Env w) (hA : A ≤ 255) (hB : B ≤ 255) (ha : A % 3 = 0) (hb : B % 3 = 0) :
    Calls Tryd.prog 3 #[.int .u8 A, .int .u8 B] w fun e w' => e = .returned (.bool true) ∧ Below w.heap.size w w' := by
  have ea : (A : Int) % 3 = 0 := by omega
  have eb : (B : Int) % 3 = 0 := by omega
  have c1 : ∀ W, Calls Tryd.prog 5 #[.string ⟨#[46, 105, 110, 102]⟩] W fun e w' => e = .returned (.tuple #[dV 1 false ⟨#[]⟩ ⟨#[]⟩, .bool true]) ∧ Below W.heap.size W w' := fun W => fof_inf ⟨#[46, 105, 110, 102]⟩ W (by decide) (by decide)
  have c2 : ∀ W, Calls Tryd.prog 5 #[.string ⟨#[46, 110, 97, 110]⟩] W fun e w' => e = .returned (.tuple #[dV 2 false ⟨#[]⟩ ⟨#[]⟩, .bool true]) ∧ Below W.heap.size W w' := fun W => fof_nan ⟨#[46, 110, 97, 110]⟩ W (by decide) (by decide)
  have c4 := fun W => kform ⟨#[46, 110, 97, 110]⟩ 5 W (by decide) (by decide)
  have c3 := fun W => kform ⟨#[46, 105, 110, 102]⟩ 4 W (by decide) (by decide)
  have q1 := fun W => kis ⟨#[46, 105, 110, 102, 48]⟩ W (by decide) (by decide)
  have q2 := fun W => kis ⟨#[46, 105, 78, 70]⟩ W (by decide) (by decide)
  have q3 := fun W => kis ⟨#[46, 78, 97, 110]⟩ W (by decide) (by decide)
  have q4 := fun W => kis ⟨#[48, 46, 110, 97, 110]⟩ W (by decide) (by decide)
  have s1 : (⟨#[]⟩ ++ ⟨#[46, 105, 110, 102]⟩ : ByteArray) = ⟨#[46, 105, 110, 102]⟩ := rfl
  have s2 : (⟨#[]⟩ ++ ⟨#[46, 110, 97, 110]⟩ : ByteArray) = ⟨#[46, 110, 97, 110]⟩ := rfl
  have s3 : (⟨#[46, 105, 110, 102]⟩ ++ ⟨#[48]⟩ : ByteArray) = ⟨#[46, 105, 110, 102, 48]⟩ := rfl
  have s4 : (⟨#[48]⟩ ++ ⟨#[46, 110, 97, 110]⟩ : ByteArray) = ⟨#[48, 46, 110, 97, 110]⟩ := rfl
  have ia := fun x y z k W => ix0 x y z k W
  have ib := fun x y z k W => ix0 x y z k W
  have eG := eqG
  have e4 := eql4
  go_enter Tryd.func3, Tryd.ntmps3
  go_wp2_with fail
  refine (known_any _ he).mono ?_
  rintro r w1 ⟨rfl, hb1⟩
  go_wp2_with fail
  go_quiet (fail)
  go_wp2_with fail
  refine (c1 _).mono ?_
  rintro r w2 ⟨rfl, hw2⟩
  have B2 : Below w.heap.size w w2 := below_on (below_dN ((hb1.alloc hb1.size _).alloc (Nat.le_trans hb1.size (by simp)) _) _) hw2
  go_wp2_with fail
  refine (c2 _).mono ?_
  rintro r w3 ⟨rfl, hw3⟩
  have K3 := (Blk.made w2 1 false ⟨#[]⟩ ⟨#[]⟩).next hw3
  have B3 : Below w.heap.size w w3 := below_over B2 hw3
  clear hw3
  obtain ⟨g, hg⟩ : ∃ g, w2.heap.size = g := ⟨_, rfl⟩
  rw [hg] at K3 ⊢
  clear hg
  have lg := K3.lt
  obtain ⟨p0, p1, p2, p3⟩ := K3.cells
  go_wp2_with fail
  refine (c3 _).mono ?_
  rintro r w' ⟨rfl, rfl⟩
  go_wp2_with fail
  refine (c4 _).mono ?_
  rintro r w' ⟨rfl, rfl⟩
  go_wp2_with fail
  refine (q1 _).mono ?_
  rintro r w' ⟨rfl, rfl⟩
  go_wp2_with fail
  refine (q2 _).mono ?_
  rintro r w' ⟨rfl, rfl⟩
  go_wp2_with fail
  refine (q3 _).mono ?_
  rintro r w' ⟨rfl, rfl⟩
  go_wp2_with fail
  refine (q4 _).mono ?_
  rintro r w' ⟨rfl, rfl⟩
  go_wp2
  go_ret
  exact ⟨rfl, B3.alloc B3.size _⟩
set_option maxRecDepth 100000 in
set_option maxHeartbeats 2000000 in
theorem odd01 (A B : Nat) (w : World) (he : Env w) (hA : A ≤ 255) (hB : B ≤ 255) (ha : A % 3 = 0) (hb : B % 3 = 1) :
    Calls Tryd.prog 3 #[.int .u8 A, .int .u8 B] w fun e w' => e = .returned (.bool true) ∧ Below w.heap.size w w' := by
  have ea : (A : Int) % 3 = 0 := by omega
  have eb : (B : Int) % 3 = 1 := by omega
  have c1 : ∀ W, Calls Tryd.prog 5 #[.string ⟨#[46, 73, 110, 102]⟩] W fun e w' => e = .returned (.tuple #[dV 1 false ⟨#[]⟩ ⟨#[]⟩, .bool true]) ∧ Below W.heap.size W w' := fun W => fof_inf ⟨#[46, 73, 110, 102]⟩ W (by decide) (by decide)
  have c2 : ∀ W, Calls Tryd.prog 5 #[.string ⟨#[46, 78, 97, 78]⟩] W fun e w' => e = .returned (.tuple #[dV 2 false ⟨#[]⟩ ⟨#[]⟩, .bool true]) ∧ Below W.heap.size W w' := fun W => fof_nan ⟨#[46, 78, 97, 78]⟩ W (by decide) (by decide)
  have c4 := fun W => kform ⟨#[46, 78, 97, 78]⟩ 5 W (by decide) (by decide)
  have c3 := fun W => kform ⟨#[46, 73, 110, 102]⟩ 4 W (by decide) (by decide)
  have q1 := fun W => kis ⟨#[46, 73, 110, 102, 48]⟩ W (by decide) (by decide)
  have q2 := fun W => kis ⟨#[46, 105, 78, 70]⟩ W (by decide) (by decide)
  have q3 := fun W => kis ⟨#[46, 78, 97, 110]⟩ W (by decide) (by decide)
  have q4 := fun W => kis ⟨#[48, 46, 78, 97, 78]⟩ W (by decide) (by decide)
  have s1 : (⟨#[]⟩ ++ ⟨#[46, 73, 110, 102]⟩ : ByteArray) = ⟨#[46, 73, 110, 102]⟩ := rfl
  have s2 : (⟨#[]⟩ ++ ⟨#[46, 78, 97, 78]⟩ : ByteArray) = ⟨#[46, 78, 97, 78]⟩ := rfl
  have s3 : (⟨#[46, 73, 110, 102]⟩ ++ ⟨#[48]⟩ : ByteArray) = ⟨#[46, 73, 110, 102, 48]⟩ := rfl
  have s4 : (⟨#[48]⟩ ++ ⟨#[46, 78, 97, 78]⟩ : ByteArray) = ⟨#[48, 46, 78, 97, 78]⟩ := rfl
  have ia := fun x y z k W => ix0 x y z k W
  have ib := fun x y z k W => ix1 x y z k W
  have eG := eqG
  have e4 := eql4
  go_enter Tryd.func3, Tryd.ntmps3
  go_wp2_with fail
  refine (known_any _ he).mono ?_
  rintro r w1 ⟨rfl, hb1⟩
  go_wp2_with fail
  go_quiet (fail)
  go_wp2_with fail
  refine (c1 _).mono ?_
  rintro r w2 ⟨rfl, hw2⟩
  have B2 : Below w.heap.size w w2 := below_on (below_dN ((hb1.alloc hb1.size _).alloc (Nat.le_trans hb1.size (by simp)) _) _) hw2
  go_wp2_with fail
  refine (c2 _).mono ?_
  rintro r w3 ⟨rfl, hw3⟩
  have K3 := (Blk.made w2 1 false ⟨#[]⟩ ⟨#[]⟩).next hw3
  have B3 : Below w.heap.size w w3 := below_over B2 hw3
  clear hw3
  obtain ⟨g, hg⟩ : ∃ g, w2.heap.size = g := ⟨_, rfl⟩
  rw [hg] at K3 ⊢
  clear hg
  have lg := K3.lt
  obtain ⟨p0, p1, p2, p3⟩ := K3.cells
  go_wp2_with fail
  refine (c3 _).mono ?_
  rintro r w' ⟨rfl, rfl⟩
  go_wp2_with fail
  refine (c4 _).mono ?_
  rintro r w' ⟨rfl, rfl⟩
  go_wp2_with fail
  refine (q1 _).mono ?_
  rintro r w' ⟨rfl, rfl⟩
  go_wp2_with fail
  refine (q2 _).mono ?_
  rintro r w' ⟨rfl, rfl⟩
  go_wp2_with fail
  refine (q3 _).mono ?_
  rintro r w' ⟨rfl, rfl⟩
  go_wp2_with fail
  refine (q4 _).mono ?_
  rintro r w' ⟨rfl, rfl⟩
  go_wp2
  go_ret
  exact ⟨rfl, B3.alloc B3.size _⟩
set_option maxRecDepth 100000 in
set_option maxHeartbeats 2000000 in
theorem odd02 (A B : Nat) (w : World) (he : Env w) (hA : A ≤ 255) (hB : B ≤ 255) (ha : A % 3 = 0) (hb : B % 3 = 2) :
    Calls Tryd.prog 3 #[.int .u8 A, .int .u8 B] w fun e w' => e = .returned (.bool true) ∧ Below w.heap.size w w' := by
  have ea : (A : Int) % 3 = 0 := by omega
  have eb : (B : Int) % 3 = 2 := by omega
  have c1 : ∀ W, Calls Tryd.prog 5 #[.string ⟨#[46, 73, 78, 70]⟩] W fun e w' => e = .returned (.tuple #[dV 1 false ⟨#[]⟩ ⟨#[]⟩, .bool true]) ∧ Below W.heap.size W w' := fun W => fof_inf ⟨#[46, 73, 78, 70]⟩ W (by decide) (by decide)
  have c2 : ∀ W, Calls Tryd.prog 5 #[.string ⟨#[46, 78, 65, 78]⟩] W fun e w' => e = .returned (.tuple #[dV 2 false ⟨#[]⟩ ⟨#[]⟩, .bool true]) ∧ Below W.heap.size W w' := fun W => fof_nan ⟨#[46, 78, 65, 78]⟩ W (by decide) (by decide)
  have c4 := fun W => kform ⟨#[46, 78, 65, 78]⟩ 5 W (by decide) (by decide)
  have c3 := fun W => kform ⟨#[46, 73, 78, 70]⟩ 4 W (by decide) (by decide)
  have q1 := fun W => kis ⟨#[46, 73, 78, 70, 48]⟩ W (by decide) (by decide)
  have q2 := fun W => kis ⟨#[46, 105, 78, 70]⟩ W (by decide) (by decide)
  have q3 := fun W => kis ⟨#[46, 78, 97, 110]⟩ W (by decide) (by decide)
  have q4 := fun W => kis ⟨#[48, 46, 78, 65, 78]⟩ W (by decide) (by decide)
  have s1 : (⟨#[]⟩ ++ ⟨#[46, 73, 78, 70]⟩ : ByteArray) = ⟨#[46, 73, 78, 70]⟩ := rfl
  have s2 : (⟨#[]⟩ ++ ⟨#[46, 78, 65, 78]⟩ : ByteArray) = ⟨#[46, 78, 65, 78]⟩ := rfl
  have s3 : (⟨#[46, 73, 78, 70]⟩ ++ ⟨#[48]⟩ : ByteArray) = ⟨#[46, 73, 78, 70, 48]⟩ := rfl
  have s4 : (⟨#[48]⟩ ++ ⟨#[46, 78, 65, 78]⟩ : ByteArray) = ⟨#[48, 46, 78, 65, 78]⟩ := rfl
  have ia := fun x y z k W => ix0 x y z k W
  have ib := fun x y z k W => ix2 x y z k W
  have eG := eqG
  have e4 := eql4
  go_enter Tryd.func3, Tryd.ntmps3
  go_wp2_with fail
  refine (known_any _ he).mono ?_
  rintro r w1 ⟨rfl, hb1⟩
  go_wp2_with fail
  go_quiet (fail)
  go_wp2_with fail
  refine (c1 _).mono ?_
  rintro r w2 ⟨rfl, hw2⟩
  have B2 : Below w.heap.size w w2 := below_on (below_dN ((hb1.alloc hb1.size _).alloc (Nat.le_trans hb1.size (by simp)) _) _) hw2
  go_wp2_with fail
  refine (c2 _).mono ?_
  rintro r w3 ⟨rfl, hw3⟩
  have K3 := (Blk.made w2 1 false ⟨#[]⟩ ⟨#[]⟩).next hw3
  have B3 : Below w.heap.size w w3 := below_over B2 hw3
  clear hw3
  obtain ⟨g, hg⟩ : ∃ g, w2.heap.size = g := ⟨_, rfl⟩
  rw [hg] at K3 ⊢
  clear hg
  have lg := K3.lt
  obtain ⟨p0, p1, p2, p3⟩ := K3.cells
  go_wp2_with fail
  refine (c3 _).mono ?_
  rintro r w' ⟨rfl, rfl⟩
  go_wp2_with fail
  refine (c4 _).mono ?_
  rintro r w' ⟨rfl, rfl⟩
  go_wp2_with fail
  refine (q1 _).mono ?_
  rintro r w' ⟨rfl, rfl⟩
  go_wp2_with fail
  refine (q2 _).mono ?_
  rintro r w' ⟨rfl, rfl⟩
  go_wp2_with fail
  refine (q3 _).mono ?_
  rintro r w' ⟨rfl, rfl⟩
  go_wp2_with fail
  refine (q4 _).mono ?_
  rintro r w' ⟨rfl, rfl⟩
  go_wp2
  go_ret
  exact ⟨rfl, B3.alloc B3.size _⟩
set_option maxRecDepth 100000 in
set_option maxHeartbeats 2000000 in
theorem odd10 (A B : Nat) (w : World) (he : Env w) (hA : A ≤ 255) (hB : B ≤ 255) (ha : A % 3 = 1) (hb : B % 3 = 0) :
    Calls Tryd.prog 3 #[.int .u8 A, .int .u8 B] w fun e w' => e = .returned (.bool true) ∧ Below w.heap.size w w' := by
  have ea : (A : Int) % 3 = 1 := by omega
  have eb : (B : Int) % 3 = 0 := by omega
  have c1 : ∀ W, Calls Tryd.prog 5 #[.string ⟨#[43, 46, 105, 110, 102]⟩] W fun e w' => e = .returned (.tuple #[dV 1 false ⟨#[]⟩ ⟨#[]⟩, .bool true]) ∧ Below W.heap.size W w' := fun W => fof_inf ⟨#[43, 46, 105, 110, 102]⟩ W (by decide) (by decide)
  have c2 : ∀ W, Calls Tryd.prog 5 #[.string ⟨#[43, 46, 110, 97, 110]⟩] W fun e w' => e = .returned (.tuple #[dZ, .bool false]) ∧ Below W.heap.size W w' := fun W => fof_no ⟨#[43, 46, 110, 97, 110]⟩ W (by decide) (by decide)
  have c3 := fun W => kform ⟨#[43, 46, 105, 110, 102]⟩ 4 W (by decide) (by decide)
  have q1 := fun W => kis ⟨#[46, 105, 110, 102, 48]⟩ W (by decide) (by decide)
  have q2 := fun W => kis ⟨#[46, 105, 78, 70]⟩ W (by decide) (by decide)
  have q3 := fun W => kis ⟨#[46, 78, 97, 110]⟩ W (by decide) (by decide)
  have q4 := fun W => kis ⟨#[48, 46, 110, 97, 110]⟩ W (by decide) (by decide)
  have s1 : (⟨#[43]⟩ ++ ⟨#[46, 105, 110, 102]⟩ : ByteArray) = ⟨#[43, 46, 105, 110, 102]⟩ := rfl
  have s2 : (⟨#[43]⟩ ++ ⟨#[46, 110, 97, 110]⟩ : ByteArray) = ⟨#[43, 46, 110, 97, 110]⟩ := rfl
  have s3 : (⟨#[46, 105, 110, 102]⟩ ++ ⟨#[48]⟩ : ByteArray) = ⟨#[46, 105, 110, 102, 48]⟩ := rfl
  have s4 : (⟨#[48]⟩ ++ ⟨#[46, 110, 97, 110]⟩ : ByteArray) = ⟨#[48, 46, 110, 97, 110]⟩ := rfl
  have ia := fun x y z k W => ix1 x y z k W
  have ib := fun x y z k W => ix0 x y z k W
  have eG := eqG
  have e4 := eql4
  go_enter Tryd.func3, Tryd.ntmps3
  go_wp2_with fail
  refine (known_any _ he).mono ?_
  rintro r w1 ⟨rfl, hb1⟩
  go_wp2_with fail
  go_quiet (fail)
  go_wp2_with fail
  refine (c1 _).mono ?_
  rintro r w2 ⟨rfl, hw2⟩
  have B2 : Below w.heap.size w w2 := below_on (below_dN ((hb1.alloc hb1.size _).alloc (Nat.le_trans hb1.size (by simp)) _) _) hw2
  go_wp2_with fail
  refine (c2 _).mono ?_
  rintro r w3 ⟨rfl, hw3⟩
  have K3 := (Blk.made w2 1 false ⟨#[]⟩ ⟨#[]⟩).next hw3
  have B3 : Below w.heap.size w w3 := below_over B2 hw3
  clear hw3
  obtain ⟨g, hg⟩ : ∃ g, w2.heap.size = g := ⟨_, rfl⟩
  rw [hg] at K3 ⊢
  clear hg
  have lg := K3.lt
  obtain ⟨p0, p1, p2, p3⟩ := K3.cells
  go_wp2_with fail
  refine (c3 _).mono ?_
  rintro r w' ⟨rfl, rfl⟩
  go_wp2_with fail
  refine (q1 _).mono ?_
  rintro r w' ⟨rfl, rfl⟩
  go_wp2_with fail
  refine (q2 _).mono ?_
  rintro r w' ⟨rfl, rfl⟩
  go_wp2_with fail
  refine (q3 _).mono ?_
  rintro r w' ⟨rfl, rfl⟩
  go_wp2_with fail
  refine (q4 _).mono ?_
  rintro r w' ⟨rfl, rfl⟩
  go_wp2
  go_ret
  exact ⟨rfl, B3.alloc B3.size _⟩
set_option maxRecDepth 100000 in
set_option maxHeartbeats 2000000 in
theorem odd11 (A B : Nat) (w : World) (he : Env w) (hA : A ≤ 255) (hB : B ≤ 255) (ha : A % 3 = 1) (hb : B % 3 = 1) :
    Calls Tryd.prog 3 #[.int .u8 A, .int .u8 B] w fun e w' => e = .returned (.bool true) ∧ Below w.heap.size w w' := by
  have ea : (A : Int) % 3 = 1 := by omega
  have eb : (B : Int) % 3 = 1 := by omega
  have c1 : ∀ W, Calls Tryd.prog 5 #[.string ⟨#[43, 46, 73, 110, 102]⟩] W fun e w' => e = .returned (.tuple #[dV 1 false ⟨#[]⟩ ⟨#[]⟩, .bool true]) ∧ Below W.heap.size W w' := fun W => fof_inf ⟨#[43, 46, 73, 110, 102]⟩ W (by decide) (by decide)
  have c2 : ∀ W, Calls Tryd.prog 5 #[.string ⟨#[43, 46, 78, 97, 78]⟩] W fun e w' => e = .returned (.tuple #[dZ, .bool false]) ∧ Below W.heap.size W w' := fun W => fof_no ⟨#[43, 46, 78, 97, 78]⟩ W (by decide) (by decide)
  have c3 := fun W => kform ⟨#[43, 46, 73, 110, 102]⟩ 4 W (by decide) (by decide)
  have q1 := fun W => kis ⟨#[46, 73, 110, 102, 48]⟩ W (by decide) (by decide)
  have q2 := fun W => kis ⟨#[46, 105, 78, 70]⟩ W (by decide) (by decide)
  have q3 := fun W => kis ⟨#[46, 78, 97, 110]⟩ W (by decide) (by decide)
  have q4 := fun W => kis ⟨#[48, 46, 78, 97, 78]⟩ W (by decide) (by decide)
  have s1 : (⟨#[43]⟩ ++ ⟨#[46, 73, 110, 102]⟩ : ByteArray) = ⟨#[43, 46, 73, 110, 102]⟩ := rfl
  have s2 : (⟨#[43]⟩ ++ ⟨#[46, 78, 97, 78]⟩ : ByteArray) = ⟨#[43, 46, 78, 97, 78]⟩ := rfl
  have s3 : (⟨#[46, 73, 110, 102]⟩ ++ ⟨#[48]⟩ : ByteArray) = ⟨#[46, 73, 110, 102, 48]⟩ := rfl
  have s4 : (⟨#[48]⟩ ++ ⟨#[46, 78, 97, 78]⟩ : ByteArray) = ⟨#[48, 46, 78, 97, 78]⟩ := rfl
  have ia := fun x y z k W => ix1 x y z k W
  have ib := fun x y z k W => ix1 x y z k W
  have eG := eqG
  have e4 := eql4
  go_enter Tryd.func3, Tryd.ntmps3
  go_wp2_with fail
  refine (known_any _ he).mono ?_
  rintro r w1 ⟨rfl, hb1⟩
  go_wp2_with fail
  go_quiet (fail)
  go_wp2_with fail
  refine (c1 _).mono ?_
  rintro r w2 ⟨rfl, hw2⟩
  have B2 : Below w.heap.size w w2 := below_on (below_dN ((hb1.alloc hb1.size _).alloc (Nat.le_trans hb1.size (by simp)) _) _) hw2
  go_wp2_with fail
  refine (c2 _).mono ?_
  rintro r w3 ⟨rfl, hw3⟩
  have K3 := (Blk.made w2 1 false ⟨#[]⟩ ⟨#[]⟩).next hw3
  have B3 : Below w.heap.size w w3 := below_over B2 hw3
  clear hw3
  obtain ⟨g, hg⟩ : ∃ g, w2.heap.size = g := ⟨_, rfl⟩
  rw [hg] at K3 ⊢
  clear hg
  have lg := K3.lt
  obtain ⟨p0, p1, p2, p3⟩ := K3.cells
  go_wp2_with fail
  refine (c3 _).mono ?_
  rintro r w' ⟨rfl, rfl⟩
  go_wp2_with fail
  refine (q1 _).mono ?_
  rintro r w' ⟨rfl, rfl⟩
  go_wp2_with fail
  refine (q2 _).mono ?_
  rintro r w' ⟨rfl, rfl⟩
  go_wp2_with fail
  refine (q3 _).mono ?_
  rintro r w' ⟨rfl, rfl⟩
  go_wp2_with fail
  refine (q4 _).mono ?_
  rintro r w' ⟨rfl, rfl⟩
  go_wp2
  go_ret
  exact ⟨rfl, B3.alloc B3.size _⟩
set_option maxRecDepth 100000 in
set_option maxHeartbeats 2000000 in
theorem odd12 (A B : Nat) (w : World) (he : Env w) (hA : A ≤ 255) (hB : B ≤ 255) (ha : A % 3 = 1) (hb : B % 3 = 2) :
    Calls Tryd.prog 3 #[.int .u8 A, .int .u8 B] w fun e w' => e = .returned (.bool true) ∧ Below w.heap.size w w' := by
  have ea : (A : Int) % 3 = 1 := by omega
  have eb : (B : Int) % 3 = 2 := by omega
  have c1 : ∀ W, Calls Tryd.prog 5 #[.string ⟨#[43, 46, 73, 78, 70]⟩] W fun e w' => e = .returned (.tuple #[dV 1 false ⟨#[]⟩ ⟨#[]⟩, .bool true]) ∧ Below W.heap.size W w' := fun W => fof_inf ⟨#[43, 46, 73, 78, 70]⟩ W (by decide) (by decide)
  have c2 : ∀ W, Calls Tryd.prog 5 #[.string ⟨#[43, 46, 78, 65, 78]⟩] W fun e w' => e = .returned (.tuple #[dZ, .bool false]) ∧ Below W.heap.size W w' := fun W => fof_no ⟨#[43, 46, 78, 65, 78]⟩ W (by decide) (by decide)
  have c3 := fun W => kform ⟨#[43, 46, 73, 78, 70]⟩ 4 W (by decide) (by decide)
  have q1 := fun W => kis ⟨#[46, 73, 78, 70, 48]⟩ W (by decide) (by decide)
  have q2 := fun W => kis ⟨#[46, 105, 78, 70]⟩ W (by decide) (by decide)
  have q3 := fun W => kis ⟨#[46, 78, 97, 110]⟩ W (by decide) (by decide)
  have q4 := fun W => kis ⟨#[48, 46, 78, 65, 78]⟩ W (by decide) (by decide)
  have s1 : (⟨#[43]⟩ ++ ⟨#[46, 73, 78, 70]⟩ : ByteArray) = ⟨#[43, 46, 73, 78, 70]⟩ := rfl
  have s2 : (⟨#[43]⟩ ++ ⟨#[46, 78, 65, 78]⟩ : ByteArray) = ⟨#[43, 46, 78, 65, 78]⟩ := rfl
  have s3 : (⟨#[46, 73, 78, 70]⟩ ++ ⟨#[48]⟩ : ByteArray) = ⟨#[46, 73, 78, 70, 48]⟩ := rfl
  have s4 : (⟨#[48]⟩ ++ ⟨#[46, 78, 65, 78]⟩ : ByteArray) = ⟨#[48, 46, 78, 65, 78]⟩ := rfl
  have ia := fun x y z k W => ix1 x y z k W
  have ib := fun x y z k W => ix2 x y z k W
  have eG := eqG
  have e4 := eql4
  go_enter Tryd.func3, Tryd.ntmps3
  go_wp2_with fail
  refine (known_any _ he).mono ?_
  rintro r w1 ⟨rfl, hb1⟩
  go_wp2_with fail
  go_quiet (fail)
  go_wp2_with fail
  refine (c1 _).mono ?_
  rintro r w2 ⟨rfl, hw2⟩
  have B2 : Below w.heap.size w w2 := below_on (below_dN ((hb1.alloc hb1.size _).alloc (Nat.le_trans hb1.size (by simp)) _) _) hw2
  go_wp2_with fail
  refine (c2 _).mono ?_
  rintro r w3 ⟨rfl, hw3⟩
  have K3 := (Blk.made w2 1 false ⟨#[]⟩ ⟨#[]⟩).next hw3
  have B3 : Below w.heap.size w w3 := below_over B2 hw3
  clear hw3
  obtain ⟨g, hg⟩ : ∃ g, w2.heap.size = g := ⟨_, rfl⟩
  rw [hg] at K3 ⊢
  clear hg
  have lg := K3.lt
  obtain ⟨p0, p1, p2, p3⟩ := K3.cells
  go_wp2_with fail
  refine (c3 _).mono ?_
  rintro r w' ⟨rfl, rfl⟩
  go_wp2_with fail
  refine (q1 _).mono ?_
  rintro r w' ⟨rfl, rfl⟩
  go_wp2_with fail
  refine (q2 _).mono ?_
  rintro r w' ⟨rfl, rfl⟩
  go_wp2_with fail
  refine (q3 _).mono ?_
  rintro r w' ⟨rfl, rfl⟩
  go_wp2_with fail
  refine (q4 _).mono ?_
  rintro r w' ⟨rfl, rfl⟩
  go_wp2
  go_ret
  exact ⟨rfl, B3.alloc B3.size _⟩
set_option maxRecDepth 100000 in
set_option maxHeartbeats 2000000 in
theorem odd20 (A B : Nat) (w : World) (he : Env w) (hA : A ≤ 255) (hB : B ≤ 255) (ha : A % 3 = 2) (hb : B % 3 = 0) :
    Calls Tryd.prog 3 #[.int .u8 A, .int .u8 B] w fun e w' => e = .returned (.bool true) ∧ Below w.heap.size w w' := by
  have ea : (A : Int) % 3 = 2 := by omega
  have eb : (B : Int) % 3 = 0 := by omega
  have c1 : ∀ W, Calls Tryd.prog 5 #[.string ⟨#[45, 46, 105, 110, 102]⟩] W fun e w' => e = .returned (.tuple #[dV 1 true ⟨#[]⟩ ⟨#[]⟩, .bool true]) ∧ Below W.heap.size W w' := fun W => fof_inf ⟨#[45, 46, 105, 110, 102]⟩ W (by decide) (by decide)
  have c2 : ∀ W, Calls Tryd.prog 5 #[.string ⟨#[45, 46, 110, 97, 110]⟩] W fun e w' => e = .returned (.tuple #[dZ, .bool false]) ∧ Below W.heap.size W w' := fun W => fof_no ⟨#[45, 46, 110, 97, 110]⟩ W (by decide) (by decide)
  have c3 := fun W => kform ⟨#[45, 46, 105, 110, 102]⟩ 4 W (by decide) (by decide)
  have q1 := fun W => kis ⟨#[46, 105, 110, 102, 48]⟩ W (by decide) (by decide)
  have q2 := fun W => kis ⟨#[46, 105, 78, 70]⟩ W (by decide) (by decide)
  have q3 := fun W => kis ⟨#[46, 78, 97, 110]⟩ W (by decide) (by decide)
  have q4 := fun W => kis ⟨#[48, 46, 110, 97, 110]⟩ W (by decide) (by decide)
  have s1 : (⟨#[45]⟩ ++ ⟨#[46, 105, 110, 102]⟩ : ByteArray) = ⟨#[45, 46, 105, 110, 102]⟩ := rfl
  have s2 : (⟨#[45]⟩ ++ ⟨#[46, 110, 97, 110]⟩ : ByteArray) = ⟨#[45, 46, 110, 97, 110]⟩ := rfl
  have s3 : (⟨#[46, 105, 110, 102]⟩ ++ ⟨#[48]⟩ : ByteArray) = ⟨#[46, 105, 110, 102, 48]⟩ := rfl
  have s4 : (⟨#[48]⟩ ++ ⟨#[46, 110, 97, 110]⟩ : ByteArray) = ⟨#[48, 46, 110, 97, 110]⟩ := rfl
  have ia := fun x y z k W => ix2 x y z k W
  have ib := fun x y z k W => ix0 x y z k W
  have eG := eqG
  have e4 := eql4
  go_enter Tryd.func3, Tryd.ntmps3
  go_wp2_with fail
  refine (known_any _ he).mono ?_
  rintro r w1 ⟨rfl, hb1⟩
  go_wp2_with fail
  go_quiet (fail)
  go_wp2_with fail
  refine (c1 _).mono ?_
  rintro r w2 ⟨rfl, hw2⟩
  have B2 : Below w.heap.size w w2 := below_on (below_dN ((hb1.alloc hb1.size _).alloc (Nat.le_trans hb1.size (by simp)) _) _) hw2
  go_wp2_with fail
  refine (c2 _).mono ?_
  rintro r w3 ⟨rfl, hw3⟩
  have K3 := (Blk.made w2 1 true ⟨#[]⟩ ⟨#[]⟩).next hw3
  have B3 : Below w.heap.size w w3 := below_over B2 hw3
  clear hw3
  obtain ⟨g, hg⟩ : ∃ g, w2.heap.size = g := ⟨_, rfl⟩
  rw [hg] at K3 ⊢
  clear hg
  have lg := K3.lt
  obtain ⟨p0, p1, p2, p3⟩ := K3.cells
  go_wp2_with fail
  refine (c3 _).mono ?_
  rintro r w' ⟨rfl, rfl⟩
  go_wp2_with fail
  refine (q1 _).mono ?_
  rintro r w' ⟨rfl, rfl⟩
  go_wp2_with fail
  refine (q2 _).mono ?_
  rintro r w' ⟨rfl, rfl⟩
  go_wp2_with fail
  refine (q3 _).mono ?_
  rintro r w' ⟨rfl, rfl⟩
  go_wp2_with fail
  refine (q4 _).mono ?_
  rintro r w' ⟨rfl, rfl⟩
  go_wp2
  go_ret
  exact ⟨rfl, B3.alloc B3.size _⟩
set_option maxRecDepth 100000 in
set_option maxHeartbeats 2000000 in
theorem odd21 (A B : Nat) (w : World) (he : Env w) (hA : A ≤ 255) (hB : B ≤ 255) (ha : A % 3 = 2) (hb : B % 3 = 1) :
    Calls Tryd.prog 3 #[.int .u8 A, .int .u8 B] w fun e w' => e = .returned (.bool true) ∧ Below w.heap.size w w' := by
  have ea : (A : Int) % 3 = 2 := by omega
  have eb : (B : Int) % 3 = 1 := by omega
  have c1 : ∀ W, Calls Tryd.prog 5 #[.string ⟨#[45, 46, 73, 110, 102]⟩] W fun e w' => e = .returned (.tuple #[dV 1 true ⟨#[]⟩ ⟨#[]⟩, .bool true]) ∧ Below W.heap.size W w' := fun W => fof_inf ⟨#[45, 46, 73, 110, 102]⟩ W (by decide) (by decide)
  have c2 : ∀ W, Calls Tryd.prog 5 #[.string ⟨#[45, 46, 78, 97, 78]⟩] W fun e w' => e = .returned (.tuple #[dZ, .bool false]) ∧ Below W.heap.size W w' := fun W => fof_no ⟨#[45, 46, 78, 97, 78]⟩ W (by decide) (by decide)
  have c3 := fun W => kform ⟨#[45, 46, 73, 110, 102]⟩ 4 W (by decide) (by decide)
  have q1 := fun W => kis ⟨#[46, 73, 110, 102, 48]⟩ W (by decide) (by decide)
  have q2 := fun W => kis ⟨#[46, 105, 78, 70]⟩ W (by decide) (by decide)
  have q3 := fun W => kis ⟨#[46, 78, 97, 110]⟩ W (by decide) (by decide)
  have q4 := fun W => kis ⟨#[48, 46, 78, 97, 78]⟩ W (by decide) (by decide)
  have s1 : (⟨#[45]⟩ ++ ⟨#[46, 73, 110, 102]⟩ : ByteArray) = ⟨#[45, 46, 73, 110, 102]⟩ := rfl
  have s2 : (⟨#[45]⟩ ++ ⟨#[46, 78, 97, 78]⟩ : ByteArray) = ⟨#[45, 46, 78, 97, 78]⟩ := rfl
  have s3 : (⟨#[46, 73, 110, 102]⟩ ++ ⟨#[48]⟩ : ByteArray) = ⟨#[46, 73, 110, 102, 48]⟩ := rfl
  have s4 : (⟨#[48]⟩ ++ ⟨#[46, 78, 97, 78]⟩ : ByteArray) = ⟨#[48, 46, 78, 97, 78]⟩ := rfl
  have ia := fun x y z k W => ix2 x y z k W
  have ib := fun x y z k W => ix1 x y z k W
  have eG := eqG
  have e4 := eql4
  go_enter Tryd.func3, Tryd.ntmps3
  go_wp2_with fail
  refine (known_any _ he).mono ?_
  rintro r w1 ⟨rfl, hb1⟩
  go_wp2_with fail
  go_quiet (fail)
  go_wp2_with fail
  refine (c1 _).mono ?_
  rintro r w2 ⟨rfl, hw2⟩
  have B2 : Below w.heap.size w w2 := below_on (below_dN ((hb1.alloc hb1.size _).alloc (Nat.le_trans hb1.size (by simp)) _) _) hw2
  go_wp2_with fail
  refine (c2 _).mono ?_
  rintro r w3 ⟨rfl, hw3⟩
  have K3 := (Blk.made w2 1 true ⟨#[]⟩ ⟨#[]⟩).next hw3
  have B3 : Below w.heap.size w w3 := below_over B2 hw3
  clear hw3
  obtain ⟨g, hg⟩ : ∃ g, w2.heap.size = g := ⟨_, rfl⟩
  rw [hg] at K3 ⊢
  clear hg
  have lg := K3.lt
  obtain ⟨p0, p1, p2, p3⟩ := K3.cells
  go_wp2_with fail
  refine (c3 _).mono ?_
  rintro r w' ⟨rfl, rfl⟩
  go_wp2_with fail
  refine (q1 _).mono ?_
  rintro r w' ⟨rfl, rfl⟩
  go_wp2_with fail
  refine (q2 _).mono ?_
  rintro r w' ⟨rfl, rfl⟩
  go_wp2_with fail
  refine (q3 _).mono ?_
  rintro r w' ⟨rfl, rfl⟩
  go_wp2_with fail
  refine (q4 _).mono ?_
  rintro r w' ⟨rfl, rfl⟩
  go_wp2
  go_ret
  exact ⟨rfl, B3.alloc B3.size _⟩
set_option maxRecDepth 100000 in
set_option maxHeartbeats 2000000 in
theorem odd22 (A B : Nat) (w : World) (he : Env w) (hA : A ≤ 255) (hB : B ≤ 255) (ha : A % 3 = 2) (hb : B % 3 = 2) :
    Calls Tryd.prog 3 #[.int .u8 A, .int .u8 B] w fun e w' => e = .returned (.bool true) ∧ Below w.heap.size w w' := by
  have ea : (A : Int) % 3 = 2 := by omega
  have eb : (B : Int) % 3 = 2 := by omega
  have c1 : ∀ W, Calls Tryd.prog 5 #[.string ⟨#[45, 46, 73, 78, 70]⟩] W fun e w' => e = .returned (.tuple #[dV 1 true ⟨#[]⟩ ⟨#[]⟩, .bool true]) ∧ Below W.heap.size W w' := fun W => fof_inf ⟨#[45, 46, 73, 78, 70]⟩ W (by decide) (by decide)
  have c2 : ∀ W, Calls Tryd.prog 5 #[.string ⟨#[45, 46, 78, 65, 78]⟩] W fun e w' => e = .returned (.tuple #[dZ, .bool false]) ∧ Below W.heap.size W w' := fun W => fof_no ⟨#[45, 46, 78, 65, 78]⟩ W (by decide) (by decide)
  have c3 := fun W => kform ⟨#[45, 46, 73, 78, 70]⟩ 4 W (by decide) (by decide)
  have q1 := fun W => kis ⟨#[46, 73, 78, 70, 48]⟩ W (by decide) (by decide)
  have q2 := fun W => kis ⟨#[46, 105, 78, 70]⟩ W (by decide) (by decide)
  have q3 := fun W => kis ⟨#[46, 78, 97, 110]⟩ W (by decide) (by decide)
  have q4 := fun W => kis ⟨#[48, 46, 78, 65, 78]⟩ W (by decide) (by decide)
  have s1 : (⟨#[45]⟩ ++ ⟨#[46, 73, 78, 70]⟩ : ByteArray) = ⟨#[45, 46, 73, 78, 70]⟩ := rfl
  have s2 : (⟨#[45]⟩ ++ ⟨#[46, 78, 65, 78]⟩ : ByteArray) = ⟨#[45, 46, 78, 65, 78]⟩ := rfl
  have s3 : (⟨#[46, 73, 78, 70]⟩ ++ ⟨#[48]⟩ : ByteArray) = ⟨#[46, 73, 78, 70, 48]⟩ := rfl
  have s4 : (⟨#[48]⟩ ++ ⟨#[46, 78, 65, 78]⟩ : ByteArray) = ⟨#[48, 46, 78, 65, 78]⟩ := rfl
  have ia := fun x y z k W => ix2 x y z k W
  have ib := fun x y z k W => ix2 x y z k W
  have eG := eqG
  have e4 := eql4
  go_enter Tryd.func3, Tryd.ntmps3
  go_wp2_with fail
  refine (known_any _ he).mono ?_
  rintro r w1 ⟨rfl, hb1⟩
  go_wp2_with fail
  go_quiet (fail)
  go_wp2_with fail
  refine (c1 _).mono ?_
  rintro r w2 ⟨rfl, hw2⟩
  have B2 : Below w.heap.size w w2 := below_on (below_dN ((hb1.alloc hb1.size _).alloc (Nat.le_trans hb1.size (by simp)) _) _) hw2
  go_wp2_with fail
  refine (c2 _).mono ?_
  rintro r w3 ⟨rfl, hw3⟩
  have K3 := (Blk.made w2 1 true ⟨#[]⟩ ⟨#[]⟩).next hw3
  have B3 : Below w.heap.size w w3 := below_over B2 hw3
  clear hw3
  obtain ⟨g, hg⟩ : ∃ g, w2.heap.size = g := ⟨_, rfl⟩
  rw [hg] at K3 ⊢
  clear hg
  have lg := K3.lt
  obtain ⟨p0, p1, p2, p3⟩ := K3.cells
  go_wp2_with fail
  refine (c3 _).mono ?_
  rintro r w' ⟨rfl, rfl⟩
  go_wp2_with fail
  refine (q1 _).mono ?_
  rintro r w' ⟨rfl, rfl⟩
  go_wp2_with fail
  refine (q2 _).mono ?_
  rintro r w' ⟨rfl, rfl⟩
  go_wp2_with fail
  refine (q3 _).mono ?_
  rintro r w' ⟨rfl, rfl⟩
  go_wp2_with fail
  refine (q4 _).mono ?_
  rintro r w' ⟨rfl, rfl⟩
  go_wp2
  go_ret
  exact ⟨rfl, B3.alloc B3.size _⟩
theorem odd_any (A B : Nat) (w : World) (he : Env w) (hA : A ≤ 255) (hB : B ≤ 255) :
    Calls Tryd.prog 3 #[.int .u8 A, .int .u8 B] w fun e w' => e = .returned (.bool true) ∧ Below w.heap.size w w' := by
  have h1 : A % 3 = 0 ∨ A % 3 = 1 ∨ A % 3 = 2 := by omega
  have h2 : B % 3 = 0 ∨ B % 3 = 1 ∨ B % 3 = 2 := by omega
  rcases h1 with h1 | h1 | h1 <;> rcases h2 with h2 | h2 | h2
  · exact odd00 A B w he hA hB h1 h2
  · exact odd01 A B w he hA hB h1 h2
  · exact odd02 A B w he hA hB h1 h2
  · exact odd10 A B w he hA hB h1 h2
  · exact odd11 A B w he hA hB h1 h2
  · exact odd12 A B w he hA hB h1 h2
  · exact odd20 A B w he hA hB h1 h2
  · exact odd21 A B w he hA hB h1 h2
  · exact odd22 A B w he hA hB h1 h2
end Go.Proofs.YtiainpdfidgcfaaDoor
