/- Walk: known; decimals compared. -/
import Derived.Test.YtiainpdfidgcfaaDoorFj
set_option linter.unusedVariables false
namespace Go.Proofs.YtiainpdfidgcfaaDoor
open Go.RowKit

theorem Blk.alloc' {w : World} {g : Nat} {k : Int} {n : Bool} {D E : ByteArray} (h : Blk w g k n D E) (o : Obj) : Blk (w.alloc o) g k n D E := h.next ((Below.refl _ _).alloc (Nat.le_refl _) o)
theorem Blk.over {w w1 : World} {o : Obj} {g : Nat} {k : Int} {n : Bool} {D E : ByteArray} (h : Blk w g k n D E) (hb : Below (w.alloc o).heap.size (w.alloc o) w1) : Blk w1 g k n D E := (h.alloc' o).next hb
theorem below_over {a w w1 : World} {o : Obj} (h : Below a.heap.size a w) (hb : Below (w.alloc o).heap.size (w.alloc o) w1) : Below a.heap.size a w1 := h.trans ((below_new hb).mono h.size)
theorem below_on {a w w1 : World} (h : Below a.heap.size a w) (hb : Below w.heap.size w w1) : Below a.heap.size a w1 := h.trans (hb.mono h.size)
theorem eqG (op : BinOp) (x y : Operand) (xs ys : Array Value) (w : World) : (eqGuard op 25 x y (.agg xs) (.agg ys)).run Tryd.prog w = .ok () w := run_eqGuard_agg w op 25 x y xs ys (by kernel_rfl)
theorem beq_bytes (a b : ByteArray) : (a.toList == b.toList) = decide (a = b) := by
  rw [Bool.eq_iff_iff, decide_eq_true_eq, beq_iff_eq, ByteArray.toList_eq, ByteArray.toList_eq]
  constructor
  · intro h; rw [← bA_of a, ← bA_of b, h]
  · intro h; rw [h]
theorem toList_iff (a b : ByteArray) : a.toList = b.toList ↔ a = b := by
  have := beq_bytes a b
  rw [Bool.eq_iff_iff, decide_eq_true_eq, beq_iff_eq] at this
  exact this
theorem eqIn4 (k k' : Int) (n n' : Bool) (D D' E E' : ByteArray) (w : World) : (Op.equalIn 10000 25 (dV k n D E) (dV k' n' D' E')).run Tryd.prog w = .ok (decide (k = k' ∧ n = n' ∧ D = D' ∧ E = E')) w := by
  have u3 := Tryd.underlying3
  have a3 := Tryd.isAgg3
  have z3 := Tryd.sizeOf3
  have u4 := Tryd.underlying4
  have a4 := Tryd.isAgg4
  have z4 := Tryd.sizeOf4
  have u9 := Tryd.underlying9
  have a9 := Tryd.isAgg9
  have z9 := Tryd.sizeOf9
  have hS : Tryd.prog.underlying 25 = some (.struct (Tryd.prog.fieldsOf 25)) := by kernel_rfl
  have hp : Tryd.prog.stoodInHeld 25 = false := by kernel_rfl
  rw [show (10000 : Nat) = 9999 + 1 from rfl, run_equalIn_agg w 9999 25 _ _ hS hp]
  simp only [Program.fieldsOf, Tryd.underlying25]
  go_simp
  simp only [toList_iff]
  by_cases h1 : k = k' <;> by_cases h2 : n = n' <;> by_cases h3 : D = D' <;> by_cases h4 : E = E' <;> simp [h1, h2, h3, h4]
theorem eql4 (k k' : Int) (n n' : Bool) (D D' E E' : ByteArray) (w : World) : (binOp .eql 25 (dV k n D E) (dV k' n' D' E')).run Tryd.prog w = .ok (.bool (decide (k = k' ∧ n = n' ∧ D = D' ∧ E = E'))) w := by
  rw [run_eql_struct, eqIn4]; rfl
theorem neq4 (k k' : Int) (n n' : Bool) (D D' E E' : ByteArray) (w : World) : (binOp .neq 25 (dV k n D E) (dV k' n' D' E')).run Tryd.prog w = .ok (.bool (!decide (k = k' ∧ n = n' ∧ D = D' ∧ E = E'))) w := by
  rw [run_neq_struct, eqIn4]; rfl

theorem shape_of (L W F H X : List UInt8) (z : Int) (h0 : M.gone L = (H ++ 46 :: F) ++ X) (h1 : ∀ c ∈ H ++ 46 :: F, c ≠ 101 ∧ c ≠ 69 ∧ c.toNat < 128) (h2 : ∀ c ∈ H, c ≠ 46) (h3 : M.tl X = some z) (h4 : M.allD 10 F = true)
    (h5 : M.fl L ≠ 3 → W = H ∧ M.allD 10 H = true ∧ (M.fl L = 1 ↔ H ≠ []) ∧ (H = [] → F ≠ [])) (h6 : M.fl L = 3 → ∃ D R, H = D ++ 58 :: R ∧ M.okD 10 D = true ∧ M.fS 1 R = 6 ∧ W = M.dg (M.sx (M.val 10 D) 0 R) ∧ z = 0 ∧ X = []) (h7 : (H ++ 46 :: F).length + X.length ≤ L.length) : M.Shape L W F H X z := ⟨h0, h1, h2, h3, h4, h5, h6, h7⟩
theorem dg90 : M.dg 90 = [57, 48] := (M.dg_of [57, 48] (by decide) (by decide)).2.symm
theorem dg905 : M.dg 905 = [57, 48, 53] := (M.dg_of [57, 48, 53] (by decide) (by decide)).2.symm
theorem dg1b : M.dg 1 = [49] := (M.dg_of [49] (by decide) (by decide)).2.symm
theorem kn1 (w : World) (he : Env w) : Calls Tryd.prog 5 #[.string ⟨#[49, 46]⟩] w fun e w' => e = .returned (.tuple #[dV 0 false ⟨#[49]⟩ ⟨#[48]⟩, .bool true]) ∧ Below w.heap.size w w' := by
  refine fof_plain ⟨#[49, 46]⟩ w he (by decide) [49] [] [49] [] 0 (shape_of _ _ _ _ _ _ (by decide) (by decide) (by decide) (by decide) (by decide) (fun _ => by decide) (fun h => absurd h (by decide)) (by decide)) (by decide) (by decide) 0 false true _ _ fun W hW => ?_
  have := make_yes false (bA [49]) (bA []) 0 1 0 W hW (by decide) (by decide) (by rw [tx0]; decide) (by decide) (by decide) (by decide)
  have e : tx ((0 : Int) + (((0 : Nat) : Int) - ((bA [] : ByteArray).size : Int))) = ⟨#[48]⟩ := by rw [show (0 : Int) + (((0 : Nat) : Int) - ((bA [] : ByteArray).size : Int)) = 0 by decide, tx0]
  rw [dg1b, e] at this
  exact this
theorem kn3 (w : World) (he : Env w) : Calls Tryd.prog 5 #[.string ⟨#[49, 58, 51, 48, 46, 53]⟩] w fun e w' => e = .returned (.tuple #[dV 0 false ⟨#[57, 48, 53]⟩ ⟨#[45, 49]⟩, .bool true]) ∧ Below w.heap.size w w' := by
  refine fof_six ⟨#[49, 58, 51, 48, 46, 53]⟩ w he (by decide) [57, 48] [53] [49, 58, 51, 48] [] 0 (shape_of _ _ _ _ _ _ (by decide) (by decide) (by decide) (by decide) (by decide) (fun h => absurd (by decide) h) (fun _ => ⟨[49], [51, 48], rfl, by decide, by decide, by rw [show M.sx (M.val 10 [49]) 0 [51, 48] = 90 by decide, dg90], rfl, rfl⟩) (by decide)) (by decide) (by decide) 0 false true _ _ fun W hW => ?_
  have := make_yes false (bA [57, 48]) (bA [53]) 0 905 0 W hW (by decide) (by decide) (by rw [tx0]; decide) (by decide) (by decide) (by decide)
  have e : tx ((0 : Int) + (((0 : Nat) : Int) - ((bA [53] : ByteArray).size : Int))) = ⟨#[45, 49]⟩ := by rw [show (0 : Int) + (((0 : Nat) : Int) - ((bA [53] : ByteArray).size : Int)) = -1 by decide, txm1]
  rw [dg905, e] at this
  exact this
theorem kn2 (w : World) : Calls Tryd.prog 5 #[.string ⟨#[49, 101, 51]⟩] w fun e w' => e = .returned (.tuple #[dZ, .bool false]) ∧ Below w.heap.size w w' := fof_no ⟨#[49, 101, 51]⟩ w (by decide) (by decide)
theorem kn4 (w : World) : Calls Tryd.prog 5 #[.string ⟨#[45, 46, 73, 110, 102]⟩] w fun e w' => e = .returned (.tuple #[dV 1 true ⟨#[]⟩ ⟨#[]⟩, .bool true]) ∧ Below w.heap.size w w' := fof_inf ⟨#[45, 46, 73, 110, 102]⟩ w (by decide) (by decide)
theorem kn5 (w : World) : Calls Tryd.prog 5 #[.string ⟨#[46, 95]⟩] w fun e w' => e = .returned (.tuple #[dZ, .bool false]) ∧ Below w.heap.size w w' := fof_no ⟨#[46, 95]⟩ w (by decide) (by decide)
theorem kf0 (w : World) : Calls Tryd.prog 6 #[.string ⟨#[43, 46, 110, 97, 110]⟩] w fun e w' => e = .returned (.int .i64 0) ∧ w = w' := by
  have h := flo_any ⟨#[43, 46, 110, 97, 110]⟩ w (by decide)
  rw [show M.flo (⟨#[43, 46, 110, 97, 110]⟩ : ByteArray).data.toList = 0 by decide] at h
  exact h
theorem kf1 (w : World) : Calls Tryd.prog 6 #[.string ⟨#[49, 46, 101, 53]⟩] w fun e w' => e = .returned (.int .i64 0) ∧ w = w' := by
  have h := flo_any ⟨#[49, 46, 101, 53]⟩ w (by decide)
  rw [show M.flo (⟨#[49, 46, 101, 53]⟩ : ByteArray).data.toList = 0 by decide] at h
  exact h
theorem kf2 (w : World) : Calls Tryd.prog 6 #[.string ⟨#[49, 46, 101, 43, 53]⟩] w fun e w' => e = .returned (.int .i64 1) ∧ w = w' := by
  have h := flo_any ⟨#[49, 46, 101, 43, 53]⟩ w (by decide)
  rw [show M.flo (⟨#[49, 46, 101, 43, 53]⟩ : ByteArray).data.toList = 1 by decide] at h
  exact h
theorem kf3 (w : World) : Calls Tryd.prog 6 #[.string ⟨#[49, 58, 50, 46, 101, 43, 51]⟩] w fun e w' => e = .returned (.int .i64 0) ∧ w = w' := by
  have h := flo_any ⟨#[49, 58, 50, 46, 101, 43, 51]⟩ w (by decide)
  rw [show M.flo (⟨#[49, 58, 50, 46, 101, 43, 51]⟩ : ByteArray).data.toList = 0 by decide] at h
  exact h
set_option maxRecDepth 100000 in
set_option maxHeartbeats 2000000 in
theorem known_any (w : World) (he : Env w) : Calls Tryd.prog 4 #[] w fun e w' => e = .returned (.bool true) ∧ Below w.heap.size w w' := by
  have eG := eqG
  have e4 := eql4
  go_enter Tryd.func4, Tryd.ntmps4
  go_wp2_with fail
  refine (kn1 _ he).mono ?_
  rintro r w1 ⟨rfl, hw1⟩
  have B1 : Below w.heap.size w w1 := hw1
  clear hw1
  go_wp2_with fail
  refine (kn2 _).mono ?_
  rintro r w2 ⟨rfl, hw2⟩
  have P2 := (Blk.made w1 0 false ⟨#[49]⟩ ⟨#[48]⟩).next hw2
  have B2 : Below w.heap.size w w2 := below_over B1 hw2
  clear hw2
  go_wp2_with fail
  refine (kn3 _ (env_new (he.next B2) _)).mono ?_
  rintro r w3 ⟨rfl, hw3⟩
  have P3 := P2.over hw3
  have B3 : Below w.heap.size w w3 := below_over B2 hw3
  have E3 := he.next B3
  clear hw3
  go_wp2_with fail
  refine (kn4 _).mono ?_
  rintro r w4 ⟨rfl, hw4⟩
  have P4 := P3.over hw4
  have Q4 := (Blk.made w3 0 false ⟨#[57, 48, 53]⟩ ⟨#[45, 49]⟩).next hw4
  have B4 : Below w.heap.size w w4 := below_over B3 hw4
  clear hw4
  go_wp2_with fail
  refine (kn5 _).mono ?_
  rintro r w5 ⟨rfl, hw5⟩
  have P5 := P4.over hw5
  have Q5 := Q4.over hw5
  have R5 := (Blk.made w4 1 true ⟨#[]⟩ ⟨#[]⟩).next hw5
  have B5 : Below w.heap.size w w5 := below_over B4 hw5
  clear hw5 P2 P3 P4 Q4 B1 B2 B3 B4 E3
  obtain ⟨p, hp⟩ : ∃ p, w1.heap.size = p := ⟨_, rfl⟩
  obtain ⟨q, hq⟩ : ∃ q, w3.heap.size = q := ⟨_, rfl⟩
  obtain ⟨t, ht⟩ : ∃ t, w4.heap.size = t := ⟨_, rfl⟩
  rw [hp] at P5 ⊢
  rw [hq] at Q5 ⊢
  rw [ht] at R5 ⊢
  clear hp hq ht
  have ltp := P5.lt
  have ltq := Q5.lt
  have ltt := R5.lt
  obtain ⟨p0, p1, p2, p3⟩ := P5.cells
  obtain ⟨q0, q1, q2, q3⟩ := Q5.cells
  obtain ⟨t0, t1, t2, t3⟩ := R5.cells
  go_wp2_with fail
  refine (kf0 _).mono ?_
  rintro r w' ⟨rfl, rfl⟩
  go_wp2_with fail
  refine (kf1 _).mono ?_
  rintro r w' ⟨rfl, rfl⟩
  go_wp2_with fail
  refine (kf2 _).mono ?_
  rintro r w' ⟨rfl, rfl⟩
  go_wp2_with fail
  refine (kf3 _).mono ?_
  rintro r w' ⟨rfl, rfl⟩
  go_wp2
  go_ret
  exact ⟨rfl, B5.alloc B5.size _⟩
end Go.Proofs.YtiainpdfidgcfaaDoor
