/- Walk of float11's power. -/
import Derived.Test.YtiainpdfidgcfaaDoorFg
import Derived.Deep.RegionHeld3
set_option linter.unusedVariables false
namespace Go.Proofs.YtiainpdfidgcfaaDoor
open Go.RowKit

theorem liftB {f : FuncId} {args : Array Value} {W0 w : World} {R : Value} (c : Calls Tryd.prog f args w fun e w' => e = .returned R ∧ Below w.heap.size w w') (h : Below W0.heap.size W0 w) :
    Calls Tryd.prog f args w fun e w' => e = .returned R ∧ Below W0.heap.size W0 w' := c.mono fun _ _ k => ⟨k.1, h.trans (k.2.mono h.size)⟩
theorem dv_low {c : UInt8} (h : M.dv c < 10) : c.toNat < 128 := by have := (M.dv_lt10 h).2.1; omega
set_option maxRecDepth 100000 in
set_option maxHeartbeats 1000000 in
/-- What stands ahead of an e, and the power behind it. -/
theorem power_any (Q X : List UInt8) (z : Int) (w : World) (hl : Q.length + X.length ≤ 1000) (hQ : ∀ c ∈ Q, c ≠ 101 ∧ c ≠ 69 ∧ c.toNat < 128) (hX : M.tl X = some z) :
    Calls Tryd.prog 9 #[.string (bA (Q ++ X))] w fun e w' => e = .returned (.tuple #[.string (bA Q), .string (tx z)]) ∧ Below w.heap.size w w' := by
  cases X with
  | nil =>
    obtain rfl : z = 0 := by rw [M.tl] at hX; exact (Option.some.inj hX).symm
    rw [List.append_nil, tx0]
    have c1 := fun W => anyE_any Q W (by simp at hl; omega) (fun c hc => (hQ c hc).2.2)
    rw [anyE_no Q (fun c hc => ⟨(hQ c hc).1, (hQ c hc).2.1⟩)] at c1
    clear hX hQ hl
    generalize bA Q = B at *
    go_enter Tryd.func9, Tryd.ntmps9
    go_wp2_with fail
    refine (c1 _).mono ?_
    rintro r w1 ⟨rfl, hb1⟩
    clear c1
    go_wp2
    go_ret2
    exact ⟨rfl, hb1⟩
  | cons e r =>
    rw [M.tl] at hX
    by_cases he : e = 101 ∨ e = 69
    · rw [if_pos he] at hX
      cases r with
      | nil => rw [M.tlE] at hX; cases hX
      | cons g ds =>
        rw [M.tlE] at hX
        by_cases hg : (g = 43 ∨ g = 45) ∧ M.okD 10 ds = true
        · rw [if_pos hg] at hX
          obtain ⟨hg1, hd⟩ := hg
          have hz := Option.some.inj hX
          have hall := (M.allD_iff _ _).1 ((M.okD_iff _ _).1 hd).2
          have hlow : ∀ c ∈ Q ++ e :: g :: ds, c.toNat < 128 := by
            intro c hc
            rcases List.mem_append.1 hc with hc | hc
            · exact (hQ c hc).2.2
            · rcases List.mem_cons.1 hc with rfl | hc
              · rcases he with rfl | rfl <;> decide
              · rcases List.mem_cons.1 hc with rfl | hc
                · rcases hg1 with rfl | rfl <;> decide
                · exact dv_low (hall c hc)
          have c1 := fun W => anyE_any (Q ++ e :: g :: ds) W (by simp at hl ⊢; omega) hlow
          rw [anyE_yes Q (g :: ds) e he (fun c hc => ⟨(hQ c hc).1, (hQ c hc).2.1⟩)] at c1
          have c2 := fun W => fsplit_any (bA (g :: ds)) W (by rw [bA_size]; simp at hl ⊢; omega)
          rw [bA_toList] at c2
          have hsp : M.isNeg (g :: ds) = decide (g = 45) ∧ M.body (g :: ds) = ds := by
            rcases hg1 with rfl | rfl
            · exact head_43 rfl
            · exact head_45 rfl
          rw [hsp.1, hsp.2] at c2
          have c3 := fun W => norm_yes (decide (g = 45)) (bA ds) W (by rw [bA_size]; simp at hl; omega) (by rw [bA_toList]; exact hd)
          rw [bA_toList, hz] at c3
          have hx1 : (bA (Q ++ e :: g :: ds)).extract (Q.length + 1) (bA (Q ++ e :: g :: ds)).size = bA (g :: ds) := by
            apply eq_bA; rw [Lib.extract_to_end, bA_toList, show Q ++ e :: g :: ds = (Q ++ [e]) ++ g :: ds by simp]
            exact List.drop_left' (by simp)
          have hx2 : (bA (Q ++ e :: g :: ds)).extract 0 Q.length = bA Q := by
            apply eq_bA; rw [extract_take, bA_toList]; exact List.take_left' rfl
          have hsz : (bA (Q ++ e :: g :: ds)).size = Q.length + ds.length + 2 := by rw [bA_size]; simp; omega
          have hq : Q.length ≤ 1000 ∧ ds.length ≤ 1000 := by simp at hl; omega
          clear hX hz hall hlow hsp hl hg1 hd he hQ
          generalize decide (g = 45) = N at *
          generalize hBB : bA (Q ++ e :: g :: ds) = B at *
          generalize bA (g :: ds) = B1 at *
          generalize bA ds = B2 at *
          generalize bA Q = B3 at *
          generalize tx z = Z at *
          generalize Q.length = q at *
          generalize ds.length = d at *
          clear hBB
          rw [hsz] at hx1
          have hq0 : decide ((q : Int) < 0) = false := by simp
          go_enter Tryd.func9, Tryd.ntmps9
          go_wp2_with fail
          refine (c1 _).mono ?_
          rintro r w1 ⟨rfl, hb1⟩
          clear c1
          go_wp2_with fail
          refine (c2 _).mono ?_
          rintro r w' ⟨rfl, rfl⟩
          clear c2
          have hq1 : q ≤ q + d + 2 := by omega
          have hq2 : (q : Int) ≤ (q : Int) + (d : Int) + 2 := by omega
          go_wp2_with fail
          go_region_held3 (fun w' => Below w1.heap.size w1 w')
            (first | exact hS | exact (Below.refl _ _).drew)
            (first
              | (go_at_call 18; refine (liftB (W0 := w1) (c3 _) ?_).mono ?_; (exact ‹Below w1.heap.size w1 _›); rintro r w2 ⟨rfl, hS⟩))
          go_wp2
          go_ret2
          exact ⟨rfl, hb1.trans (hS.mono hb1.size)⟩
        · rw [if_neg hg] at hX; cases hX
    · rw [if_neg he] at hX; cases hX
end Go.Proofs.YtiainpdfidgcfaaDoor
