/- Rows of lines read; walk of targumhelp.Lines. -/
import Derived.Test.YtnmfiadljhbmiaaDoorWd
import Derived.Laws.StructEq
set_option linter.unusedVariables false
namespace Go.Proofs.YtnmfiadljhbmiaaDoor
open Go.RowKit

/-- The cells of a row of lines. -/
def HasL (w : World) (g : Nat) (ls : List (Nat × Nat × Nat)) : Prop :=
  ∀ j (h : j < ls.length), w.cell? ⟨g, j * 3, none⟩ = some (.int .i64 (ls[j]).1) ∧ w.cell? ⟨g, j * 3 + 1, none⟩ = some (.int .i64 (ls[j]).2.1) ∧ w.cell? ⟨g, j * 3 + 2, none⟩ = some (.int .i64 (ls[j]).2.2)
theorem HasL.below {w w' : World} {g B : Nat} {ls : List (Nat × Nat × Nat)} (h : HasL w g ls) (hg : g < B) (hb : Below B w w') : HasL w' g ls := by
  intro j hj
  have := h j hj
  exact ⟨(hb.cell (p := ⟨g, j * 3, none⟩) hg).trans this.1, (hb.cell (p := ⟨g, j * 3 + 1, none⟩) hg).trans this.2.1, (hb.cell (p := ⟨g, j * 3 + 2, none⟩) hg).trans this.2.2⟩
/-- A slice of lines: nil where it is empty, or a row. -/
def SL (w : World) (v : Value) (ls : List (Nat × Nat × Nat)) : Prop := ∃ ad c, v = .slice ad ls.length c ∧ (ls ≠ [] → ∃ g, ad = some ⟨g, 0, none⟩ ∧ HasL w g ls ∧ g < w.heap.size)

theorem cells3_at (ls : List (Nat × Nat × Nat)) : ∀ (j : Nat) (h : j < ls.length), (cells3 ls)[j * 3]? = some (.int .i64 (ls[j]).1) ∧ (cells3 ls)[j * 3 + 1]? = some (.int .i64 (ls[j]).2.1) ∧ (cells3 ls)[j * 3 + 2]? = some (.int .i64 (ls[j]).2.2) := by
  induction ls with
  | nil => intro j h; exact absurd h (by simp)
  | cons x r ih =>
    intro j h
    have e : cells3 (x :: r) = .int .i64 x.1 :: .int .i64 x.2.1 :: .int .i64 x.2.2 :: cells3 r := rfl
    rw [e]
    match j, h with
    | 0, h => exact ⟨rfl, rfl, rfl⟩
    | j + 1, h =>
      have k := ih j (by simpa using h)
      rw [show (j + 1) * 3 = j * 3 + 1 + 1 + 1 by omega]
      simp only [List.getElem?_cons_succ, List.getElem_cons_succ]
      exact k
theorem OwnL.sl {w : World} {B : Nat} {v : Value} {ls : List (Nat × Nat × Nat)} (h : OwnL w B v ls) : SL w v ls := by
  obtain ⟨h1, ⟨h2, h3⟩ | ⟨g, cap, cur, hv, hg, hh, hc, hm, hsz, ht⟩⟩ := h
  · exact ⟨none, 0, by rw [h2, h3], fun hn => absurd (List.length_eq_zero_iff.1 h3) hn⟩
  · refine ⟨some ⟨g, 0, none⟩, cap, hv, fun _ => ⟨g, rfl, ?_, ?_⟩⟩
    · have key : ∀ i u, (cells3 ls)[i]? = some u → w.cell? ⟨g, i, none⟩ = some u := by
        intro i u hu
        have hi : i < ls.length * 3 := by have := (List.getElem?_eq_some_iff.1 hu).1; rwa [cells3_length] at this
        rw [← ht, List.getElem?_take_of_lt hi, Array.getElem?_toList] at hu
        simp [World.cell?, hh, hu]
      intro j hj
      have k := cells3_at ls j hj
      exact ⟨key _ _ k.1, key _ _ k.2.1, key _ _ k.2.2⟩
    · exact (Array.getElem?_eq_some_iff.1 hh).1
theorem SL.below {w w' : World} {v : Value} {ls : List (Nat × Nat × Nat)} (h : SL w v ls) (hb : Below w.heap.size w w') : SL w' v ls := by
  obtain ⟨ad, c, hv, hn⟩ := h
  refine ⟨ad, c, hv, fun k => ?_⟩
  obtain ⟨g, h1, h2, h3⟩ := hn k
  exact ⟨g, h1, h2.below h3 hb, Nat.lt_of_lt_of_le h3 hb.size⟩

theorem take_ne {α : Type} {xs ys : List α} {k : Nat} (hk : k < xs.length) (hk' : k < ys.length) (h : xs[k] ≠ ys[k]) : xs ≠ ys := by
  intro e; subst e; exact h rfl
theorem take_snoc_eq {α : Type} {xs ys : List α} {k : Nat} (hk : k < xs.length) (hk' : k < ys.length) (h : xs[k] = ys[k]) (ht : xs.take k = ys.take k) : xs.take (k + 1) = ys.take (k + 1) := by
  rw [List.take_succ_eq_append_getElem hk, List.take_succ_eq_append_getElem hk', h, ht]

theorem eqG (op : BinOp) (x y : Operand) (xs ys : Array Value) (w : World) : (eqGuard op 23 x y (.agg xs) (.agg ys)).run Tryd.prog w = .ok () w := run_eqGuard_agg w op 23 x y xs ys (by kernel_rfl)
theorem eqIn3 (a b c a' b' c' : Int) (w : World) : (Op.equalIn 10000 23 (.agg #[.int .i64 a, .int .i64 b, .int .i64 c]) (.agg #[.int .i64 a', .int .i64 b', .int .i64 c'])).run Tryd.prog w = .ok (decide (a = a' ∧ b = b' ∧ c = c')) w := by
  have u3 := Tryd.underlying3
  have a3 := Tryd.isAgg3
  have z3 := Tryd.sizeOf3
  have hS : Tryd.prog.underlying 23 = some (.struct (Tryd.prog.fieldsOf 23)) := by kernel_rfl
  have hp : Tryd.prog.stoodInHeld 23 = false := by kernel_rfl
  rw [show (10000 : Nat) = 9999 + 1 from rfl, run_equalIn_agg w 9999 23 _ _ hS hp]
  simp only [Program.fieldsOf, Tryd.underlying23]
  go_simp
  by_cases h1 : a = a' <;> by_cases h2 : b = b' <;> by_cases h3 : c = c' <;> simp [h1, h2, h3]
theorem eql3 (a b c a' b' c' : Int) (w : World) : (binOp .eql 23 (.agg #[.int .i64 a, .int .i64 b, .int .i64 c]) (.agg #[.int .i64 a', .int .i64 b', .int .i64 c'])).run Tryd.prog w = .ok (.bool (decide (a = a' ∧ b = b' ∧ c = c'))) w := by
  rw [run_eql_struct, eqIn3]; rfl
theorem neq3 (a b c a' b' c' : Int) (w : World) : (binOp .neq 23 (.agg #[.int .i64 a, .int .i64 b, .int .i64 c]) (.agg #[.int .i64 a', .int .i64 b', .int .i64 c'])).run Tryd.prog w = .ok (.bool (!decide (a = a' ∧ b = b' ∧ c = c'))) w := by
  rw [run_neq_struct, eqIn3]; rfl
theorem line_eq (x y : Nat × Nat × Nat) : decide ((x.1 : Int) = y.1 ∧ (x.2.1 : Int) = y.2.1 ∧ (x.2.2 : Int) = y.2.2) = decide (x = y) := by
  obtain ⟨a, b, c⟩ := x
  obtain ⟨a', b', c'⟩ := y
  simp only [Prod.mk.injEq]
  rw [Bool.eq_iff_iff]
  simp only [decide_eq_true_eq]
  omega

theorem neq_line (x y : Nat × Nat × Nat) (w : World) : (binOp .neq 23 (.agg #[.int .i64 x.1, .int .i64 x.2.1, .int .i64 x.2.2]) (.agg #[.int .i64 y.1, .int .i64 y.2.1, .int .i64 y.2.2])).run Tryd.prog w = .ok (.bool (!decide (x = y))) w := by
  rw [neq3, line_eq]

set_option maxRecDepth 100000 in
set_option maxHeartbeats 1000000 in
theorem hlines_some (g1 g2 p1 p2 : Nat) (xs ys : List (Nat × Nat × Nat)) (w : World) (h1 : HasL w g1 xs) (h2 : HasL w g2 ys) (hg1 : g1 < w.heap.size) (hg2 : g2 < w.heap.size) (hl : xs.length = ys.length) (hs : xs.length ≤ 100000) :
    Calls Tryd.prog 23 #[.slice (some ⟨g1, 0, none⟩) xs.length p1, .slice (some ⟨g2, 0, none⟩) xs.length p2] w fun r w' => r = .returned (.bool (decide (xs = ys))) ∧ Below w.heap.size w w' := by
  obtain ⟨R, hR⟩ : ∃ R, decide (xs = ys) = R := ⟨_, rfl⟩
  rw [hR]
  have HR := Lib.hid hR
  have HL := Lib.hid hl
  clear hR hl
  go_enter Tryd.func23, Tryd.ntmps23
  go_wp2
  go_loopw [5] (fun v wr => ∃ k : Nat, v = .int .i64 k ∧ k ≤ xs.length ∧ Hid (xs.take k = ys.take k) ∧ Below w.heap.size w wr) (fun v _ => xs.length - (intOf v).toNat)
  case atStart => exact ⟨0, rfl, Nat.zero_le _, rfl, Below.refl _ _⟩
  case round =>
    obtain ⟨k, rfl, hk, ht, hbw⟩ := hrel
    by_cases hlt : k < xs.length
    · have hltd : decide (k < xs.length) = true := by simpa using hlt
      have hlt2 : k < ys.length := by rw [← HL.out]; exact hlt
      have a0 := (h1.below hg1 hbw) k hlt
      have b0 := (h2.below hg2 hbw) k hlt2
      obtain ⟨a0, a1, a2⟩ := a0
      obtain ⟨b0, b1, b2⟩ := b0
      have e1 := eqG
      have e2 := fun w => neq_line xs[k] ys[k] w
      clear h1 h2
      by_cases hx : xs[k] = ys[k]
      · have HX := Lib.hid hx
        rw [decide_eq_true hx, Bool.not_true] at e2
        clear hx
        go_wp2
        go_quiet (fail)
        go_wp2
        go_roundw
        case rel => exact ⟨k + 1, by go_num, by omega, take_snoc_eq hlt hlt2 HX.out ht.out, below_dN hbw _⟩
        case measure => simp [intOf]; omega
      · have HF := Lib.hid (show R = false by rw [← HR.out]; exact decide_eq_false (take_ne hlt hlt2 hx))
        rw [decide_eq_false hx, Bool.not_false] at e2
        clear hx
        go_wp2
        go_quiet (fail)
        go_wp2
        go_ret
        exact ⟨by rw [HF.out]; rfl, below_dN hbw _⟩
    · obtain rfl : k = xs.length := by omega
      have hltd : decide (xs.length < xs.length) = false := by simp
      have HF := Lib.hid (show R = true by
        rw [← HR.out]
        have h := ht.out
        rw [List.take_length, HL.out, List.take_length] at h
        exact decide_eq_true h)
      clear hlt h1 h2
      go_wp2
      go_ret
      exact ⟨by rw [HF.out]; rfl, hbw⟩

set_option maxRecDepth 100000 in
set_option maxHeartbeats 1000000 in
theorem hlines_any (v1 v2 : Value) (xs ys : List (Nat × Nat × Nat)) (w : World) (h1 : SL w v1 xs) (h2 : SL w v2 ys) (hs : xs.length ≤ 100000) :
    Calls Tryd.prog 23 #[v1, v2] w fun r w' => r = .returned (.bool (decide (xs = ys))) ∧ Below w.heap.size w w' := by
  obtain ⟨a1, p1, rfl, k1⟩ := h1
  obtain ⟨a2, p2, rfl, k2⟩ := h2
  by_cases hl : xs.length = ys.length
  · by_cases hn : xs = []
    · subst hn
      have : ys = [] := List.length_eq_zero_iff.1 hl.symm
      subst this
      clear k1 k2 hl
      simp only [List.length_nil, decide_true]
      go_enter Tryd.func23, Tryd.ntmps23
      go_wp2
      go_loop [5] (fun v => v = .int .i64 0) (fun _ => 0)
      case atStart => rfl
      case round =>
        obtain rfl := hrel
        go_wp2
        go_ret
        exact ⟨rfl, Below.refl _ _⟩
    · obtain ⟨g1, rfl, q1, r1⟩ := k1 hn
      obtain ⟨g2, rfl, q2, r2⟩ := k2 (fun e => hn (by rw [e] at hl; exact List.length_eq_zero_iff.1 hl))
      have c := hlines_some g1 g2 p1 p2 xs ys w q1 q2 r1 r2 hl hs
      rw [← hl]
      exact c
  · have hd : ((xs.length : Int) != (ys.length : Int)) = true := by simp; omega
    rw [decide_eq_false (fun e : xs = ys => hl (by rw [e]))]
    clear k1 k2 hl
    go_enter Tryd.func23, Tryd.ntmps23
    go_wp2
    go_ret
    exact ⟨rfl, Below.refl _ _⟩

set_option maxHeartbeats 400000 in
theorem version_any (old : Bool) (w : World) :
    Calls Tryd.prog 25 #[.bool old] w fun r w' => r = .returned (.int .i64 (if old = true then 11 else 12)) ∧ w = w' := by
  cases old
  · go_enter Tryd.func25, Tryd.ntmps25
    go_wp2
    go_ret
    exact ⟨rfl, rfl⟩
  · go_enter Tryd.func25, Tryd.ntmps25
    go_wp2
    go_ret
    exact ⟨rfl, rfl⟩

end Go.Proofs.YtnmfiadljhbmiaaDoor
