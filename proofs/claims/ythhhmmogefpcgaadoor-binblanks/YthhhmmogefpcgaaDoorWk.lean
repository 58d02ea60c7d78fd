/- Appending a slice that reads as bytes to a row of the call's own. -/
import Derived.Test.YthhhmmogefpcgaaDoorWj
set_option linter.unusedVariables false
namespace Go.Proofs.YthhhmmogefpcgaaDoor
open Go.RowKit

theorem run_app_none {w : World} {B : Nat} {v : Value} {D : List UInt8} (ty : TypeId) (c : Nat) (hown : OwnB w B v D) : (Builtin.append_ #[22, 22] ty #[v, .slice none 0 c]).run Tryd.prog w = .ok v w := by
  obtain ⟨i0, hi, hz0, hz1, hz2⟩ := info_parts info_b
  rcases hown.2 with ⟨rfl, h0⟩ | ⟨g, cap, cur, rfl, _, _, hnc, _⟩
  · rw [List.length_eq_zero_iff] at h0
    subst h0
    simp [Builtin.append_, run_underlying Tryd.underlying22, sizeOf, typeInfo, hi, Builtin.lenOf, Builtin.firstCells]
  · simp [Builtin.append_, run_underlying Tryd.underlying22, sizeOf, typeInfo, hi, Builtin.lenOf, Builtin.firstCells, hnc, storeCells]
theorem wpList_app {w : World} {ops : Array Oper} {rest : List Oper} {o : Oper} {a : Act} {Q : Exit → Act → World → Prop} (hgd : o.guard = none) (s x : Operand)
    (ho : o.op = .call { callee := .builtin .append, args := #[s, x], argTypes := #[22, 22] }) (B : Nat) (v : Value) (D m : List UInt8) (hs : a.eval s = v) (hown : OwnB w B v D)
    (ad : Option Addr) (cp n : Nat) (hx : a.eval x = .slice ad n cp) (hn : n = m.length) (hin : InS w ad m cp) (hD : D.length + m.length ≤ 100000) (hB : B ≤ w.heap.size)
    (h : ∀ v' w', OwnB w' B v' (D ++ m) → Below B w w' → wpList Tryd.prog ops Q rest (a.put o.dst v') w') : wpList Tryd.prog ops Q (o :: rest) a w := by
  subst hn
  have key : ∀ ad' : Addr, ad = some ad' → (∀ j u, (m.map bc)[j]? = some u → w.cell? (ad'.add j) = some u) → wpList Tryd.prog ops Q (o :: rest) a w := by
    rintro ad' rfl hc
    obtain ⟨i0, hi, hz0, hz1, hz2⟩ := info_parts info_b
    refine wpList_append_own w hgd s x 22 ho B 5 i0 (.int .u8 0) 1 1 Tryd.underlying22 hi hz0 hz1 hz2 rfl (by decide) v D.length (D.map bc) hs hown ad' m.length cp (m.map bc) hx (by simp) hc (bcs_one m) (by unfold maxLen; omega) (by omega) hB ?_
    intro v' w' hown' hgrow _
    exact h v' w' (OwnB.app hown') ((Below.refl B w).grown hgrow hB (fun k hk => (World.ownsRow.lt hown k hk).1))
  cases ad with
  | none =>
    have hm : m = [] := by
      cases m with
      | nil => rfl
      | cons x r => obtain ⟨b, off, e, _⟩ := hin.at_ (by simp); cases e
    subst hm
    refine wpList_plain hgd fun K hK => ?_
    have hrun := run_app_none o.type cp hown
    unfold Oper.wp
    rw [List.append_nil] at h
    simp [execOp, ho, resolve, invoke, builtin, hs, hx, hrun, Result.andThen]
    exact hK _ _ (h v w hown (Below.refl _ _))
  | some ad' =>
    by_cases hm : m = []
    · subst hm
      exact key ad' rfl (fun j u hj => by simp at hj)
    · obtain ⟨b, off, e, hc, _⟩ := hin.at_ hm
      cases e
      exact key _ rfl (InS.news hc)
end Go.Proofs.YthhhmmogefpcgaaDoor
