/- Appending a slice of handles to a row of the call's own, as a step of a region that draws its order. -/
import Derived.Test.YtcahleaaicebbaaWf
import Derived.OwnWalk
import Derived.Deep.RegionLaw
set_option linter.unusedVariables false
namespace Go.Proofs.Ytcahleaaicebbaa
open Go.RowKit

def cellsH (hs : HL) : List Value := hs.flatMap fun h => [.string (bA h.1), .string (bA h.2)]
theorem cellsH_app (a b : HL) : cellsH (a ++ b) = cellsH a ++ cellsH b := by simp [cellsH]
theorem cellsH_len (hs : HL) : (cellsH hs).length = hs.length * 2 := by
  induction hs with
  | nil => rfl
  | cons h r ih =>
    have : cellsH (h :: r) = [.string (bA h.1), .string (bA h.2)] ++ cellsH r := rfl
    rw [this, List.length_append, ih]
    show 2 + List.length r * 2 = (List.length r + 1) * 2
    omega
theorem cellsH_one (hs : HL) : ∀ u ∈ cellsH hs, u.oneCell' = true := by
  intro u hu
  obtain ⟨h, _, hh⟩ := List.mem_flatMap.1 hu
  simp only [List.mem_cons, List.not_mem_nil, or_false] at hh
  rcases hh with rfl | rfl <;> rfl
theorem cellsH_get (hs : HL) (j : Nat) (h : j < hs.length) : (cellsH hs)[j * 2]? = some (.string (bA hs[j].1)) ∧ (cellsH hs)[j * 2 + 1]? = some (.string (bA hs[j].2)) := by
  induction hs generalizing j with
  | nil => simp at h
  | cons x r ih =>
    have e : cellsH (x :: r) = .string (bA x.1) :: .string (bA x.2) :: cellsH r := rfl
    rw [e]
    cases j with
    | zero => exact ⟨rfl, rfl⟩
    | succ j =>
      have := ih j (by simpa using h)
      rw [show (j + 1) * 2 = j * 2 + 1 + 1 from by omega, show j * 2 + 1 + 1 + 1 = j * 2 + 1 + 1 + 1 from rfl]
      exact ⟨this.1, this.2⟩
/-- A row of handles that the call has made. -/
def OwnH (w : World) (B : Nat) (v : Value) (hs : HL) : Prop := w.ownsRow B 39 2 v hs.length (cellsH hs)
theorem OwnH.nil (w : World) (B : Nat) : OwnH w B (.slice none 0 0) [] := World.ownsRow_nil _ _ _ _
theorem OwnH.next {w w' : World} {B : Nat} {v : Value} {hs : HL} (h : OwnH w B v hs) (hb : Below w.heap.size w w') : OwnH w' B v hs := by
  obtain ⟨h1, ⟨hv, h2⟩ | ⟨g, cap, cur, hv, hg, hh, hc, hm, hsz, ht⟩⟩ := h
  · exact ⟨h1, Or.inl ⟨hv, h2⟩⟩
  · exact ⟨h1, Or.inr ⟨g, cap, cur, hv, hg, (hb.block g (Array.getElem?_eq_some_iff.1 hh).1).trans hh, hc, hm, hsz, ht⟩⟩
theorem OwnH.inH {w : World} {B : Nat} {v : Value} {hs : HL} (h : OwnH w B v hs) : ∃ a cap, v = .slice a hs.length cap ∧ InH w a hs := by
  obtain ⟨h1, ⟨hv, h2⟩ | ⟨g, cap, cur, hv, hg, hh, hc, hm, hsz, ht⟩⟩ := h
  · have : hs = [] := List.length_eq_zero_iff.1 h2
    subst this
    exact ⟨none, 0, hv, InH.nil _ _⟩
  · refine ⟨_, cap, hv, fun _ => ⟨g, 0, rfl, fun j hj => ?_, (Array.getElem?_eq_some_iff.1 hh).1⟩⟩
    have hget : ∀ i u, (cellsH hs)[i]? = some u → w.cell? ⟨g, 0 + i, none⟩ = some u := by
      intro i u hi
      simp only [World.cell?, hh, Nat.zero_add]
      rw [← hi, ← ht, List.getElem?_take]
      have hil : i < hs.length * 2 := by
        have := (List.getElem?_eq_some_iff.1 hi).1
        rw [cellsH_len] at this; exact this
      rw [if_pos hil]
      simp
    obtain ⟨q0, q1⟩ := cellsH_get hs j hj
    exact ⟨hget _ _ q0, by rw [Nat.add_assoc]; exact hget _ _ q1⟩
theorem InH.news {w : World} {b off : Nat} {hs : HL} (hc : ∀ j, (h : j < hs.length) → w.cell? ⟨b, off + j * 2, none⟩ = some (.string (bA hs[j].1)) ∧ w.cell? ⟨b, off + j * 2 + 1, none⟩ = some (.string (bA hs[j].2))) :
    ∀ (j : Nat) (u : Value), (cellsH hs)[j]? = some u → w.cell? ((⟨b, off, none⟩ : Addr).add j) = some u := by
  intro j u hj
  have hl := (List.getElem?_eq_some_iff.1 hj).1
  rw [cellsH_len] at hl
  have hk : j / 2 < hs.length := by omega
  obtain ⟨q0, q1⟩ := cellsH_get hs (j / 2) hk
  obtain ⟨p0, p1⟩ := hc (j / 2) hk
  rw [Addr.add_lit]
  rcases Nat.mod_two_eq_zero_or_one j with h | h
  · have e : j / 2 * 2 = j := by omega
    rw [e] at q0 p0
    rw [p0, ← hj, q0]
  · have e : j / 2 * 2 + 1 = j := by omega
    have e2 : off + j / 2 * 2 + 1 = off + j := by omega
    rw [e] at q1
    rw [e2] at p1
    rw [p1, ← hj, q1]
theorem info_h : (Try.prog.info? 39).map (fun i => (i.zero, i.size, i.bytes)) = some (some (.agg #[.string ⟨#[]⟩, .string ⟨#[]⟩]), 2, 32) := by kernel_rfl
theorem run_app_none {w : World} {B : Nat} {v : Value} {D : HL} (ty : TypeId) (c : Nat) (hown : OwnH w B v D) : (Builtin.append_ #[24, 24] ty #[v, .slice none 0 c]).run Try.prog w = .ok v w := by
  obtain ⟨i0, hi, hz0, hz1, hz2⟩ := info_parts info_h
  rcases hown.2 with ⟨rfl, h0⟩ | ⟨g, cap, cur, rfl, _, _, hnc, _⟩
  · rw [List.length_eq_zero_iff] at h0
    subst h0
    simp [Builtin.append_, run_underlying Try.underlying24, sizeOf, typeInfo, hi, Builtin.lenOf, Builtin.firstCells]
  · simp [Builtin.append_, run_underlying Try.underlying24, sizeOf, typeInfo, hi, Builtin.lenOf, Builtin.firstCells, hnc, storeCells]
theorem OwnH.app {w : World} {B : Nat} {v : Value} {l m : HL} (h : w.ownsRow B 39 2 v (l.length + m.length) (cellsH l ++ cellsH m)) : OwnH w B v (l ++ m) := by
  unfold OwnH; rw [List.length_append, cellsH_app]; exact h
theorem step_app {ops : Array Oper} {o : Oper} {a : Act} {w : World} {K : Act → World → Prop} {Q : Exit → Act → World → Prop} {E : Prop} (hgd : o.guard = none) (s x : Operand)
    (ho : o.op = .call { callee := .builtin .append, args := #[s, x], argTypes := #[24, 24] }) (B : Nat) (v : Value) (D m : HL) (hs : a.eval s = v) (hown : OwnH w B v D)
    (ad : Option Addr) (cp n : Nat) (hx : a.eval x = .slice ad n cp) (hn : n = m.length) (hin : InH w ad m) (hD : D.length + m.length ≤ 100000) (hB : B ≤ w.heap.size)
    (h : ∀ v' w', OwnH w' B v' (D ++ m) → Below B w w' → K (a.put o.dst v') w') :
    if Region.wanted o (yielded ops a.tmps) = true then Oper.wp Try.prog o a w K Q else E := by
  have hw : Region.wanted o (yielded ops a.tmps) = true := by simp [Region.wanted, hgd]
  rw [if_pos hw]
  subst hn
  have key : ∀ ad' : Addr, ad = some ad' → (∀ j u, (cellsH m)[j]? = some u → w.cell? (ad'.add j) = some u) → Oper.wp Try.prog o a w K Q := by
    rintro ad' rfl hc
    obtain ⟨i0, hi, hz0, hz1, hz2⟩ := info_parts info_h
    obtain ⟨v', w', hrun, r1, r2, _⟩ := run_append_own (P := Try.prog) w B 24 o.type 39 i0 (.agg #[.string ⟨#[]⟩, .string ⟨#[]⟩]) 2 32 Try.underlying24 hi hz0 hz1 hz2 rfl (by decide) v D.length (cellsH D) hown ad' m.length cp (cellsH m) (cellsH_len m) hc (cellsH_one m) (by unfold maxLen; omega) (by omega) hB
    unfold Oper.wp
    simp [execOp, ho, resolve, invoke, builtin, hs, hx, hrun, Result.andThen]
    exact h v' w' (OwnH.app r1) ((Below.refl B w).grown r2 hB (fun k hk => (World.ownsRow.lt hown k hk).1))
  cases ad with
  | none =>
    have hm : m = [] := by
      cases m with
      | nil => rfl
      | cons x r => obtain ⟨b, off, e, _⟩ := hin (by simp); cases e
    subst hm
    have hrun := run_app_none o.type cp hown
    unfold Oper.wp
    rw [List.append_nil] at h
    simp [execOp, ho, resolve, invoke, builtin, hs, hx, hrun, Result.andThen]
    exact h v w hown (Below.refl _ _)
  | some ad' =>
    by_cases hm : m = []
    · subst hm
      exact key ad' rfl (fun j u hj => by simp [cellsH] at hj)
    · obtain ⟨b, off, e, hc, _⟩ := hin hm
      cases e
      exact key _ rfl (InH.news hc)
end Go.Proofs.Ytcahleaaicebbaa
