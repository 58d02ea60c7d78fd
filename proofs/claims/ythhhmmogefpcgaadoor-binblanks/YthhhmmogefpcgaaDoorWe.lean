/- Slices of bytes as lists: cut, made, appended to, turned to strings. Walks: bin's bare. -/
import Derived.Test.YthhhmmogefpcgaaDoorWd
import Derived.Lib.BufferRead
import Derived.Lib.ConvBytes
set_option linter.unusedVariables false
namespace Go.Proofs.YthhhmmogefpcgaaDoor
open Go.RowKit Go.Lib

def bc (c : UInt8) : Value := .int .u8 (c.toNat : Int)
/-- A row of bytes that the call has made. -/
def OwnB (w : World) (B : Nat) (v : Value) (l : List UInt8) : Prop := w.ownsRow B 5 1 v l.length (l.map bc)
theorem OwnB.nil (w : World) (B : Nat) : OwnB w B (.slice none 0 0) [] := World.ownsRow_nil _ _ _ _
theorem OwnB.next {w w' : World} {B : Nat} {v : Value} {l : List UInt8} (h : OwnB w B v l) (hb : Below w.heap.size w w') : OwnB w' B v l := by
  obtain ⟨h1, ⟨hv, h2⟩ | ⟨g, cap, cur, hv, hg, hh, hc, hm, hsz, ht⟩⟩ := h
  · exact ⟨h1, Or.inl ⟨hv, h2⟩⟩
  · exact ⟨h1, Or.inr ⟨g, cap, cur, hv, hg, (hb.block g (Array.getElem?_eq_some_iff.1 hh).1).trans hh, hc, hm, hsz, ht⟩⟩
theorem OwnB.snoc {w : World} {B : Nat} {v : Value} {l : List UInt8} {c : UInt8} (h : w.ownsRow B 5 1 v (l.length + 1) (l.map bc ++ [.int .u8 (c.toNat : Int)])) : OwnB w B v (l ++ [c]) := by
  unfold OwnB; rw [List.length_append, List.map_append]; exact h
theorem OwnB.app {w : World} {B : Nat} {v : Value} {l m : List UInt8} (h : w.ownsRow B 5 1 v (l.length + m.length) (l.map bc ++ m.map bc)) : OwnB w B v (l ++ m) := by
  unfold OwnB; rw [List.length_append, List.map_append]; exact h
theorem bc_one (p : Nat) : ∀ u ∈ [Value.int .u8 (p : Int)], u.oneCell' = true := by intro u hu; rw [List.mem_singleton.1 hu]; rfl
theorem bcs_one (l : List UInt8) : ∀ u ∈ l.map bc, u.oneCell' = true := by
  intro u hu
  obtain ⟨c, _, rfl⟩ := List.mem_map.1 hu
  rfl
theorem bc_news (w : World) (p : Nat) (t : TypeId) : ∀ (j : Nat) (u : Value), [Value.int .u8 (p : Int)][j]? = some u → (w.alloc (.cells #[.int .u8 (p : Int)] t)).cell? ((⟨w.heap.size, 0, none⟩ : Addr).add j) = some u := by
  intro j u hj
  match j, hj with
  | 0, hj => simp at hj; subst hj; simp [Addr.add]
  | n + 1, hj => simp at hj

/-- A slice of bytes that reads as l. -/
structure InS (w : World) (a : Option Addr) (l : List UInt8) (cap : Nat) : Prop where
  le : l.length ≤ cap
  at_ : l ≠ [] → ∃ b off, a = some ⟨b, off, none⟩ ∧ (∀ j, (h : j < l.length) → w.cell? ⟨b, off + j, none⟩ = some (.int .u8 (l[j].toNat : Int))) ∧ b < w.heap.size
theorem InS.next {w w' : World} {a : Option Addr} {l : List UInt8} {cap : Nat} (h : InS w a l cap) (hb : Below w.heap.size w w') : InS w' a l cap := by
  refine ⟨h.le, fun hne => ?_⟩
  obtain ⟨b, off, e, hc, hlt⟩ := h.at_ hne
  refine ⟨b, off, e, fun j hj => ?_, Nat.lt_of_lt_of_le hlt hb.size⟩
  rw [← hc j hj]; simp [World.cell?, hb.block b hlt]
theorem InS.nil (w : World) : InS w none [] 0 := ⟨Nat.le_refl _, fun h => absurd rfl h⟩
theorem InS.drop {w : World} {a : Option Addr} {l : List UInt8} {cap k : Nat} (h : InS w a l cap) (hk : k ≤ l.length) : InS w (if cap = k then a else a.map (·.add (k * 1))) (l.drop k) (cap - k) := by
  refine ⟨by rw [List.length_drop]; have := h.le; omega, fun hne => ?_⟩
  have hlt : k < l.length := by
    rcases Nat.lt_or_ge k l.length with h' | h'
    · exact h'
    · exact absurd (List.drop_of_length_le h') hne
  obtain ⟨b, off, rfl, hc, hb⟩ := h.at_ (by intro e; rw [e] at hlt; exact absurd hlt (by simp))
  have hcap := h.le
  rw [if_neg (by omega)]
  refine ⟨b, off + k, by simp [Addr.add], fun j hj => ?_, hb⟩
  rw [List.length_drop] at hj
  rw [List.getElem_drop, ← hc (k + j) (by omega), Nat.add_assoc]
theorem InS.take {w : World} {a : Option Addr} {l : List UInt8} {cap k : Nat} (h : InS w a l cap) (hk : k ≤ l.length) : InS w a (l.take k) cap := by
  refine ⟨by rw [List.length_take]; have := h.le; omega, fun hne => ?_⟩
  obtain ⟨b, off, rfl, hc, hb⟩ := h.at_ (by intro e; rw [e] at hne; simp at hne)
  refine ⟨b, off, rfl, fun j hj => ?_, hb⟩
  rw [List.length_take] at hj
  rw [List.getElem_take]; exact hc j (by omega)
theorem InS.conv {w : World} {a : Option Addr} {l : List UInt8} {cap : Nat} (h : InS w a l cap) : (convert 22 9 (.slice a l.length cap)).run Tryd.prog w = .ok (.string (bA l)) w := by
  by_cases hne : l = []
  · subst hne
    cases a with
    | none => exact Lib.run_convert_nil_bytes w 22 9 5 cap Tryd.underlying22 Tryd.underlying5 Tryd.underlying9
    | some ad => exact run_convert_bytes_back w 22 9 5 ad cap [] Tryd.underlying22 Tryd.underlying5 Tryd.underlying9 (fun j hj => absurd hj (by simp))
  · obtain ⟨b, off, rfl, hc, hb⟩ := h.at_ hne
    refine run_convert_bytes_back w 22 9 5 ⟨b, off, none⟩ cap l Tryd.underlying22 Tryd.underlying5 Tryd.underlying9 ?_
    intro j hj
    rw [Addr.add_lit, hc j hj]
theorem OwnB.ins {w : World} {B : Nat} {v : Value} {l : List UInt8} (h : OwnB w B v l) : ∃ a cap, v = .slice a l.length cap ∧ InS w a l cap := by
  obtain ⟨h1, ⟨hv, h2⟩ | ⟨g, cap, cur, hv, hg, hh, hc, hm, hsz, ht⟩⟩ := h
  · have : l = [] := List.length_eq_zero_iff.1 h2
    subst this
    exact ⟨none, 0, hv, InS.nil w⟩
  · refine ⟨_, cap, hv, hc, fun _ => ⟨g, 0, rfl, fun j hj => ?_, (Array.getElem?_eq_some_iff.1 hh).1⟩⟩
    have := Lib.bytes_of_row (l := l) hh (by rw [Nat.mul_one] at ht; rw [ht]; rfl) j hj
    rw [Addr.add_lit] at this
    exact this
theorem InS.news {w : World} {b off : Nat} {l : List UInt8} (hc : ∀ j, (h : j < l.length) → w.cell? ⟨b, off + j, none⟩ = some (.int .u8 (l[j].toNat : Int))) : ∀ (j : Nat) (u : Value), (l.map bc)[j]? = some u → w.cell? ((⟨b, off, none⟩ : Addr).add j) = some u := by
  intro j u hj
  rw [List.getElem?_map] at hj
  by_cases h : j < l.length
  · rw [List.getElem?_eq_getElem h] at hj
    rw [Addr.add_lit, hc j h]
    exact hj
  · rw [List.getElem?_eq_none (by omega)] at hj; cases hj

theorem und22 : Tryd.prog.underlying 22 = some (.slice (Tryd.prog.elem 22)) := Tryd.underlying22
theorem info_b : (Tryd.prog.info? 5).map (fun i => (i.zero, i.size, i.bytes)) = some (some (.int .u8 0), 1, 1) := by kernel_rfl
/-- s[k:] -/
theorem wpList_cutL {ops : Array Oper} {rest : List Oper} {o : Oper} {a : Act} {w : World} {Q : Exit → Act → World → Prop} (hgd : o.guard = none) (x lo : Operand) (ho : o.op = .slice 22 x (some lo) none none) (ad : Option Addr) (l : List UInt8) (cap k : Nat)
    (hx : a.eval x = .slice ad l.length cap) (hlo : a.eval lo = .int .i64 (k : Int)) (hk : k ≤ l.length) {w0 : World} (hs : InS w0 ad l cap)
    (h : ∀ ad', InS w0 ad' (l.drop k) (cap - k) → wpList Tryd.prog ops Q rest (a.put o.dst (.slice ad' (l.drop k).length (cap - k))) w) : wpList Tryd.prog ops Q (o :: rest) a w := by
  refine wpList_plain hgd fun K hK => ?_
  have hi := hs.drop hk
  have hrun : (Instr.sliceAt 22 (.slice ad l.length cap) (some (.int .i64 (k : Int))) none none).run Tryd.prog w = .ok (.slice (if cap = k then ad else ad.map (·.add (k * 1))) (l.drop k).length (cap - k)) w := by
    rw [run_sliceAt_slice (h := und22), run_slice_l (ht := und22) (h0 := by omega) (h1 := by omega)]
    rw [show Tryd.prog.elem 22 = 5 from by kernel_rfl]
    simp [Tryd.sizeOf5, Result.andThen, sliced, List.length_drop]
  unfold Oper.wp execOp
  simp only [ho, hx, hlo, Option.map_some, Option.map_none, Sem.run_bind, Sem.run_pure, hrun, Result.andThen_ok]
  exact hK _ _ (h _ hi)
/-- s[:k] -/
theorem wpList_cutH {ops : Array Oper} {rest : List Oper} {o : Oper} {a : Act} {w : World} {Q : Exit → Act → World → Prop} (hgd : o.guard = none) (x hi : Operand) (ho : o.op = .slice 22 x none (some hi) none) (ad : Option Addr) (l : List UInt8) (cap k : Nat)
    (hx : a.eval x = .slice ad l.length cap) (hh : a.eval hi = .int .i64 (k : Int)) (hk : k ≤ l.length) {w0 : World} (hs : InS w0 ad l cap)
    (h : InS w0 ad (l.take k) cap → wpList Tryd.prog ops Q rest (a.put o.dst (.slice ad (l.take k).length cap)) w) : wpList Tryd.prog ops Q (o :: rest) a w := by
  refine wpList_plain hgd fun K hK => ?_
  have hi' := hs.take hk
  have hle := hs.le
  have hrun : (Instr.sliceAt 22 (.slice ad l.length cap) none (some (.int .i64 (k : Int))) none).run Tryd.prog w = .ok (.slice ad (l.take k).length cap) w := by
    rw [run_sliceAt_slice (h := und22), run_slice_h (ht := und22) (h0 := by omega) (h2 := by omega)]
    rw [show Tryd.prog.elem 22 = 5 from by kernel_rfl]
    cases ad with
    | none => simp [Tryd.sizeOf5, Result.andThen, sliced, List.length_take]; omega
    | some p => simp [Tryd.sizeOf5, Result.andThen, sliced, List.length_take, Addr.add]; omega
  unfold Oper.wp execOp
  simp only [ho, hx, hh, Option.map_some, Option.map_none, Sem.run_bind, Sem.run_pure, hrun, Result.andThen_ok]
  exact hK _ _ (h hi')
/-- make([]byte, 0, c) -/
theorem wpList_make {ops : Array Oper} {rest : List Oper} {o : Oper} {a : Act} {w : World} {Q : Exit → Act → World → Prop} (hgd : o.guard = none) (c : Operand) (ho : o.op = .makeSlice 22 (.const (.int .i64 0)) c) (k : Nat) (q : Int) (hc : a.eval c = .int .i64 q) (hq : q = (k : Int)) (hk : k ≤ 1000000)
    (h : ∀ v w', OwnB w' w.heap.size v [] → Below w.heap.size w w' → wpList Tryd.prog ops Q rest (a.put o.dst v) w') : wpList Tryd.prog ops Q (o :: rest) a w := by
  subst hq
  refine wpList_plain hgd fun K hK => ?_
  obtain ⟨i0, hi, hz0, hz1, hz2⟩ := info_parts info_b
  obtain ⟨w', hrun, hown, hgrow⟩ := run_make_own (P := Tryd.prog) w w.heap.size 22 5 i0 (.int .u8 0) 1 Tryd.underlying22 hi hz0 hz1 .i64 .i64 k (by rw [hz2, Nat.one_mul]; omega) (by unfold maxLen; omega) (Nat.le_refl _)
  have hb : Below w.heap.size w w' := ⟨hgrow.os, hgrow.tape, hgrow.output, hgrow.size, fun j hj => hgrow.block j hj (by simp)⟩
  have h0 : a.eval (.const (.int .i64 0)) = .int .i64 0 := rfl
  unfold Oper.wp execOp
  simp only [ho, h0, hc, Sem.run_bind, Sem.run_pure, hrun, Result.andThen_ok]
  exact hK _ _ (h _ w' hown hb)
end Go.Proofs.YthhhmmogefpcgaaDoor
