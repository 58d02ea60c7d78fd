/- Walks of the document's sign, find. Walk of the document's bare. -/
import Derived.Test.YtocegiffbgnogaaDoorRd
import Derived.Test.YtocegiffbgnogaaDoorXn
import Derived.Lib.BufferRead
set_option linter.unusedVariables false
namespace Go.Proofs.YtocegiffbgnogaaDoor
open Go.RowKit

theorem head_43 {c : UInt8} {r : List UInt8} (h : c = 43) : M.isNeg (c :: r) = false ∧ M.body (c :: r) = r := by
  subst h
  have h1 : M.isNeg (43 :: r) = false := by simp [M.isNeg]
  refine ⟨h1, ?_⟩
  unfold M.body M.unplus
  rw [h1]; simp
theorem head_45 {c : UInt8} {r : List UInt8} (h : c = 45) : M.isNeg (c :: r) = true ∧ M.body (c :: r) = r := by
  subst h
  refine ⟨M.isNeg_cons r, ?_⟩
  unfold M.body
  rw [if_pos (M.isNeg_cons r), M.unsign_cons]
theorem head_else {c : UInt8} {r : List UInt8} (h1 : c ≠ 43) (h2 : c ≠ 45) : M.isNeg (c :: r) = false ∧ M.body (c :: r) = c :: r := by
  have h3 : M.isNeg (c :: r) = false := by simp [M.isNeg, h2]
  refine ⟨h3, ?_⟩
  unfold M.body M.unplus
  rw [h3]; simp [h1]
set_option maxRecDepth 100000 in
set_option maxHeartbeats 1000000 in
theorem rsign_any (s : ByteArray) (w : World) (hs : s.size ≤ 1000) :
    Calls Tryd.prog 23 #[.string s] w fun e w' => e = .returned (.tuple #[.string (bA (M.body s.data.toList)), .bool (M.isNeg s.data.toList)]) ∧ Below w.heap.size w w' := by
  by_cases h0 : 0 < s.size
  · have hl := drop_cons s 0 h0
    rw [List.drop_zero] at hl
    have hx : bA (s.data.toList.drop 1) = s.extract 1 s.size := by symm; apply eq_bA; rw [Lib.extract_to_end]
    have hd : decide (0 < s.size) = true := by simpa using h0
    have hz : (1 : Int) ≤ (s.size : Int) := by omega
    have hz1 : 1 ≤ s.size := by omega
    have h256 := s[0].toNat_lt
    by_cases h43 : s[0] = 43
    · obtain ⟨e1, e2⟩ := head_43 (r := s.data.toList.drop 1) h43
      rw [← hl] at e1 e2
      rw [e1, e2, hx]
      have g : s[0].toNat = 43 := by rw [h43]; rfl
      clear e1 e2 hl hx h43
      go_enter Tryd.func23, Tryd.ntmps23
      go_wp2
      go_quiet (fail)
      go_wp2
      go_ret2
      exact ⟨rfl, below_dN (Below.refl _ _) _⟩
    · by_cases h45 : s[0] = 45
      · obtain ⟨e1, e2⟩ := head_45 (r := s.data.toList.drop 1) h45
        rw [← hl] at e1 e2
        rw [e1, e2, hx]
        have g : s[0].toNat = 45 := by rw [h45]; rfl
        clear e1 e2 hl hx h43 h45
        go_enter Tryd.func23, Tryd.ntmps23
        go_wp2
        go_quiet (fail)
        go_wp2
        go_ret2
        exact ⟨rfl, below_dN (Below.refl _ _) _⟩
      · obtain ⟨e1, e2⟩ := head_else (r := s.data.toList.drop 1) h43 h45
        rw [← hl] at e1 e2
        rw [e1, e2, bA_of]
        have g1 : ((s[0].toNat : Int) == 43) = false := neC (k := 43) (by omega) h43
        have g2 : ((s[0].toNat : Int) == 45) = false := neC (k := 45) (by omega) h45
        clear e1 e2 hl hx h43 h45
        go_enter Tryd.func23, Tryd.ntmps23
        go_wp2
        go_ret2
        exact ⟨rfl, Below.refl _ _⟩
  · have hd : decide (0 < s.size) = false := by simpa using h0
    have hz : s.data.toList = [] := List.eq_nil_of_length_eq_zero (by rw [← sz_list]; omega)
    have e : s = ⟨#[]⟩ := eq_bA hz
    subst e
    clear hz h0 hs hd
    go_enter Tryd.func23, Tryd.ntmps23
    go_wp2
    go_ret2
    exact ⟨rfl, Below.refl _ _⟩

end Go.Proofs.YtocegiffbgnogaaDoor

namespace Go.Proofs.YtocegiffbgnogaaDoor
open Go.RowKit Go.Lib

def bc (c : UInt8) : Value := .int .u8 (c.toNat : Int)
/-- A row of bytes that the call has made. -/
def OwnB (w : World) (B : Nat) (v : Value) (l : List UInt8) : Prop := w.ownsRow B 5 1 v l.length (l.map bc)
theorem OwnB.nil (w : World) (B : Nat) : OwnB w B (.slice none 0 0) [] := World.ownsRow_nil _ _ _ _
theorem OwnB.form {w : World} {B : Nat} {v : Value} {l : List UInt8} (h : OwnB w B v l) : (v = .slice none 0 0 ∧ l = []) ∨ ∃ g cap, v = .slice (some ⟨g, 0, none⟩) l.length cap := by
  rcases h.2 with ⟨h1, h2⟩ | ⟨g, cap, cur, h1, hb, _⟩
  · exact Or.inl ⟨h1, List.eq_nil_of_length_eq_zero h2⟩
  · exact Or.inr ⟨g, cap, h1⟩
theorem OwnB.cell {w : World} {B g cap : Nat} {l : List UInt8} (h : OwnB w B (.slice (some ⟨g, 0, none⟩) l.length cap) l) (i : Nat) (hi : i < l.length) : w.cell? ⟨g, i, none⟩ = some (.int .u8 (l[i].toNat : Int)) := by
  have := World.ownsRow.cellAt h i (by omega)
  rw [this, List.getElem?_map, List.getElem?_eq_getElem hi]; rfl
theorem OwnB.conv {w : World} {B g cap : Nat} {l : List UInt8} (h : OwnB w B (.slice (some ⟨g, 0, none⟩) l.length cap) l) : (convert 22 9 (.slice (some ⟨g, 0, none⟩) l.length cap)).run Tryd.prog w = .ok (.string (bA l)) w := by
  refine run_convert_bytes_back w 22 9 5 ⟨g, 0, none⟩ cap l Tryd.underlying22 Tryd.underlying5 Tryd.underlying9 ?_
  intro j hj
  rw [Addr.add_lit, Nat.zero_add, h.cell j hj]
theorem bc_one (p : Nat) : ∀ u ∈ [Value.int .u8 (p : Int)], u.oneCell' = true := by intro u hu; rw [List.mem_singleton.1 hu]; rfl
theorem bc_news (w : World) (p : Nat) (t : TypeId) : ∀ (j : Nat) (u : Value), [Value.int .u8 (p : Int)][j]? = some u → (w.alloc (.cells #[.int .u8 (p : Int)] t)).cell? ((⟨w.heap.size, 0, none⟩ : Addr).add j) = some u := by
  intro j u hj
  match j, hj with
  | 0, hj => simp at hj; subst hj; simp [Addr.add]
  | n + 1, hj => simp at hj
theorem OwnB.snoc {w : World} {B : Nat} {v : Value} {l : List UInt8} {c : UInt8} (h : w.ownsRow B 5 1 v (l.length + 1) (l.map bc ++ [.int .u8 (c.toNat : Int)])) : OwnB w B v (l ++ [c]) := by
  unfold OwnB; rw [List.length_append, List.map_append]; exact h
/-- What bare answers. -/
def bareV (b : Nat) (l : List UInt8) : Value := if M.allD b (M.gone l) = true then .tuple #[.string (bA (M.gone l)), .bool (!(M.gone l).isEmpty)] else .tuple #[.string ⟨#[]⟩, .bool false]
theorem gone_snoc_eq (l : List UInt8) : M.gone (l ++ [95]) = M.gone l := by rw [M.gone_append]; simp [M.gone]
theorem gone_snoc_ne (l : List UInt8) {c : UInt8} (h : c ≠ 95) : M.gone (l ++ [c]) = M.gone l ++ [c] := by rw [M.gone_append]; simp [M.gone, h]
end Go.Proofs.YtocegiffbgnogaaDoor
