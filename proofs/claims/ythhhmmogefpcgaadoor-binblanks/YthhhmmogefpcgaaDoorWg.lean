/- Walks: a strings.Builder of the call's own: Grow, Write, String. -/
import Derived.Test.YthhhmmogefpcgaaDoorWf
import Derived.Test.YthhhmmogefpcgaaDoorShelf
set_option linter.unusedVariables false
namespace Go.Proofs.YthhhmmogefpcgaaDoor
open Go.RowKit

theorem bExtra : Builder.Extra Tryd.prog Tryd.lays165_ren := {
  sizeBuilder := by kernel_rfl
  liesBuilder := by kernel_rfl
  t5 := Tryd.underlying5
  a5 := Tryd.isAgg5
  z5 := Tryd.sizeOf5
  v5 := Tryd.zeroValue5
  infoByte := by kernel_rfl
  cellsByte := by kernel_rfl
  sizeByte := by kernel_rfl
  neB5 := by decide }
theorem bExtra9 : Builder.Extra Tryd.prog Tryd.lays169_ren := {
  sizeBuilder := by kernel_rfl
  liesBuilder := by kernel_rfl
  t5 := Tryd.underlying5
  a5 := Tryd.isAgg5
  z5 := Tryd.sizeOf5
  v5 := Tryd.zeroValue5
  infoByte := by kernel_rfl
  cellsByte := by kernel_rfl
  sizeByte := by kernel_rfl
  neB5 := by decide }
/-- A builder of the call's own, at block b, that holds l. -/
def Bu (w : World) (B b : Nat) (l : List UInt8) : Prop := Lib.BuilderAt 46 5 B b (.pointer (some ⟨b, 0, none⟩)) (l.map bc) w
theorem Bu.next {w w' : World} {B b : Nat} {l : List UInt8} (h : Bu w B b l) (hb : Below w.heap.size w w') : Bu w' B b l := by
  obtain ⟨hB, v, hk, hown, hne⟩ := h
  refine ⟨hB, v, (hb.block b (Array.getElem?_eq_some_iff.1 hk).1).trans hk, ?_, hne⟩
  obtain ⟨h1, ⟨hv, h2⟩ | ⟨g, cap, cur, hv, hg, hh, hc, hm, hsz, ht⟩⟩ := hown
  · exact ⟨h1, Or.inl ⟨hv, h2⟩⟩
  · exact ⟨h1, Or.inr ⟨g, cap, cur, hv, hg, (hb.block g (Array.getElem?_eq_some_iff.1 hh).1).trans hh, hc, hm, hsz, ht⟩⟩
theorem grow_any (b n : Nat) (w : World) (hbk : w.heap[b]? = some (.cells #[.pointer none, .slice none 0 0] 46 (0, 0))) (hn : n ≤ 1000000) :
    Calls Tryd.prog 17 #[.pointer (some ⟨b, 0, none⟩), .int .i64 n] w fun e w' => e = .returned (.tuple #[]) ∧ Bu w' b b [] ∧ Below b w w' :=
  Any.Builder_Grow_fresh Tryd.lays165 bExtra b b n w (Nat.le_refl _) hbk (Nat.le_of_lt (Array.getElem?_eq_some_iff.1 hbk).1) (by omega)
theorem string_any (B b : Nat) (l : List UInt8) (w : World) (h : Bu w B b l) (hB : B ≤ w.heap.size) :
    Calls Tryd.prog 19 #[.pointer (some ⟨b, 0, none⟩)] w fun e w' => e = .returned (.string (bA l)) ∧ Below B w w' :=
  Any.Builder_String_any Tryd.lays169 bExtra9 B b l w (Or.inr h) hB
theorem check_any (b : Nat) (w : World) (h0 : w.cell? ⟨b, 0, none⟩ = some (.pointer (some ⟨b, 0, none⟩))) :
    Calls Tryd.prog 21 #[.pointer (some ⟨b, 0, none⟩)] w fun e w' => e = .returned (.tuple #[]) ∧ w' = w :=
  Any.Builder_copyCheck_used (ρ := Tryd.lays165_ren) { Tryd.lays165 with } bExtra.toX72 b w h0
set_option maxRecDepth 100000 in
set_option maxHeartbeats 2000000 in
theorem write_any (B b g off cap : Nat) (l m : List UInt8) (w : World) (h : Bu w B b l) (hB : B ≤ w.heap.size) (hl : l.length ≤ 10000) (hm : m.length ≤ 10000)
    (hc : ∀ j, (h : j < m.length) → w.cell? ⟨g, off + j, none⟩ = some (.int .u8 (m[j].toNat : Int))) :
    Calls Tryd.prog 18 #[.pointer (some ⟨b, 0, none⟩), .slice (some ⟨g, off, none⟩) m.length cap] w fun e w' => (∃ v, e = .returned v) ∧ Bu w' B b (l ++ m) ∧ Below B w w' := by
  obtain ⟨i0, hi, hz0, hz1, hz2⟩ := info_parts info_b
  obtain ⟨hBb, v, hbk, hown, hne⟩ := h
  have c0 : w.cell? ⟨b, 0, none⟩ = some (.pointer (some ⟨b, 0, none⟩)) := by rw [Lib.cell_of_heap hbk]; rfl
  have c1 : w.cell? ⟨b, 1, none⟩ = some v := by rw [Lib.cell_of_heap hbk]; rfl
  have hck := check_any b w c0
  have hnews := InS.news hc
  have hone := bcs_one m
  have hblt := (Array.getElem?_eq_some_iff.1 hbk).1
  rw [List.length_map] at hown
  clear hc
  go_enter Tryd.func18, Tryd.ntmps18
  go_wp2_with fail
  refine hck.mono ?_
  rintro e w1 ⟨rfl, rfl⟩
  clear hck
  go_wp2_with (at_builtin; refine wpList_append_own _ rfl (.tmp 12) (.tmp 13) 22 rfl B 5 i0 (.int .u8 0) 1 1 Tryd.underlying22 hi hz0 hz1 hz2 rfl (by decide) v l.length (l.map bc) rfl hown ⟨g, off, none⟩ m.length cap (m.map bc) rfl (by simp) hnews hone (by unfold maxLen; omega) (by omega) hB ?_)
  intro v' w2 hown' hgrow _
  have hb2 : w2.heap[b]? = some (.cells #[.pointer (some ⟨b, 0, none⟩), v] 46 (0, 0)) := by
    rw [hgrow.block b hblt (fun e => hne e.symm)]
    exact hbk
  have d0 : w2.cell? ⟨b, 0, none⟩ = some (.pointer (some ⟨b, 0, none⟩)) := by rw [Lib.cell_of_heap hb2]; rfl
  have d1 : w2.cell? ⟨b, 1, none⟩ = some v := by rw [Lib.cell_of_heap hb2]; rfl
  have f1 : w2.frozen? ⟨b, 1, none⟩ = false := Lib.frozen_of_heap hb2 1
  obtain ⟨ao, n', cap', rfl⟩ : ∃ ao n' cap', v' = .slice ao n' cap' := by
    rcases hown'.2 with ⟨hv, _⟩ | ⟨g', cap', cur, hv, _⟩
    · exact ⟨_, _, _, hv⟩
    · exact ⟨_, _, _, hv⟩
  have HN := Lib.hid hown'
  have HB := Lib.hid (((Below.refl B w1).grown hgrow hB (fun k hk => (hown.lt k hk).1)).setCell (p := ⟨b, 1, none⟩) hBb (.slice ao n' cap'))
  have H2 := Lib.hid hb2
  clear hown' hgrow hown hbk hb2 hnews hone
  go_wp2
  go_ret2
  refine ⟨⟨_, rfl⟩, ?_, HB.out⟩
  refine Lib.BuilderAt.put hBb H2.out ?_ (by decide)
  rw [List.length_map, List.length_append, List.map_append]
  exact HN.out
end Go.Proofs.YthhhmmogefpcgaaDoor
