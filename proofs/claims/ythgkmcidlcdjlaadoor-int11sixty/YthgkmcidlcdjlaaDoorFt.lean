/- The frame, on: a slice of bytes that came in, read as bytes. -/
import Derived.Test.YthgkmcidlcdjlaaDoorZe
import Derived.Test.YthgkmcidlcdjlaaDoorFs
import Derived.ChangeOld
namespace Go.Proofs.YthgkmcidlcdjlaaDoor
open Go.ChangeShapes Go.WideShapes Go.ChangeAt Go.RowKit

theorem laidOut : laidOutB Tryd.prog = true := by kernel_rfl
theorem inB_of_row {w : World} {x : Addr} {len cap : Nat} {zs : List Int} (hl : len ≤ cap) (hz : zs.length = cap) (hcell : ∀ i, i < zs.length → w.cell? (x.add i) = some (.int .u8 (zs.getD i 0))) (hwz : ∀ n ∈ zs, (Lit.int .u8 n).wf = true) :
    ∃ l : List UInt8, len = l.length ∧ InB w (some x) l := by
  have hlen : len = ((zs.take len).map fun z => UInt8.ofNat z.toNat).length := by simp; omega
  refine ⟨(zs.take len).map fun z => UInt8.ofNat z.toNat, hlen, fun hne => ?_⟩
  have hpos : 0 < len := by rw [hlen]; exact List.length_pos_iff.2 hne
  obtain ⟨b, off, spot⟩ := x
  have hc0 := hcell 0 (by omega)
  have hspot : spot = none := by simpa [Addr.add] using World.cell?_spot hc0
  subst hspot
  refine ⟨b, off, rfl, fun j hj => ?_, ?_⟩
  · rw [← hlen] at hj
    have hc := hcell j (by omega)
    rw [Addr.add_lit] at hc
    rw [hc]
    have hjz : j < zs.length := by omega
    have hm : zs[j] ∈ zs := List.getElem_mem hjz
    have hb : 0 ≤ zs[j] ∧ zs[j] ≤ 255 := by simpa [Lit.wf, IntKind.min, IntKind.max, IntKind.signed, IntKind.bits] using hwz _ hm
    have e1 : zs.getD j 0 = zs[j] := by simp [hjz]
    rw [e1]
    congr 2
    rw [List.getElem_map, List.getElem_take, u8_nat _ (by omega)]
    omega
  · exact World.block_lt_of_cell? w _ (by rw [Addr.add_lit] at hc0; exact hc0)
theorem inB_of_trod {H : Type} {enc : TypeId × Value → H} {W : World} {a : Option Addr} {len cap : Nat} {d : DataW H} {p : List MemPlace} (h : DataW.Trod enc Tryd.prog W 0 (fun _ => true) true 22 (.slice a len cap) d p) :
    ∃ l : List UInt8, len = l.length ∧ InB W a l := by
  obtain ⟨fuel, hf⟩ := h
  rcases open_ints Tryd.underlying22 Tryd.underlying5 (by kernel_rfl) hf with ⟨hcs, _⟩ | ⟨x, l, c, zs, hcs, _, hl, hm, hz, _, hcell, hwz⟩
  · simp [Value.cells] at hcs
    obtain ⟨rfl, rfl, rfl⟩ := hcs
    exact ⟨[], rfl, fun h => absurd rfl h⟩
  · simp [Value.cells] at hcs
    obtain ⟨rfl, rfl, rfl⟩ := hcs
    exact inB_of_row hl (by simpa using hz) hcell hwz
end Go.Proofs.YthgkmcidlcdjlaaDoor
