/- The frame, on: a slice of strings that came in, read as strings. -/
import Derived.Test.YtnmfiadljhbmiaaDoorLd
import Derived.Test.YtnmfiadljhbmiaaDoorFr
import Derived.SliceStrings
import Derived.ChangeOld
namespace Go.Proofs.YtnmfiadljhbmiaaDoor
open Go.ChangeShapes Go.WideShapes Go.ChangeAt Go.RowKit

theorem laidOut : laidOutB Tryd.prog = true := by kernel_rfl
theorem inS_of_row {w : World} {x : Addr} {len cap : Nat} {ss : List ByteArray} (hl : len ≤ cap) (hz : ss.length = cap) (hcell : ∀ i, i < ss.length → w.cell? (x.add i) = some (.string (ss.getD i ByteArray.empty))) (hw : ∀ s ∈ ss, s.size ≤ maxLen) :
    ∃ l : List ByteArray, len = l.length ∧ InS w (some x) l := by
  have hlen : len = (ss.take len).length := by rw [List.length_take]; omega
  refine ⟨ss.take len, hlen, fun s hs => hw s (List.mem_of_mem_take hs), fun hne => ?_⟩
  have hpos : 0 < len := by rw [hlen]; exact List.length_pos_iff.2 hne
  obtain ⟨b, off, spot⟩ := x
  have hc0 := hcell 0 (by omega)
  have hspot : spot = none := by simpa [Addr.add] using World.cell?_spot hc0
  subst hspot
  refine ⟨b, off, rfl, ?_, fun j hj => ?_⟩
  · exact World.block_lt_of_cell? w _ (by rw [Addr.add_lit] at hc0; exact hc0)
  · rw [← hlen] at hj
    have hjz : j < ss.length := by omega
    have hc := hcell j hjz
    rw [Addr.add_lit] at hc
    rw [hc]
    have e1 : ss.getD j ByteArray.empty = ss[j] := by simp [hjz]
    rw [e1, List.getElem_take]
theorem inS_of_trod {H : Type} {enc : TypeId × Value → H} {W : World} {a : Option Addr} {len cap : Nat} {d : DataW H} {p : List MemPlace} (h : DataW.Trod enc Tryd.prog W 0 (fun _ => true) true 38 (.slice a len cap) d p) :
    ∃ l : List ByteArray, len = l.length ∧ InS W a l ∧ l.length ≤ maxLen := by
  obtain ⟨fuel, hf⟩ := h
  rcases open_strings Tryd.underlying38 Tryd.underlying9 (by kernel_rfl) hf with ⟨hcs, _⟩ | ⟨x, l, c, ss, hcs, _, hl, hm, hz, _, hcell, hws⟩
  · simp [Value.cells] at hcs
    obtain ⟨rfl, rfl, rfl⟩ := hcs
    exact ⟨[], rfl, ⟨(fun s hs => by cases hs), fun h => absurd rfl h⟩, Nat.zero_le _⟩
  · simp [Value.cells] at hcs
    obtain ⟨rfl, rfl, rfl⟩ := hcs
    obtain ⟨l, e, q⟩ := inS_of_row hl (by simpa using hz) hcell hws
    exact ⟨l, e, q, by rw [← e]; exact Nat.le_trans hl hm⟩

end Go.Proofs.YtnmfiadljhbmiaaDoor
