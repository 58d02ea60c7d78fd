/- The frame of this seat's rows: a slice of handles that came in. -/
import Derived.Test.YtcahleaaicebbaaWe
import Derived.ProofKit
import Derived.OpenShut
import Derived.ShutString
import Derived.SizedLaws
import Derived.Deep.SlicePairs
import Derived.Lib.SmallJoins
namespace Go.Proofs.Ytcahleaaicebbaa
open Go.ChangeShapes Go.WideShapes Go.ChangeAt Go.RowKit Go.Deep

theorem own : ownKnob Try.prog.godebug = none := by kernel_rfl
theorem laidOut : laidOutB Try.prog = true := by kernel_rfl
def fsV : Value → List UInt8
  | .string s => s.data.toList
  | _ => []
theorem mem_all {H : Type} {P : Program} {e : TypeId} {d : DataW H} {n : Nat} : ∀ {l : List (DataW H)}, d ∈ l → n ∈ d.weights P e → n ∈ DataW.weightsAll P e l
  | x :: r, h, hn => by
    rw [DataW.weightsAll, List.mem_append]
    rcases List.mem_cons.1 h with rfl | h
    · exact Or.inl hn
    · exact Or.inr (mem_all h hn)
theorem inH_of_trod {H : Type} {enc : TypeId × Value → H} {W : World} {a : Option Addr} {len cap : Nat} {d : DataW H} {p : List MemPlace} (h : DataW.Trod enc Try.prog W 0 (fun _ => true) true 24 (.slice a len cap) d p) :
    ∃ hs : HL, len = hs.length ∧ InH W a hs ∧ ((∀ n ∈ d.weights Try.prog 24, n ≤ reachBytes) → HsOk hs ∧ len ≤ 281474976710656) := by
  obtain ⟨fuel, hf⟩ := h
  rcases open_slice_pairs Try.underlying24 Try.underlying39 (by kernel_rfl) rfl rfl (by kernel_rfl) (by kernel_rfl) hf with ⟨hcs, _⟩ | ⟨x, l, c, m, n, V0, V1, D0, D1, P0, P1, hcs, _, hl, hm, hmm, hx, hcell⟩
  · simp [Value.cells] at hcs
    obtain ⟨rfl, rfl, rfl⟩ := hcs
    exact ⟨[], rfl, InH.nil _ _, fun _ => ⟨fun h hh => (by cases hh), by omega⟩⟩
  · simp [Value.cells] at hcs
    obtain ⟨rfl, rfl, rfl⟩ := hcs
    have hmc : m = cap := by rw [hmm]; rfl
    subst hmc
    have key : ∀ i, i < m → V0 i = .string (bA (fsV (V0 i))) ∧ V1 i = .string (bA (fsV (V1 i))) ∧ D0 i = .lit (.string (fsV (V0 i))) ∧ D1 i = .lit (.string (fsV (V1 i))) := by
      intro i hi
      obtain ⟨_, _, t0, t1⟩ := hcell i hi
      obtain ⟨s0, e0, r0, _⟩ := DataW.trod_string Try.underlying9 t0
      obtain ⟨s1, e1, r1, _⟩ := DataW.trod_string Try.underlying9 t1
      simp at e0 e1
      simp only [Prod.mk.injEq] at r0 r1
      rw [e0, e1]
      exact ⟨by rw [fsV, bA_of], by rw [fsV, bA_of], r0.1, r1.1⟩
    refine ⟨(List.range len).map fun i => (fsV (V0 i), fsV (V1 i)), by simp, ?_, ?_⟩
    · intro hne
      have hpos : 0 < len := by
        rcases Nat.eq_zero_or_pos len with h0 | h0
        · subst h0; exact absurd rfl hne
        · exact h0
      obtain ⟨b, off, spot⟩ := x
      have hc0 := (hcell 0 (by omega)).1
      have hspot : spot = none := by simpa [Addr.add] using World.cell?_spot hc0
      subst hspot
      refine ⟨b, off, rfl, fun j hj => ?_, World.block_lt_of_cell? W _ (by rw [Addr.add_lit] at hc0; exact hc0)⟩
      have hj' : j < len := by simpa using hj
      obtain ⟨q0, q1, _, _⟩ := hcell j (by omega)
      obtain ⟨v0, v1, _, _⟩ := key j (by omega)
      rw [Addr.add_lit] at q0 q1
      rw [List.getElem_map, List.getElem_range]
      dsimp only
      rw [← v0, ← v1]
      exact ⟨q0, by rw [Nat.add_assoc]; exact q1⟩
    · intro hw
      simp only [Prod.mk.injEq] at hx
      obtain ⟨rfl, _⟩ := hx
      have hu := Try.underlying24
      have hall : ∀ n ∈ DataW.weightsAll Try.prog 39 ((List.range len).map fun i => (.agg [D0 i, D1 i] : DataW H)), n ≤ reachBytes := by
        intro n hn
        refine hw n ?_
        rw [DataW.weights, hu]
        exact List.mem_cons_of_mem _ (List.mem_append_left _ hn)
      have hlen : len ≤ 281474976710656 := by
        have := hw ((((List.range len).map fun i => (.agg [D0 i, D1 i] : DataW H)).length + ((List.range (m - len)).map fun j => (.agg [D0 (len + j), D1 (len + j)] : DataW H)).length) * Try.prog.bytesOf 39) (by
          rw [DataW.weights, hu]; exact List.mem_cons_self)
        have hb : Try.prog.bytesOf 39 = 32 := by kernel_rfl
        rw [hb] at this
        simp at this
        unfold reachBytes at this
        omega
      refine ⟨?_, hlen⟩
      intro h hh
      obtain ⟨i, hi, rfl⟩ := List.mem_map.1 hh
      have hi' := List.mem_range.1 hi
      obtain ⟨_, _, r0, r1⟩ := key i (by omega)
      have hm0 : ∀ n ∈ (.agg [D0 i, D1 i] : DataW H).weights Try.prog 39, n ≤ reachBytes := fun n hn => hall n (mem_all (List.mem_map.2 ⟨i, hi, rfl⟩) hn)
      have e : (.agg [D0 i, D1 i] : DataW H).weights Try.prog 39 = [(fsV (V0 i)).length, (fsV (V1 i)).length] := by
        rw [r0, r1]
        simp [DataW.weights, DataW.weightsEach, Try.underlying39]
      rw [e] at hm0
      have a0 := hm0 (fsV (V0 i)).length (by simp)
      have a1 := hm0 (fsV (V1 i)).length (by simp)
      unfold reachBytes at a0 a1
      exact ⟨by show (fsV (V0 i)).length ≤ _; omega, by show (fsV (V1 i)).length ≤ _; omega⟩
end Go.Proofs.Ytcahleaaicebbaa
