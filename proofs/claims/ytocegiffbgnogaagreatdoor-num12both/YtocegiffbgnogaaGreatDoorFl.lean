/- Walks of the document's sixty at any first digit. -/
import Derived.Test.YtocegiffbgnogaaGreatDoorFk
set_option linter.unusedVariables false
namespace Go.Proofs.YtocegiffbgnogaaGreatDoor
open Go.RowKit

theorem head_cons (c : UInt8) (r : List UInt8) : ∃ h : 0 < (bA (c :: r)).size, (bA (c :: r))[0] = c := by
  have h0 : 0 < (bA (c :: r)).size := by rw [bA_size]; simp
  refine ⟨h0, ?_⟩
  have := get_list (bA (c :: r)) 0 h0
  rw [bA_toList] at this; simpa using this.symm
theorem rsix_yes (c : UInt8) (D R : List UInt8) (w : World) (hl : (c :: (D ++ 58 :: R)).length ≤ 1000) (hc : M.dv c < 10) (hD : ∀ x ∈ D, x ≠ 58) (ha : M.allD 10 (M.gone D) = true) (hR : M.fS 1 R = 6) :
    Calls Tryz.prog 17 #[.string (bA (c :: (D ++ 58 :: R)))] w fun e w' => e = .returned (ansV (some (M.sx (M.val 10 (c :: M.gone D)) 0 R))) ∧ Below w.heap.size w w' := by
  obtain ⟨h0, hh⟩ := head_cons c (D ++ 58 :: R)
  have h95 : c ≠ 95 := M.ne95 hc (by omega)
  have h58 : c ≠ 58 := M.ne58 hc (by omega)
  have hD' : ∀ x ∈ c :: D, x ≠ 58 := by
    intro x hx
    rcases List.mem_cons.1 hx with rfl | hx
    · exact h58
    · exact hD x hx
  have := rsixty_loop (bA (c :: (D ++ 58 :: R))) (c :: D) R w (by rw [bA_size]; exact hl) h0 (by rw [bA_toList]; rfl) hD' (by simp) (by rw [hh]; exact hc) (by rw [M.gone_ne _ h95, M.allD_cons, decide_eq_true hc, ha]; rfl) (by rw [M.gone_ne _ h95]; simp)
  rw [show G (M.val 10 (M.gone (c :: D))) (58 :: R) = (if M.fS 1 R = 6 then some (M.sx (M.val 10 (M.gone (c :: D))) 0 R) else none) from rfl, if_pos hR, M.gone_ne _ h95] at this
  exact this
theorem rsix_no (c : UInt8) (P : List UInt8) (w : World) (hl : (c :: P).length ≤ 1000) (hc : M.dv c < 10) (h0' : M.fA P = 0) :
    Calls Tryz.prog 17 #[.string (bA (c :: P))] w fun e w' => e = .returned (ansV none) ∧ Below w.heap.size w w' := by
  obtain ⟨h0, hh⟩ := head_cons c P
  have h95 : c ≠ 95 := M.ne95 hc (by omega)
  have h58 : c ≠ 58 := M.ne58 hc (by omega)
  have hsz : (bA (c :: P)).size ≤ 1000 := by rw [bA_size]; exact hl
  rcases M.split_at 58 P with hn | ⟨D, R, rfl, hD⟩
  · refine (rsixty_no _ w hsz ?_).mono (fun e w' h => ⟨h.1, h.2 ▸ Below.refl _ _⟩)
    rw [bA_toList]
    intro x hx
    rcases List.mem_cons.1 hx with rfl | hx
    · exact h58
    · exact hn x hx
  · have hD' : ∀ x ∈ c :: D, x ≠ 58 := by
      intro x hx
      rcases List.mem_cons.1 hx with rfl | hx
      · exact h58
      · exact hD x hx
    rw [M.fA_yes D R hD] at h0'
    have hall : M.allD 10 (M.gone (c :: D)) = M.allD 10 (M.gone D) := by
      rw [M.gone_ne _ h95, M.allD_cons, decide_eq_true hc, Bool.true_and]
    by_cases ha : M.allD 10 (M.gone D) = true
    · rw [if_pos ha] at h0'
      have := rsixty_loop (bA (c :: (D ++ 58 :: R))) (c :: D) R w hsz h0 (by rw [bA_toList]; rfl) hD' (by simp) (by rw [hh]; exact hc) (by rw [hall]; exact ha) (by rw [M.gone_ne _ h95]; simp)
      rw [show G (M.val 10 (M.gone (c :: D))) (58 :: R) = (if M.fS 1 R = 6 then some (M.sx (M.val 10 (M.gone (c :: D))) 0 R) else none) from rfl, if_neg (by omega)] at this
      exact this
    · exact rsixty_bad _ (c :: D) R w hsz h0 (by rw [bA_toList]; rfl) hD' (by simp) (by rw [hh]; exact hc) (by rw [hall]; simpa using ha)
theorem ret_decI {fn : Func} {p u : Tmp} {g : Nat} {k i : Int} {n : Bool} {D E : ByteArray} {w : World} (h : fn.results = #[.cell p 28, .tmp u]) (tmps : Array Value) (hp : tmps.getD p undef = .pointer (some ⟨g, 0, none⟩)) (hu : tmps.getD u undef = .int .i64 i)
    (hB : Blk w g k n D E) : (results fn tmps).run Tryz.prog w = .ok (.tuple #[dV k n D E, .int .i64 i]) w := by
  rw [results_cell_tmp h, hp, hu]
  have := load_blk hB
  simp [asAddr, Result.andThen, this]
theorem Blk.alloc' {w : World} {g : Nat} {k : Int} {n : Bool} {D E : ByteArray} (h : Blk w g k n D E) (o : Obj) : Blk (w.alloc o) g k n D E := h.next ((Below.refl _ _).alloc (Nat.le_refl _) o)
theorem Blk.over {w w1 : World} {o : Obj} {g : Nat} {k : Int} {n : Bool} {D E : ByteArray} (h : Blk w g k n D E) (hb : Below (w.alloc o).heap.size (w.alloc o) w1) : Blk w1 g k n D E := (h.alloc' o).next hb
theorem below_over {a w w1 : World} {o : Obj} (h : Below a.heap.size a w) (hb : Below (w.alloc o).heap.size (w.alloc o) w1) : Below a.heap.size a w1 := h.trans ((below_new hb).mono h.size)
theorem below_on {a w w1 : World} (h : Below a.heap.size a w) (hb : Below w.heap.size w w1) : Below a.heap.size a w1 := h.trans (hb.mono h.size)
end Go.Proofs.YtocegiffbgnogaaGreatDoor
