/- Plain mathematics: how many = stand at the end, sign by sign. -/
import Derived.Test.YthhhmmogefpcgaaDoorMa
namespace Go.Proofs.YthhhmmogefpcgaaDoor.M

theorem tw_in (f : UInt8 → Bool) : ∀ (r : List UInt8) (p : Nat), p < (r.takeWhile f).length → ∃ h : p < r.length, f r[p] = true
  | [], p, h => by simp at h
  | x :: r, p, h => by
    rw [List.takeWhile_cons] at h
    split at h
    · next hx =>
      cases p with
      | zero => exact ⟨by simp, hx⟩
      | succ q =>
        obtain ⟨h1, h2⟩ := tw_in f r q (by simpa using h)
        exact ⟨by simpa using h1, by simpa using h2⟩
    · simp at h
theorem tw_out (f : UInt8 → Bool) : ∀ (r : List UInt8) (h : (r.takeWhile f).length < r.length), f r[(r.takeWhile f).length] = false
  | [], h => by simp at h
  | x :: r, h => by
    by_cases hx : f x = true
    · have e : ((x :: r).takeWhile f).length = (r.takeWhile f).length + 1 := by rw [List.takeWhile_cons, if_pos hx]; rfl
      have h2 : (r.takeWhile f).length < r.length := by rw [e] at h; simpa using h
      have := tw_out f r h2
      simp only [e, List.getElem_cons_succ]
      exact this
    · have e : ((x :: r).takeWhile f).length = 0 := by rw [List.takeWhile_cons, if_neg hx]; rfl
      simp only [e, List.getElem_cons_zero]
      simpa using hx
theorem pads_le (l : List UInt8) : pads l ≤ l.length := by
  have := (List.takeWhile_prefix (fun x : UInt8 => x == 61) (l := l.reverse)).length_le
  rw [List.length_reverse] at this
  exact this
theorem pads_in (l : List UInt8) (p : Nat) (h : p < pads l) : ∃ hj : l.length - 1 - p < l.length, l[l.length - 1 - p] = 61 := by
  obtain ⟨h1, h2⟩ := tw_in (· == 61) l.reverse p h
  have h1' : p < l.length := by simpa using h1
  refine ⟨by omega, ?_⟩
  rw [List.getElem_reverse] at h2
  simpa using h2
theorem pads_out (l : List UInt8) (h : pads l < l.length) : ∃ hj : l.length - 1 - pads l < l.length, l[l.length - 1 - pads l] ≠ 61 := by
  refine ⟨by omega, ?_⟩
  unfold pads at h ⊢
  have := tw_out (· == 61) l.reverse (by rw [List.length_reverse]; exact h)
  rw [List.getElem_reverse] at this
  simpa using this
end Go.Proofs.YthhhmmogefpcgaaDoor.M
