/- Walks of the document's sixty, whole; Int11. -/
import Derived.Test.YthgkmcidlcdjlaaDoorYc
set_option linter.unusedVariables false
namespace Go.Proofs.YthgkmcidlcdjlaaDoor
open Go.RowKit

theorem rsixty_no (s : ByteArray) (w : World) (hs : s.size ≤ 1000) (h : ∀ c ∈ s.data.toList, c ≠ 58) :
    Calls Tryd.prog 23 #[.string s] w fun e w' => e = .returned (ansV none) ∧ w = w' := by
  have c1 := fun W => rfind_no s W hs h
  clear h
  go_enter Tryd.func23, Tryd.ntmps23
  go_wp2_with fail
  refine (c1 _).mono ?_
  rintro r w' ⟨rfl, rfl⟩
  go_wp2
  go_ret2
  exact ⟨rfl, rfl⟩
set_option maxRecDepth 100000 in
set_option maxHeartbeats 1000000 in
theorem rsixty_bad (s : ByteArray) (D R0 : List UInt8) (w : World) (hs : s.size ≤ 1000) (h0 : 0 < s.size) (he : s.data.toList = D ++ 58 :: R0) (hD : ∀ c ∈ D, c ≠ 58) (hD0 : 0 < D.length) (hd0 : M.dv s[0] < 10) (hal : M.allD 10 (M.gone D) = false) :
    Calls Tryd.prog 23 #[.string s] w fun e w' => e = .returned (ansV none) ∧ Below w.heap.size w w' := by
  have c1 := fun W => rfind_yes s D R0 W hs he hD
  have c2 := fun W => isDigit_any s[0] W
  rw [decide_eq_true hd0] at c2
  have hDs : D.length < s.size := by rw [sz_list, he]; simp
  have hx : s.extract 0 D.length = bA D := by
    apply eq_bA
    rw [ByteArray.data_extract, Array.toList_extract, List.extract_eq_take_drop, List.drop_zero, he]
    simp
  have c3 := fun W => rbare_any (bA D) 10 W (by rw [bA_size]; omega) (by omega)
  rw [bA_toList] at c3
  unfold bareV at c3
  rw [if_neg (by rw [hal]; simp)] at c3
  clear hal hd0 he hD
  generalize hBD : bA D = BD at *
  generalize hkk : D.length = k0 at *
  clear hBD hkk D R0
  have hk1 : decide ((k0 : Int) < 1) = false := by simp; omega
  go_enter Tryd.func23, Tryd.ntmps23
  go_wp2_with fail
  refine (c1 _).mono ?_
  rintro r w' ⟨rfl, rfl⟩
  go_wp2_with fail
  refine (c2 _).mono ?_
  rintro r w' ⟨rfl, rfl⟩
  go_wp2_with fail
  refine (c3 _).mono ?_
  rintro r w1 ⟨rfl, hb1⟩
  clear c1 c2 c3 hx
  go_wp2
  go_ret2
  exact ⟨rfl, hb1⟩
theorem rsixty_any (c : UInt8) (r : List UInt8) (hl : r.length ≤ 990) (hc : M.dv c < 10) (h48 : c ≠ 48) : ∃ o : Option Nat, (∀ w, Calls Tryd.prog 23 #[.string (bA (c :: r))] w fun e w' => e = .returned (ansV o) ∧ Below w.heap.size w w') ∧ (M.fA r = 6 → o = some (M.num (c :: r))) ∧ (M.fA r ≠ 6 → o = none) := by
  have hsz : (bA (c :: r)).size ≤ 1000 := by rw [bA_size]; simp; omega
  have h0 : 0 < (bA (c :: r)).size := by rw [bA_size]; simp
  have hhead : (bA (c :: r))[0] = c := by
    have := get_list (bA (c :: r)) 0 h0
    rw [bA_toList] at this; simpa using this.symm
  have h95 : c ≠ 95 := M.ne95 hc (by omega)
  have h58 : c ≠ 58 := M.ne58 hc (by omega)
  have hB : M.fB (c :: r) = M.fA r := by rw [M.fB, if_neg h48, if_pos hc]
  rcases M.split_at 58 r with hn | ⟨D, R, rfl, hD⟩
  · refine ⟨none, fun w => (rsixty_no _ w hsz ?_).mono (fun e w' h => ⟨h.1, h.2 ▸ Below.refl _ _⟩), fun h => ?_, fun _ => rfl⟩
    · rw [bA_toList]
      intro x hx
      rcases List.mem_cons.1 hx with rfl | hx
      · exact h58
      · exact hn x hx
    · rw [M.fA_no r hn] at h
      split at h <;> omega
  · have hD' : ∀ x ∈ c :: D, x ≠ 58 := by
      intro x hx
      rcases List.mem_cons.1 hx with rfl | hx
      · exact h58
      · exact hD x hx
    have hall : M.allD 10 (M.gone (c :: D)) = M.allD 10 (M.gone D) := by
      rw [M.gone_ne _ h95, M.allD_cons, decide_eq_true hc, Bool.true_and]
    have he : (bA (c :: (D ++ 58 :: R))).data.toList = (c :: D) ++ 58 :: R := by rw [bA_toList]; rfl
    have hf := M.fA_yes D R hD
    by_cases ha : M.allD 10 (M.gone D) = true
    · rw [if_pos ha] at hf
      refine ⟨_, fun w => rsixty_loop _ (c :: D) R w hsz h0 he hD' (by simp) (by rw [hhead]; exact hc) (by rw [hall]; exact ha) (by rw [M.gone_ne _ h95]; simp), fun h => ?_, fun h => ?_⟩
      · rw [hf] at h
        show (if M.fS 1 R = 6 then some _ else none) = _
        rw [if_pos h]
        unfold M.num
        rw [hB, hf, h, if_neg (by omega), if_neg (by omega), if_neg (by omega), if_pos rfl]
        rw [show c :: (D ++ 58 :: R) = (c :: D) ++ 58 :: R from rfl, M.gone_append, M.gone_ne R (by decide), M.fS_gone (by omega : M.fS 1 R ≠ 0)]
        have hg58 : ∀ x ∈ M.gone (c :: D), x ≠ 58 := fun x hx => hD' x (M.mem_gone.1 hx).1
        rw [M.sx_yes 0 _ R hg58, Nat.zero_mul, Nat.zero_add]
      · rw [hf] at h
        show (if M.fS 1 R = 6 then some _ else none) = _
        rw [if_neg h]
    · rw [if_neg ha] at hf
      refine ⟨none, fun w => rsixty_bad _ (c :: D) R w hsz h0 he hD' (by simp) (by rw [hhead]; exact hc) (by rw [hall]; simpa using ha), fun h => by omega, fun _ => rfl⟩
end Go.Proofs.YthgkmcidlcdjlaaDoor
