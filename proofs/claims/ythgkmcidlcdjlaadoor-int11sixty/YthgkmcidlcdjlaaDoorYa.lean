/- Walks of the document's sign, find. -/
import Derived.Test.YthgkmcidlcdjlaaDoorXh
import Derived.Test.YthgkmcidlcdjlaaDoorLf
set_option linter.unusedVariables false
namespace Go.Proofs.YthgkmcidlcdjlaaDoor
open Go.RowKit

theorem head_43 {c : UInt8} {r : List UInt8} (h : c = 43) : M.isNeg (c :: r) = false ∧ M.body (c :: r) = r := by
  subst h
  have h1 : M.isNeg (43 :: r) = false := by simp [M.isNeg]
  refine ⟨h1, ?_⟩
  unfold M.body M.unplus
  rw [h1]; simp
theorem head_45 {c : UInt8} {r : List UInt8} (h : c = 45) : M.isNeg (c :: r) = true ∧ M.body (c :: r) = r := by
  subst h
  refine ⟨M.isNeg_cons r, ?_⟩
  unfold M.body
  rw [if_pos (M.isNeg_cons r), M.unsign_cons]
theorem head_else {c : UInt8} {r : List UInt8} (h1 : c ≠ 43) (h2 : c ≠ 45) : M.isNeg (c :: r) = false ∧ M.body (c :: r) = c :: r := by
  have h3 : M.isNeg (c :: r) = false := by simp [M.isNeg, h2]
  refine ⟨h3, ?_⟩
  unfold M.body M.unplus
  rw [h3]; simp [h1]
set_option maxRecDepth 100000 in
set_option maxHeartbeats 1000000 in
theorem rsign_any (s : ByteArray) (w : World) (hs : s.size ≤ 1000) :
    Calls Tryd.prog 20 #[.string s] w fun e w' => e = .returned (.tuple #[.string (bA (M.body s.data.toList)), .bool (M.isNeg s.data.toList)]) ∧ Below w.heap.size w w' := by
  by_cases h0 : 0 < s.size
  · have hl := drop_cons s 0 h0
    rw [List.drop_zero] at hl
    have hx : bA (s.data.toList.drop 1) = s.extract 1 s.size := by symm; apply eq_bA; rw [Lib.extract_to_end]
    have hd : decide (0 < s.size) = true := by simpa using h0
    have hz : (1 : Int) ≤ (s.size : Int) := by omega
    have hz1 : 1 ≤ s.size := by omega
    have h256 := s[0].toNat_lt
    by_cases h43 : s[0] = 43
    · obtain ⟨e1, e2⟩ := head_43 (r := s.data.toList.drop 1) h43
      rw [← hl] at e1 e2
      rw [e1, e2, hx]
      have g : s[0].toNat = 43 := by rw [h43]; rfl
      clear e1 e2 hl hx h43
      go_enter Tryd.func20, Tryd.ntmps20
      go_wp2
      go_quiet (fail)
      go_wp2
      go_ret2
      exact ⟨rfl, below_dN (Below.refl _ _) _⟩
    · by_cases h45 : s[0] = 45
      · obtain ⟨e1, e2⟩ := head_45 (r := s.data.toList.drop 1) h45
        rw [← hl] at e1 e2
        rw [e1, e2, hx]
        have g : s[0].toNat = 45 := by rw [h45]; rfl
        clear e1 e2 hl hx h43 h45
        go_enter Tryd.func20, Tryd.ntmps20
        go_wp2
        go_quiet (fail)
        go_wp2
        go_ret2
        exact ⟨rfl, below_dN (Below.refl _ _) _⟩
      · obtain ⟨e1, e2⟩ := head_else (r := s.data.toList.drop 1) h43 h45
        rw [← hl] at e1 e2
        rw [e1, e2, bA_of]
        have g1 : ((s[0].toNat : Int) == 43) = false := neC (k := 43) (by omega) h43
        have g2 : ((s[0].toNat : Int) == 45) = false := neC (k := 45) (by omega) h45
        clear e1 e2 hl hx h43 h45
        go_enter Tryd.func20, Tryd.ntmps20
        go_wp2
        go_ret2
        exact ⟨rfl, Below.refl _ _⟩
  · have hd : decide (0 < s.size) = false := by simpa using h0
    have hz : s.data.toList = [] := List.eq_nil_of_length_eq_zero (by rw [← sz_list]; omega)
    have e : s = ⟨#[]⟩ := eq_bA hz
    subst e
    clear hz h0 hs hd
    go_enter Tryd.func20, Tryd.ntmps20
    go_wp2
    go_ret2
    exact ⟨rfl, Below.refl _ _⟩

set_option maxRecDepth 100000 in
theorem rfind_no (s : ByteArray) (w : World) (hs : s.size ≤ 1000) (h : ∀ c ∈ s.data.toList, c ≠ 58) :
    Calls Tryd.prog 38 #[.string s, .int .u8 58] w fun e w' => e = .returned (.int .i64 (-1)) ∧ w = w' := by
  have H := Lib.hid h
  clear h
  go_enter Tryd.func38, Tryd.ntmps38
  go_wp2
  go_loop [5] (fun i => ∃ k : Nat, i = .int .i64 k ∧ k ≤ s.size) (fun i => s.size - (intOf i).toNat)
  case atStart => exact ⟨0, rfl, Nat.zero_le _⟩
  case round =>
    obtain ⟨k, rfl, hk⟩ := hrel
    by_cases hlt : k < s.size
    · have hltd : decide (k < s.size) = true := by simpa using hlt
      have hne : ((s[k].toNat : Int) == 58) = false := neC (k := 58) (by omega) (H.out _ (List.mem_of_getElem? (get_list s k hlt)))
      go_wp2
      go_round
      case rel => exact ⟨k + 1, by go_num, by omega⟩
      case measure => simp [intOf]; omega
    · obtain rfl : k = s.size := by omega
      have hltd : decide (s.size < s.size) = false := by simp
      go_wp2
      go_ret
      exact ⟨rfl, rfl⟩
set_option maxRecDepth 100000 in
theorem rfind_yes (s : ByteArray) (D r : List UInt8) (w : World) (hs : s.size ≤ 1000) (he : s.data.toList = D ++ 58 :: r) (h : ∀ c ∈ D, c ≠ 58) :
    Calls Tryd.prog 38 #[.string s, .int .u8 58] w fun e w' => e = .returned (.int .i64 (D.length : Nat)) ∧ w = w' := by
  have hsz : D.length < s.size := by rw [sz_list, he]; simp
  have hat : s[D.length] = 58 := by
    have := get_list s D.length hsz
    rw [he] at this
    simpa using this.symm
  have hlow : ∀ k, k < D.length → (hk' : k < s.size) → s[k] ≠ 58 := by
    intro k hk hk'
    have := get_list s k hk'
    rw [he, List.getElem?_append_left hk] at this
    exact h _ (List.mem_of_getElem? this)
  have HL := Lib.hid hlow
  have hat2 : s[D.length].toNat = 58 := by rw [hat]; rfl
  clear h he hlow hat
  generalize D.length = n at *
  go_enter Tryd.func38, Tryd.ntmps38
  go_wp2
  go_loop [5] (fun i => ∃ k : Nat, i = .int .i64 k ∧ k ≤ n) (fun i => s.size - (intOf i).toNat)
  case atStart => exact ⟨0, rfl, Nat.zero_le _⟩
  case round =>
    obtain ⟨k, rfl, hk⟩ := hrel
    have hltd : decide (k < s.size) = true := by simp; omega
    by_cases hlt : k < n
    · have hks : k < s.size := by omega
      have hne : ((s[k].toNat : Int) == 58) = false := neC (k := 58) (by omega) (HL.out k hlt hks)
      clear hat2
      go_wp2
      go_round
      case rel => exact ⟨k + 1, by go_num, by omega⟩
      case measure => simp [intOf]; omega
    · obtain rfl : k = n := by omega
      go_wp2
      go_ret
      exact ⟨rfl, rfl⟩
end Go.Proofs.YthgkmcidlcdjlaaDoor
