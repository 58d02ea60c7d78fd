/- Walks: the code's hasForm, Plain; the document's Plain. -/
import Derived.Test.YtlkbgnlmmlchfaaWb
set_option linter.unusedVariables false
namespace Go.Proofs.Ytlkbgnlmmlchfaa
open Go.RowKit

theorem hf_eq (s : ByteArray) (h : 0 < s.size) : M.hf s.data.toList = (decide (s.size ≤ 40) && M.isL s[0] && s.data.toList.all M.mf) := by
  have hl := drop_cons s 0 h
  rw [List.drop_zero] at hl
  have hs := sz_list s
  generalize s[0] = c at *
  clear h
  generalize s.size = n at *
  generalize List.drop (0 + 1) s.data.toList = r at *
  rw [hl] at hs ⊢
  subst hs
  rfl
theorem all_snoc (l : List UInt8) (c : UInt8) : (l ++ [c]).all M.mf = (l.all M.mf && M.mf c) := by simp [List.all_append]
theorem all_false {s : ByteArray} {k : Nat} (h : (s.data.toList.take (k + 1)).all M.mf = false) : s.data.toList.all M.mf = false := by
  rw [← List.take_append_drop (k + 1) s.data.toList, List.all_append, h]
  rfl
theorem mf_of {c : UInt8} {a b : Bool} (ha : M.isL c = a) (hb : M.isG c = b) : M.mf c = (a || b || decide (c.toNat = 95) || decide (c.toNat = 45)) := by
  unfold M.mf; rw [ha, hb]

set_option maxRecDepth 100000 in
theorem hf_nil (w : World) : Calls Try.prog 21 #[.string ⟨#[]⟩] w fun e w' => e = .returned (.bool false) ∧ w = w' := by
  go_enter Try.func21, Try.ntmps21
  go_wp2
  go_ret
  exact ⟨rfl, rfl⟩
theorem ne_nil {s : ByteArray} (h : 0 < s.size) : (s.toList == []) = false := beq_list (by intro e; rw [sz_list, e] at h; simp at h)
set_option maxRecDepth 100000 in
theorem hf_long (s : ByteArray) (w : World) (h : 40 < s.size) (hs : s.size ≤ 1000) : Calls Try.prog 21 #[.string s] w fun e w' => e = .returned (.bool false) ∧ w = w' := by
  have h1 := ne_nil (s := s) (by omega)
  have h2 : decide (40 < s.size) = true := decide_eq_true h
  go_enter Try.func21, Try.ntmps21
  go_wp2
  go_ret
  exact ⟨rfl, rfl⟩
set_option maxRecDepth 100000 in
theorem hf_head (s : ByteArray) (w : World) (h0 : 0 < s.size) (h : s.size ≤ 40) (hl : M.isL s[0] = false) : Calls Try.prog 21 #[.string s] w fun e w' => e = .returned (.bool false) ∧ w = w' := by
  have h1 := ne_nil h0
  have h2 : decide (40 < s.size) = false := decide_eq_false (by omega)
  have h3 : decide (0 < s.size) = true := decide_eq_true h0
  have c1 := fun W => isL_any s[0] W
  rw [hl] at c1
  clear hl
  go_enter Try.func21, Try.ntmps21
  go_wp2_with fail
  refine (c1 _).mono ?_
  rintro r w' ⟨rfl, rfl⟩
  go_wp2
  go_ret
  exact ⟨rfl, rfl⟩
set_option maxRecDepth 100000 in
set_option maxHeartbeats 1000000 in
theorem hf_loop (s : ByteArray) (w : World) (h0 : 0 < s.size) (h : s.size ≤ 40) (hl : M.isL s[0] = true) : Calls Try.prog 21 #[.string s] w fun e w' => e = .returned (.bool (s.data.toList.all M.mf)) ∧ w = w' := by
  have h1 := ne_nil h0
  have h2 : decide (40 < s.size) = false := decide_eq_false (by omega)
  have h3 : decide (0 < s.size) = true := decide_eq_true h0
  have c1 := fun W => isL_any s[0] W
  rw [hl] at c1
  clear hl
  obtain ⟨R, hR⟩ : ∃ R, s.data.toList.all M.mf = R := ⟨_, rfl⟩
  rw [hR]
  have HR := Lib.hid hR
  clear hR
  go_enter Try.func21, Try.ntmps21
  go_wp2_with fail
  refine (c1 _).mono ?_
  rintro r w' ⟨rfl, rfl⟩
  clear c1
  go_wp2
  go_loop [19] (fun i => ∃ k : Nat, i = .int .i64 k ∧ k ≤ s.size ∧ Hid ((s.data.toList.take k).all M.mf = true)) (fun i => s.size - (intOf i).toNat)
  case atStart => exact ⟨0, rfl, Nat.zero_le _, rfl⟩
  case round =>
    obtain ⟨k, rfl, hk, hst⟩ := hrel
    by_cases hlt : k < s.size
    · have hltd : decide (k < s.size) = true := by simpa using hlt
      have c2 := fun W => mf_any s[k] W
      have hsn := all_snoc (s.data.toList.take k) s[k]
      rw [← take_snoc s k hlt, hst.out, Bool.true_and] at hsn
      obtain ⟨q, hq⟩ : ∃ q, M.mf s[k] = q := ⟨_, rfl⟩
      rw [hq] at c2 hsn
      clear hq
      have HS := Lib.hid hsn
      clear hsn hst
      cases q
      · go_wp2_with fail
        refine (c2 _).mono ?_
        rintro r w' ⟨rfl, rfl⟩
        go_wp2
        go_ret
        refine ⟨ret_bool ?_, rfl⟩
        rw [← HR.out]
        exact (all_false HS.out).symm
      · go_wp2_with fail
        refine (c2 _).mono ?_
        rintro r w' ⟨rfl, rfl⟩
        go_wp2
        go_round
        case rel => exact ⟨k + 1, by go_num, by omega, HS.out⟩
        case measure => simp [intOf]; omega
    · obtain rfl : k = s.size := by omega
      have hltd : decide (s.size < s.size) = false := by simp
      have h5 := hst.out
      rw [take_all] at h5
      have HF := Lib.hid h5
      clear h5 hst
      go_wp2
      go_ret
      refine ⟨ret_bool ?_, rfl⟩
      rw [← HR.out]
      exact HF.out.symm
theorem hf_any (s : ByteArray) (w : World) (hs : s.size ≤ 1000) : Calls Try.prog 21 #[.string s] w fun e w' => e = .returned (.bool (M.hf s.data.toList)) ∧ w = w' := by
  by_cases h0 : 0 < s.size
  · rw [hf_eq s h0]
    by_cases h : s.size ≤ 40
    · rw [decide_eq_true h, Bool.true_and]
      cases hl : M.isL s[0]
      · exact hf_head s w h0 h hl
      · exact hf_loop s w h0 h hl
    · rw [decide_eq_false h]
      exact hf_long s w (by omega) hs
  · have hz : s.data.toList = [] := List.eq_nil_of_length_eq_zero (by rw [← sz_list]; omega)
    obtain rfl := ba_of hz
    exact hf_nil w
set_option maxRecDepth 100000 in
theorem plain_any (s : ByteArray) (w : World) (hs : s.size ≤ 1000) : Calls Try.prog 13 #[.string s] w fun e w' => e = .returned (.bool (M.pl s.data.toList)) ∧ w = w' := by
  have c1 := fun W => hf_any s W hs
  have c2 := fun W => null_any s W
  have c3 := fun W => bool_any 11 s W
  rw [decide_eq_true rfl] at c3
  unfold M.pl M.nu
  generalize M.hf s.data.toList = a at *
  generalize decide (s.data.toList ∈ M.wN) = b at *
  generalize M.bo true s.data.toList = p at *
  obtain ⟨p, q⟩ := p
  dsimp only [bV] at c3
  cases a
  · go_enter Try.func13, Try.ntmps13
    go_wp2_with fail
    refine (c1 _).mono ?_
    rintro r w' ⟨rfl, rfl⟩
    go_wp2
    go_ret
    exact ⟨rfl, rfl⟩
  · cases b
    · go_enter Try.func13, Try.ntmps13
      go_wp2_with fail
      refine (c1 _).mono ?_
      rintro r w' ⟨rfl, rfl⟩
      go_wp2_with fail
      refine (c2 _).mono ?_
      rintro r w' ⟨rfl, rfl⟩
      go_wp2_with fail
      refine (c3 _).mono ?_
      rintro r w' ⟨rfl, rfl⟩
      go_wp2
      go_ret
      exact ⟨rfl, rfl⟩
    · go_enter Try.func13, Try.ntmps13
      go_wp2_with fail
      refine (c1 _).mono ?_
      rintro r w' ⟨rfl, rfl⟩
      go_wp2_with fail
      refine (c2 _).mono ?_
      rintro r w' ⟨rfl, rfl⟩
      go_wp2
      go_ret
      exact ⟨rfl, rfl⟩
end Go.Proofs.Ytlkbgnlmmlchfaa
