/- Walk: the document's Plain. -/
import Derived.Test.YtlkbgnlmmlchfaaWc
set_option linter.unusedVariables false
namespace Go.Proofs.Ytlkbgnlmmlchfaa
open Go.RowKit

set_option maxRecDepth 100000 in
theorem rpl_nil (w : World) : Calls Try.prog 14 #[.string ⟨#[]⟩] w fun e w' => e = .returned (.bool false) ∧ w = w' := by
  go_enter Try.func14, Try.ntmps14
  go_wp2
  go_ret
  exact ⟨rfl, rfl⟩
set_option maxRecDepth 100000 in
theorem rpl_long (s : ByteArray) (w : World) (h : 40 < s.size) (hs : s.size ≤ 1000) : Calls Try.prog 14 #[.string s] w fun e w' => e = .returned (.bool false) ∧ w = w' := by
  have h1 := ne_nil (s := s) (by omega)
  have h2 : decide (40 < s.size) = true := decide_eq_true h
  go_enter Try.func14, Try.ntmps14
  go_wp2
  go_ret
  exact ⟨rfl, rfl⟩
set_option maxRecDepth 100000 in
theorem rpl_head (s : ByteArray) (w : World) (h0 : 0 < s.size) (h : s.size ≤ 40) (hl : M.isL s[0] = false) : Calls Try.prog 14 #[.string s] w fun e w' => e = .returned (.bool false) ∧ w = w' := by
  have h1 := ne_nil h0
  have h2 : decide (40 < s.size) = false := decide_eq_false (by omega)
  have h3 : decide (0 < s.size) = true := decide_eq_true h0
  have c1 := fun W => risL_any s[0] W
  rw [hl] at c1
  clear hl
  go_enter Try.func14, Try.ntmps14
  go_wp2_with fail
  refine (c1 _).mono ?_
  rintro r w' ⟨rfl, rfl⟩
  go_wp2
  go_ret
  exact ⟨rfl, rfl⟩
set_option maxRecDepth 100000 in
theorem rpl_null (s : ByteArray) (w : World) (h0 : 0 < s.size) (h : s.size ≤ 40) (hl : M.isL s[0] = true) (hn : M.nu s.data.toList = true) : Calls Try.prog 14 #[.string s] w fun e w' => e = .returned (.bool false) ∧ w = w' := by
  have h1 := ne_nil h0
  have h2 : decide (40 < s.size) = false := decide_eq_false (by omega)
  have h3 : decide (0 < s.size) = true := decide_eq_true h0
  have c1 := fun W => risL_any s[0] W
  rw [hl] at c1
  have c2 := fun W => rnull_any s W
  rw [show decide (s.data.toList ∈ M.wN) = true from hn] at c2
  clear hl hn
  go_enter Try.func14, Try.ntmps14
  go_wp2_with fail
  refine (c1 _).mono ?_
  rintro r w' ⟨rfl, rfl⟩
  go_wp2_with fail
  refine (c2 _).mono ?_
  rintro r w' ⟨rfl, rfl⟩
  go_wp2
  go_ret
  exact ⟨rfl, rfl⟩
set_option maxRecDepth 100000 in
set_option maxHeartbeats 2000000 in
theorem rpl_loop (s : ByteArray) (w : World) (h0 : 0 < s.size) (h : s.size ≤ 40) (hl : M.isL s[0] = true) (hn : M.nu s.data.toList = false) : Calls Try.prog 14 #[.string s] w fun e w' => e = .returned (.bool (s.data.toList.all M.mf && !(M.bo true s.data.toList).2)) ∧ w = w' := by
  have h1 := ne_nil h0
  have h2 : decide (40 < s.size) = false := decide_eq_false (by omega)
  have h3 : decide (0 < s.size) = true := decide_eq_true h0
  have c1 := fun W => risL_any s[0] W
  rw [hl] at c1
  have c2 := fun W => rnull_any s W
  rw [show decide (s.data.toList ∈ M.wN) = false from hn] at c2
  have c3 := fun W => rbool_any 11 s W
  rw [decide_eq_true rfl] at c3
  have c4 := fun W => rbool_any 12 s W
  rw [decide_eq_false (show ¬ (12 : Int) = 11 by decide)] at c4
  clear hl hn
  have hy := M.bo_young (l := s.data.toList)
  generalize M.bo true s.data.toList = p at *
  generalize M.bo false s.data.toList = p2 at *
  obtain ⟨p, q⟩ := p
  obtain ⟨p2, q2⟩ := p2
  dsimp only [bV] at c3 c4 hy ⊢
  have HY := Lib.hid hy
  clear hy
  obtain ⟨R, hR⟩ : ∃ R, s.data.toList.all M.mf = R := ⟨_, rfl⟩
  rw [hR]
  have HR := Lib.hid hR
  clear hR
  go_enter Try.func14, Try.ntmps14
  go_wp2_with fail
  refine (c1 _).mono ?_
  rintro r w' ⟨rfl, rfl⟩
  go_wp2_with fail
  refine (c2 _).mono ?_
  rintro r w' ⟨rfl, rfl⟩
  clear c1 c2
  go_wp2
  go_loop [3] (fun i => ∃ k : Nat, i = .int .i64 k ∧ k ≤ s.size ∧ Hid ((s.data.toList.take k).all M.mf = true)) (fun i => s.size - (intOf i).toNat)
  case atStart => exact ⟨0, rfl, Nat.zero_le _, rfl⟩
  case round =>
    obtain ⟨k, rfl, hk, hst⟩ := hrel
    by_cases hlt : k < s.size
    · have hltd : decide (k < s.size) = true := by simpa using hlt
      have d1 := fun W => risL_any s[k] W
      have d2 := fun W => risG_any s[k] W
      have hm := mf_of (c := s[k]) rfl rfl
      have hsn := all_snoc (s.data.toList.take k) s[k]
      rw [← take_snoc s k hlt, hst.out, Bool.true_and, hm] at hsn
      clear hm hst c3 c4
      generalize M.isL s[k] = a at *
      generalize M.isG s[k] = b at *
      generalize hc : s[k].toNat = n at *
      cases a
      · cases b
        · by_cases h95 : n = 95
          · rw [decide_eq_true h95] at hsn
            have HS := Lib.hid hsn
            have e1 : ((n : Int) == 95) = true := by rw [h95]; rfl
            have e2 : ((n : Int) != 95) = false := by rw [h95]; rfl
            clear hsn h95
            go_wp2_with fail
            refine (d1 _).mono ?_
            rintro r w' ⟨rfl, rfl⟩
            go_wp2_with fail
            refine (d2 _).mono ?_
            rintro r w' ⟨rfl, rfl⟩
            go_wp2
            go_round
            case rel => exact ⟨k + 1, by go_num, by omega, HS.out⟩
            case measure => simp [intOf]; omega
          · have e1 : ((n : Int) == 95) = false := beq_eq_false_iff_ne.2 (by omega)
            have e2 : ((n : Int) != 95) = true := by rw [bne, e1]; rfl
            by_cases h45 : n = 45
            · rw [decide_eq_true h45] at hsn
              rw [Bool.or_true] at hsn
              have HS := Lib.hid hsn
              have e3 : ((n : Int) == 45) = true := by rw [h45]; rfl
              have e4 : ((n : Int) != 45) = false := by rw [h45]; rfl
              clear hsn h95 h45
              go_wp2_with fail
              refine (d1 _).mono ?_
              rintro r w' ⟨rfl, rfl⟩
              go_wp2_with fail
              refine (d2 _).mono ?_
              rintro r w' ⟨rfl, rfl⟩
              go_wp2
              go_round
              case rel => exact ⟨k + 1, by go_num, by omega, HS.out⟩
              case measure => simp [intOf]; omega
            · rw [decide_eq_false h95, decide_eq_false h45] at hsn
              have HS := Lib.hid hsn
              have e3 : ((n : Int) == 45) = false := beq_eq_false_iff_ne.2 (by omega)
              have e4 : ((n : Int) != 45) = true := by rw [bne, e3]; rfl
              clear hsn h95 h45
              go_wp2_with fail
              refine (d1 _).mono ?_
              rintro r w' ⟨rfl, rfl⟩
              go_wp2_with fail
              refine (d2 _).mono ?_
              rintro r w' ⟨rfl, rfl⟩
              go_wp2
              go_ret
              refine ⟨ret_bool ?_, rfl⟩
              rw [← HR.out, all_false HS.out]
              rfl
        · have HS := Lib.hid hsn
          clear hsn
          go_wp2_with fail
          refine (d1 _).mono ?_
          rintro r w' ⟨rfl, rfl⟩
          go_wp2_with fail
          refine (d2 _).mono ?_
          rintro r w' ⟨rfl, rfl⟩
          go_wp2
          go_round
          case rel => exact ⟨k + 1, by go_num, by omega, HS.out⟩
          case measure => simp [intOf]; omega
      · have HS := Lib.hid hsn
        clear hsn
        go_wp2_with fail
        refine (d1 _).mono ?_
        rintro r w' ⟨rfl, rfl⟩
        go_wp2
        go_round
        case rel => exact ⟨k + 1, by go_num, by omega, HS.out⟩
        case measure => simp [intOf]; omega
    · obtain rfl : k = s.size := by omega
      have hltd : decide (s.size < s.size) = false := by simp
      have h5 := hst.out
      rw [take_all, HR.out] at h5
      have HF := Lib.hid h5
      clear h5 hst
      cases q
      · have hq2 := HY.out rfl
        cases q2
        · clear hq2
          go_wp2_with fail
          refine (c3 _).mono ?_
          rintro r w' ⟨rfl, rfl⟩
          go_wp2_with fail
          refine (c4 _).mono ?_
          rintro r w' ⟨rfl, rfl⟩
          go_wp2
          go_ret
          refine ⟨ret_bool ?_, rfl⟩
          rw [HF.out]
          rfl
        · exact absurd hq2 (by decide)
      · cases q2
        all_goals
          go_wp2_with fail
          refine (c3 _).mono ?_
          rintro r w' ⟨rfl, rfl⟩
          go_wp2_with fail
          refine (c4 _).mono ?_
          rintro r w' ⟨rfl, rfl⟩
          go_wp2
          go_ret
          refine ⟨ret_bool ?_, rfl⟩
          rw [HF.out]
          rfl
theorem rpl_any (s : ByteArray) (w : World) (hs : s.size ≤ 1000) : Calls Try.prog 14 #[.string s] w fun e w' => e = .returned (.bool (M.pl s.data.toList)) ∧ w = w' := by
  by_cases h0 : 0 < s.size
  · unfold M.pl
    rw [hf_eq s h0]
    by_cases h : s.size ≤ 40
    · rw [decide_eq_true h, Bool.true_and]
      cases hl : M.isL s[0]
      · exact rpl_head s w h0 h hl
      · cases hn : M.nu s.data.toList
        · rw [Bool.true_and, Bool.not_false, Bool.and_true]
          exact rpl_loop s w h0 h hl hn
        · rw [Bool.not_true, Bool.and_false]
          exact rpl_null s w h0 h hl hn
    · rw [decide_eq_false h]
      exact rpl_long s w (by omega) hs
  · have hz : s.data.toList = [] := List.eq_nil_of_length_eq_zero (by rw [← sz_list]; omega)
    obtain rfl := ba_of hz
    exact rpl_nil w
end Go.Proofs.Ytlkbgnlmmlchfaa
