/- Walks: afterDigit. -/
import Derived.Test.YtiainpdfidgcfaaGreatDoorXb
set_option linter.unusedVariables false
namespace Go.Proofs.YtiainpdfidgcfaaGreatDoor
open Go.RowKit

theorem fS1_nil : M.fS 1 [] = 0 := rfl
theorem fS2_nil : M.fS 2 [] = 6 := rfl
theorem fS3_nil : M.fS 3 [] = 6 := rfl
theorem fS1_cons (c : UInt8) (r : List UInt8) : M.fS 1 (c :: r) = if M.dv c < 6 then M.fS 2 r else if M.dv c < 10 then M.fS 3 r else 0 := by rw [M.fS, if_pos rfl]
theorem fS2_cons (c : UInt8) (r : List UInt8) : M.fS 2 (c :: r) = if M.dv c < 10 then M.fS 3 r else if c = 58 then M.fS 1 r else 0 := by rw [M.fS, if_neg (by omega)]; simp
theorem fS3_cons (c : UInt8) (r : List UInt8) : M.fS 3 (c :: r) = if c = 58 then M.fS 1 r else 0 := by rw [M.fS, if_neg (by omega), if_neg (by omega)]
/-- What holds at afterDigit's labels. -/
def JD (s : ByteArray) (T : Nat) (w : World) (l : Nat) (a : Act) (w' : World) : Prop :=
  w = w' ∧ ∃ (i : Nat) (u1 u2 u4 u5 u6 u7 u8 u9 u10 u11 u12 u13 u14 u15 u16 u17 u18 u19 u20 u21 u22 u23 u24 u25 u26 u27 u28 u29 u30 u31 u32 u33 u34 u35 u36 u37 u38 u39 u40 u41 u42 u43 u44 u45 u46 u47 u48 u49 u50 u51 u52 u53 : Value), a = { tmps := #[.string s, u1, u2, .int .i64 (i : Nat), u4, u5, u6, u7, u8, u9, u10, u11, u12, u13, u14, u15, u16, u17, u18, u19, u20, u21, u22, u23, u24, u25, u26, u27, u28, u29, u30, u31, u32, u33, u34, u35, u36, u37, u38, u39, u40, u41, u42, u43, u44, u45, u46, u47, u48, u49, u50, u51, u52, u53], defers := [] } ∧ i ≤ s.size ∧ ((l = 0 ∧ M.fA (s.data.toList.drop i) = T) ∨ (l = 1 ∧ M.fS 1 (s.data.toList.drop i) = T) ∨ (l = 2 ∧ M.fS 2 (s.data.toList.drop i) = T) ∨ (l = 3 ∧ M.fS 3 (s.data.toList.drop i) = T))
set_option maxRecDepth 1000000 in
set_option maxHeartbeats 8000000 in
theorem digit_any (s : ByteArray) (w : World) (hs : s.size ≤ 1000) (h0 : 0 < s.size) :
    Calls Tryz.prog 60 #[.string s] w fun e w' => e = .returned (.int .i64 (M.fA (s.data.toList.drop 1) : Nat)) ∧ w = w' := by
  obtain ⟨T, hT⟩ : ∃ T, M.fA (s.data.toList.drop 1) = T := ⟨_, rfl⟩
  rw [hT]
  go_enter Tryz.func60, Tryz.ntmps60
  go_wp2_with fail
  refine wp_scope_run (JD s T w) (fun _ a _ => 2000 - (intOf (a.tmps.getD 3 undef)).toNat) ?_ ?_
  · rintro l a w' ⟨rfl, i, u1, u2, u4, u5, u6, u7, u8, u9, u10, u11, u12, u13, u14, u15, u16, u17, u18, u19, u20, u21, u22, u23, u24, u25, u26, u27, u28, u29, u30, u31, u32, u33, u34, u35, u36, u37, u38, u39, u40, u41, u42, u43, u44, u45, u46, u47, u48, u49, u50, u51, u52, u53, rfl, hi, h⟩
    rcases h with ⟨rfl, h⟩ | ⟨rfl, h⟩ | ⟨rfl, h⟩ | ⟨rfl, h⟩
    · refine ⟨_, rfl, ?_⟩
      by_cases hl : i < s.size
      · have c1 := fun W => at_in s i W hl (by omega)
        rw [drop_cons s i hl, M.fA] at h
        have hc := s[i].toNat_lt
        by_cases h95 : s[i] = 95
        · rw [if_pos (Or.inl h95)] at h
          rw [h95] at c1
          clear hc h95
          go_wp2_with fail
          refine (c1 _).mono ?_
          rintro r w' ⟨rfl, rfl⟩
          go_wp2
          go_step3
          refine ⟨⟨rfl, i + 1, _, _, _, _, _, _, _, _, _, _, _, _, _, _, _, _, _, _, _, _, _, _, _, _, _, _, _, _, _, _, _, _, _, _, _, _, _, _, _, _, _, _, _, _, _, _, _, _, _, _, _, _, rfl, by omega, Or.inl ⟨rfl, h⟩⟩, ?_⟩
          simp [intOf]
          omega
        · have c2 := fun W => isDig_any s[i] 10 W (by omega)
          have hne : ((s[i].toNat : Int) == 95) = false := ne95 h95
          by_cases hd : M.dv s[i] < 10
          · rw [if_pos (Or.inr hd)] at h
            rw [decide_eq_true hd] at c2
            generalize s[i].toNat = n at *
            clear hd h95
            go_wp2_with fail
            refine (c1 _).mono ?_
            rintro r w' ⟨rfl, rfl⟩
            go_wp2_with fail
            refine (c2 _).mono ?_
            rintro r w' ⟨rfl, rfl⟩
            go_wp2
            go_step3
            refine ⟨⟨rfl, i + 1, _, _, _, _, _, _, _, _, _, _, _, _, _, _, _, _, _, _, _, _, _, _, _, _, _, _, _, _, _, _, _, _, _, _, _, _, _, _, _, _, _, _, _, _, _, _, _, _, _, _, _, _, rfl, by omega, Or.inl ⟨rfl, h⟩⟩, ?_⟩
            simp [intOf]
            omega
          · rw [if_neg (fun k => k.elim h95 hd)] at h
            rw [decide_eq_false hd] at c2
            by_cases h58 : s[i] = 58
            · rw [if_pos h58] at h
              rw [h58] at c1 c2
              clear hd h95 hne hc h58
              go_wp2_with fail
              refine (c1 _).mono ?_
              rintro r w' ⟨rfl, rfl⟩
              go_wp2_with fail
              refine (c2 _).mono ?_
              rintro r w' ⟨rfl, rfl⟩
              go_wp2
              go_step3
              refine ⟨⟨rfl, i + 1, _, _, _, _, _, _, _, _, _, _, _, _, _, _, _, _, _, _, _, _, _, _, _, _, _, _, _, _, _, _, _, _, _, _, _, _, _, _, _, _, _, _, _, _, _, _, _, _, _, _, _, _, rfl, by omega, Or.inr (Or.inl ⟨rfl, h⟩)⟩, ?_⟩
              simp [intOf]
              omega
            · rw [if_neg h58] at h
              have hx : ((s[i].toNat : Int) == 58) = false := neC (k := 58) (by omega) h58
              have hm1 : ((s[i].toNat : Int) == -1) = false := beq_eq_false_iff_ne.2 (by omega)
              generalize s[i].toNat = n at *
              clear hd h95 h58
              subst h
              go_wp2_with fail
              refine (c1 _).mono ?_
              rintro r w' ⟨rfl, rfl⟩
              go_wp2_with fail
              refine (c2 _).mono ?_
              rintro r w' ⟨rfl, rfl⟩
              go_wp2
              simp only [Exit.jumps]
              go_ret
              exact ⟨rfl, rfl⟩
      · have c1 := fun W => at_out s i W hl (by omega)
        have c2 := fun W => isDig_end 10 W
        rw [List.drop_of_length_le (by rw [← sz_list]; omega), M.fA] at h
        subst h
        go_wp2_with fail
        refine (c1 _).mono ?_
        rintro r w' ⟨rfl, rfl⟩
        go_wp2_with fail
        refine (c2 _).mono ?_
        rintro r w' ⟨rfl, rfl⟩
        go_wp2
        simp only [Exit.jumps]
        go_ret
        exact ⟨rfl, rfl⟩
    · refine ⟨_, rfl, ?_⟩
      by_cases hl : i < s.size
      · have c1 := fun W => at_in s i W hl (by omega)
        rw [drop_cons s i hl, fS1_cons] at h
        have hc := s[i].toNat_lt
        have c2 := fun W => isDig_any s[i] 6 W (by omega)
        by_cases hd : M.dv s[i] < 6
        · rw [if_pos hd] at h
          rw [decide_eq_true hd] at c2
          generalize s[i].toNat = n at *
          clear hd
          go_wp2_with fail
          refine (c1 _).mono ?_
          rintro r w' ⟨rfl, rfl⟩
          go_wp2_with fail
          refine (c2 _).mono ?_
          rintro r w' ⟨rfl, rfl⟩
          go_wp2
          go_step3
          refine ⟨⟨rfl, i + 1, _, _, _, _, _, _, _, _, _, _, _, _, _, _, _, _, _, _, _, _, _, _, _, _, _, _, _, _, _, _, _, _, _, _, _, _, _, _, _, _, _, _, _, _, _, _, _, _, _, _, _, _, rfl, by omega, Or.inr (Or.inr (Or.inl ⟨rfl, h⟩))⟩, ?_⟩
          simp [intOf]
          omega
        · rw [if_neg hd] at h
          rw [decide_eq_false hd] at c2
          have c3 := fun W => isDig_any s[i] 10 W (by omega)
          by_cases he : M.dv s[i] < 10
          · rw [if_pos he] at h
            rw [decide_eq_true he] at c3
            generalize s[i].toNat = n at *
            clear hd he
            go_wp2_with fail
            refine (c1 _).mono ?_
            rintro r w' ⟨rfl, rfl⟩
            go_wp2_with fail
            refine (c2 _).mono ?_
            rintro r w' ⟨rfl, rfl⟩
            go_wp2_with fail
            refine (c3 _).mono ?_
            rintro r w' ⟨rfl, rfl⟩
            go_wp2
            go_step3
            refine ⟨⟨rfl, i + 1, _, _, _, _, _, _, _, _, _, _, _, _, _, _, _, _, _, _, _, _, _, _, _, _, _, _, _, _, _, _, _, _, _, _, _, _, _, _, _, _, _, _, _, _, _, _, _, _, _, _, _, _, rfl, by omega, Or.inr (Or.inr (Or.inr ⟨rfl, h⟩))⟩, ?_⟩
            simp [intOf]
            omega
          · rw [if_neg he] at h
            rw [decide_eq_false he] at c3
            generalize s[i].toNat = n at *
            clear hd he
            subst h
            go_wp2_with fail
            refine (c1 _).mono ?_
            rintro r w' ⟨rfl, rfl⟩
            go_wp2_with fail
            refine (c2 _).mono ?_
            rintro r w' ⟨rfl, rfl⟩
            go_wp2_with fail
            refine (c3 _).mono ?_
            rintro r w' ⟨rfl, rfl⟩
            go_wp2
            simp only [Exit.jumps]
            go_ret
            exact ⟨rfl, rfl⟩
      · have c1 := fun W => at_out s i W hl (by omega)
        have c2 := fun W => isDig_end 6 W
        have c3 := fun W => isDig_end 10 W
        rw [List.drop_of_length_le (by rw [← sz_list]; omega), fS1_nil] at h
        subst h
        go_wp2_with fail
        refine (c1 _).mono ?_
        rintro r w' ⟨rfl, rfl⟩
        go_wp2_with fail
        refine (c2 _).mono ?_
        rintro r w' ⟨rfl, rfl⟩
        go_wp2_with fail
        refine (c3 _).mono ?_
        rintro r w' ⟨rfl, rfl⟩
        go_wp2
        simp only [Exit.jumps]
        go_ret
        exact ⟨rfl, rfl⟩
    · refine ⟨_, rfl, ?_⟩
      by_cases hl : i < s.size
      · have c1 := fun W => at_in s i W hl (by omega)
        have hc := s[i].toNat_lt
        have c2 := fun W => isDig_any s[i] 10 W (by omega)
        by_cases hd : M.dv s[i] < 10
        · rw [drop_cons s i hl, fS2_cons, if_pos hd] at h
          rw [decide_eq_true hd] at c2
          generalize s[i].toNat = n at *
          clear hd
          by_cases hl3 : i + 1 < s.size
          · have c3 := fun W => at_in s (i + 1) W hl3 (by omega)
            rw [drop_cons s (i + 1) hl3, fS3_cons] at h
            have hc3 := s[i + 1].toNat_lt
            by_cases h58 : s[i + 1] = 58
            · rw [if_pos h58] at h
              rw [h58] at c3
              clear hc3 h58
              go_wp2_with fail
              refine (c1 _).mono ?_
              rintro r w' ⟨rfl, rfl⟩
              go_wp2_with fail
              refine (c2 _).mono ?_
              rintro r w' ⟨rfl, rfl⟩
              go_wp2_with fail
              go_step3
              rename_i K hK
              refine hK _ _ ?_
              clear hK K
              go_wp2_with fail
              refine (c3 _).mono ?_
              rintro r w' ⟨rfl, rfl⟩
              go_wp2
              go_step3
              refine ⟨⟨rfl, i + 1 + 1, _, _, _, _, _, _, _, _, _, _, _, _, _, _, _, _, _, _, _, _, _, _, _, _, _, _, _, _, _, _, _, _, _, _, _, _, _, _, _, _, _, _, _, _, _, _, _, _, _, _, _, _, rfl, by omega, Or.inr (Or.inl ⟨rfl, h⟩)⟩, ?_⟩
              simp [intOf]
              omega
            · rw [if_neg h58] at h
              have hx : ((s[i + 1].toNat : Int) == 58) = false := neC (k := 58) (by omega) h58
              have hm1 : ((s[i + 1].toNat : Int) == -1) = false := beq_eq_false_iff_ne.2 (by omega)
              generalize s[i + 1].toNat = m at *
              clear h58
              subst h
              go_wp2_with fail
              refine (c1 _).mono ?_
              rintro r w' ⟨rfl, rfl⟩
              go_wp2_with fail
              refine (c2 _).mono ?_
              rintro r w' ⟨rfl, rfl⟩
              go_wp2_with fail
              go_step3
              rename_i K hK
              refine hK _ _ ?_
              clear hK K
              go_wp2_with fail
              refine (c3 _).mono ?_
              rintro r w' ⟨rfl, rfl⟩
              go_wp2
              simp only [Exit.jumps]
              go_ret
              exact ⟨rfl, rfl⟩
          · have c3 := fun W => at_out s (i + 1) W hl3 (by omega)
            rw [List.drop_of_length_le (by rw [← sz_list]; omega), fS3_nil] at h
            subst h
            go_wp2_with fail
            refine (c1 _).mono ?_
            rintro r w' ⟨rfl, rfl⟩
            go_wp2_with fail
            refine (c2 _).mono ?_
            rintro r w' ⟨rfl, rfl⟩
            go_wp2_with fail
            go_step3
            rename_i K hK
            refine hK _ _ ?_
            clear hK K
            go_wp2_with fail
            refine (c3 _).mono ?_
            rintro r w' ⟨rfl, rfl⟩
            go_wp2
            simp only [Exit.jumps]
            go_ret
            exact ⟨rfl, rfl⟩
        · have h2 : M.fS 3 (s.data.toList.drop i) = T := by rw [← h, drop_cons s i hl, fS2_cons, if_neg hd, fS3_cons]
          clear h
          rw [decide_eq_false hd] at c2
          clear hd
          rw [drop_cons s i hl, fS3_cons] at h2
          by_cases h58 : s[i] = 58
          · rw [if_pos h58] at h2
            rw [h58] at c1 c2
            clear hc h58
            go_wp2_with fail
            refine (c1 _).mono ?_
            rintro r w' ⟨rfl, rfl⟩
            go_wp2_with fail
            refine (c2 _).mono ?_
            rintro r w' ⟨rfl, rfl⟩
            go_wp2_with fail
            go_step3
            rename_i K hK
            refine hK _ _ ?_
            clear hK K
            go_wp2_with fail
            refine (c1 _).mono ?_
            rintro r w' ⟨rfl, rfl⟩
            go_wp2
            go_step3
            refine ⟨⟨rfl, i + 1, _, _, _, _, _, _, _, _, _, _, _, _, _, _, _, _, _, _, _, _, _, _, _, _, _, _, _, _, _, _, _, _, _, _, _, _, _, _, _, _, _, _, _, _, _, _, _, _, _, _, _, _, rfl, by omega, Or.inr (Or.inl ⟨rfl, h2⟩)⟩, ?_⟩
            simp [intOf]
            omega
          · rw [if_neg h58] at h2
            have hx : ((s[i].toNat : Int) == 58) = false := neC (k := 58) (by omega) h58
            have hm1 : ((s[i].toNat : Int) == -1) = false := beq_eq_false_iff_ne.2 (by omega)
            generalize s[i].toNat = m at *
            clear h58
            subst h2
            go_wp2_with fail
            refine (c1 _).mono ?_
            rintro r w' ⟨rfl, rfl⟩
            go_wp2_with fail
            refine (c2 _).mono ?_
            rintro r w' ⟨rfl, rfl⟩
            go_wp2_with fail
            go_step3
            rename_i K hK
            refine hK _ _ ?_
            clear hK K
            go_wp2_with fail
            refine (c1 _).mono ?_
            rintro r w' ⟨rfl, rfl⟩
            go_wp2
            simp only [Exit.jumps]
            go_ret
            exact ⟨rfl, rfl⟩
      · have c1 := fun W => at_out s i W hl (by omega)
        have c2 := fun W => isDig_end 10 W
        rw [List.drop_of_length_le (by rw [← sz_list]; omega), fS2_nil] at h
        subst h
        go_wp2_with fail
        refine (c1 _).mono ?_
        rintro r w' ⟨rfl, rfl⟩
        go_wp2_with fail
        refine (c2 _).mono ?_
        rintro r w' ⟨rfl, rfl⟩
        go_wp2_with fail
        go_step3
        rename_i K hK
        refine hK _ _ ?_
        clear hK K
        go_wp2_with fail
        refine (c1 _).mono ?_
        rintro r w' ⟨rfl, rfl⟩
        go_wp2
        simp only [Exit.jumps]
        go_ret
        exact ⟨rfl, rfl⟩
    · refine ⟨_, rfl, ?_⟩
      by_cases hl3 : i < s.size
      · have c3 := fun W => at_in s (i) W hl3 (by omega)
        rw [drop_cons s (i) hl3, fS3_cons] at h
        have hc3 := s[i].toNat_lt
        by_cases h58 : s[i] = 58
        · rw [if_pos h58] at h
          rw [h58] at c3
          clear hc3 h58
          go_wp2_with fail
          refine (c3 _).mono ?_
          rintro r w' ⟨rfl, rfl⟩
          go_wp2
          go_step3
          refine ⟨⟨rfl, i + 1, _, _, _, _, _, _, _, _, _, _, _, _, _, _, _, _, _, _, _, _, _, _, _, _, _, _, _, _, _, _, _, _, _, _, _, _, _, _, _, _, _, _, _, _, _, _, _, _, _, _, _, _, rfl, by omega, Or.inr (Or.inl ⟨rfl, h⟩)⟩, ?_⟩
          simp [intOf]
          omega
        · rw [if_neg h58] at h
          have hx : ((s[i].toNat : Int) == 58) = false := neC (k := 58) (by omega) h58
          have hm1 : ((s[i].toNat : Int) == -1) = false := beq_eq_false_iff_ne.2 (by omega)
          generalize s[i].toNat = m at *
          clear h58
          subst h
          go_wp2_with fail
          refine (c3 _).mono ?_
          rintro r w' ⟨rfl, rfl⟩
          go_wp2
          simp only [Exit.jumps]
          go_ret
          exact ⟨rfl, rfl⟩
      · have c3 := fun W => at_out s (i) W hl3 (by omega)
        rw [List.drop_of_length_le (by rw [← sz_list]; omega), fS3_nil] at h
        subst h
        go_wp2_with fail
        refine (c3 _).mono ?_
        rintro r w' ⟨rfl, rfl⟩
        go_wp2
        simp only [Exit.jumps]
        go_ret
        exact ⟨rfl, rfl⟩
  · intro hp
    go_wp2_with fail
    go_step3
    rename_i K hK
    exact hK _ _ (hp 0 _ rfl _ _ ⟨rfl, 1, _, _, _, _, _, _, _, _, _, _, _, _, _, _, _, _, _, _, _, _, _, _, _, _, _, _, _, _, _, _, _, _, _, _, _, _, _, _, _, _, _, _, _, _, _, _, _, _, _, _, _, _, rfl, by omega, Or.inl ⟨rfl, hT⟩⟩)
end Go.Proofs.YtiainpdfidgcfaaGreatDoor
