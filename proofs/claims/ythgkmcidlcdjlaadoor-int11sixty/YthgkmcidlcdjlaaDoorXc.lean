/- Walks: afterNought. -/
import Derived.Test.YthgkmcidlcdjlaaDoorXb
set_option linter.unusedVariables false
namespace Go.Proofs.YthgkmcidlcdjlaaDoor
open Go.RowKit

def intOf : Value → Int | .int _ q => q | _ => 0
theorem ne95 {c : UInt8} (h : ¬ c = 95) : ((c.toNat : Int) == 95) = false := by
  refine beq_eq_false_iff_ne.2 fun k => h (UInt8.toNat_inj.1 ?_)
  have : c.toNat = 95 := by omega
  simpa using this
theorem neC {c : UInt8} {k : Nat} (hk : k < 256) (h : ¬ c = UInt8.ofNat k) : ((c.toNat : Int) == (k : Int)) = false := by
  refine beq_eq_false_iff_ne.2 fun e => h (UInt8.toNat_inj.1 ?_)
  have : c.toNat = k := by omega
  rw [this]; simp; omega
/-- What holds at afterNought's labels. -/
def JN (s : ByteArray) (T : Nat) (w : World) (l : Nat) (a : Act) (w' : World) : Prop :=
  w = w' ∧ ∃ (i f b : Nat) (u1 u2 u6 u7 u8 u9 u10 u11 u12 u13 u14 u15 u16 u17 u18 u19 u20 u21 u22 u23 u24 u25 u26 u27 u28 u29 u30 u31 u32 u33 u34 u35 u36 u37 u38 u39 u40 u41 u42 u43 u44 u45 u46 u47 : Value), a = { tmps := #[.string s, u1, u2, .int .i64 (i : Nat), .int .i64 (f : Nat), .int .i64 (b : Nat), u6, u7, u8, u9, u10, u11, u12, u13, u14, u15, u16, u17, u18, u19, u20, u21, u22, u23, u24, u25, u26, u27, u28, u29, u30, u31, u32, u33, u34, u35, u36, u37, u38, u39, u40, u41, u42, u43, u44, u45, u46, u47], defers := [] } ∧ i ≤ s.size ∧ (b = 2 ∨ b = 8 ∨ b = 16) ∧ ((l = 0 ∧ M.fG b f (s.data.toList.drop i) = T) ∨ (l = 1 ∧ M.fD b f (s.data.toList.drop i) = T))
set_option maxRecDepth 1000000 in
set_option maxHeartbeats 2000000 in
theorem nought_any (s : ByteArray) (w : World) (hs : s.size ≤ 1000) (h0 : 0 < s.size) :
    Calls Tryd.prog 25 #[.string s] w fun e w' => e = .returned (.int .i64 (M.fN (s.data.toList.drop 1) : Nat)) ∧ w = w' := by
  obtain ⟨T, hT⟩ : ∃ T, M.fN (s.data.toList.drop 1) = T := ⟨_, rfl⟩
  rw [hT]
  go_enter Tryd.func25, Tryd.ntmps25
  go_wp2_with fail
  refine wp_scope_run (JN s T w) (fun _ a _ => 2000 - (intOf (a.tmps.getD 3 undef)).toNat) ?_ ?_
  · rintro l a w' ⟨rfl, i, f, b, u1, u2, u6, u7, u8, u9, u10, u11, u12, u13, u14, u15, u16, u17, u18, u19, u20, u21, u22, u23, u24, u25, u26, u27, u28, u29, u30, u31, u32, u33, u34, u35, u36, u37, u38, u39, u40, u41, u42, u43, u44, u45, u46, u47, rfl, hi, hb, h⟩
    rcases h with ⟨rfl, h⟩ | ⟨rfl, h⟩
    · refine ⟨_, rfl, ?_⟩
      by_cases hl : i < s.size
      · have c1 := fun W => at_in s i W hl (by omega)
        rw [drop_cons s i hl, M.fG] at h
        have hc := s[i].toNat_lt
        by_cases h95 : s[i] = 95
        · rw [if_pos h95] at h
          rw [h95] at c1
          clear hc h95
          go_wp2_with (first | (go_at_call 24; refine (c1 _).mono ?_; rintro r w' ⟨rfl, rfl⟩) | (go_at_call 26; refine (c2 _).mono ?_; rintro r w' ⟨rfl, rfl⟩))
          go_step3
          refine ⟨⟨rfl, i + 1, f, b, _, _, _, _, _, _, _, _, _, _, _, _, _, _, _, _, _, _, _, _, _, _, _, _, _, _, _, _, _, _, _, _, _, _, _, _, _, _, _, _, _, _, _, _, rfl, by omega, hb, Or.inl ⟨rfl, h⟩⟩, ?_⟩
          simp [intOf]
          omega
        · by_cases hd : M.dv s[i] < b
          · rw [if_neg h95, if_pos hd] at h
            have c2 := fun W => isDig_any s[i] b W (by omega)
            rw [decide_eq_true hd] at c2
            have hne : ((s[i].toNat : Int) == 95) = false := ne95 h95
            generalize s[i].toNat = n at *
            clear hd h95
            go_wp2_with (first | (go_at_call 24; refine (c1 _).mono ?_; rintro r w' ⟨rfl, rfl⟩) | (go_at_call 26; refine (c2 _).mono ?_; rintro r w' ⟨rfl, rfl⟩))
            go_step3
            refine ⟨⟨rfl, i + 1, f, b, _, _, _, _, _, _, _, _, _, _, _, _, _, _, _, _, _, _, _, _, _, _, _, _, _, _, _, _, _, _, _, _, _, _, _, _, _, _, _, _, _, _, _, _, rfl, by omega, hb, Or.inr ⟨rfl, h⟩⟩, ?_⟩
            simp [intOf]
            omega
          · rw [if_neg h95, if_neg hd] at h
            have c2 := fun W => isDig_any s[i] b W (by omega)
            rw [decide_eq_false hd] at c2
            have hne : ((s[i].toNat : Int) == 95) = false := ne95 h95
            have hm1 : ((s[i].toNat : Int) == -1) = false := beq_eq_false_iff_ne.2 (by omega)
            generalize s[i].toNat = n at *
            clear hd h95
            subst h
            go_wp2_with (first | (go_at_call 24; refine (c1 _).mono ?_; rintro r w' ⟨rfl, rfl⟩) | (go_at_call 26; refine (c2 _).mono ?_; rintro r w' ⟨rfl, rfl⟩))
            simp only [Exit.jumps]
            go_ret
            exact ⟨rfl, rfl⟩
      · have c1 := fun W => at_out s i W hl (by omega)
        have c2 := fun W => isDig_end b W
        rw [List.drop_of_length_le (by rw [← sz_list]; omega), M.fG] at h
        subst h
        go_wp2_with (first | (go_at_call 24; refine (c1 _).mono ?_; rintro r w' ⟨rfl, rfl⟩) | (go_at_call 26; refine (c2 _).mono ?_; rintro r w' ⟨rfl, rfl⟩))
        simp only [Exit.jumps]
        go_ret
        exact ⟨rfl, rfl⟩
    · refine ⟨_, rfl, ?_⟩
      by_cases hl : i < s.size
      · have c1 := fun W => at_in s i W hl (by omega)
        rw [drop_cons s i hl, M.fD] at h
        have hc := s[i].toNat_lt
        by_cases h95 : s[i] = 95
        · rw [if_pos (Or.inl h95)] at h
          rw [h95] at c1
          clear hc h95
          go_wp2_with (first | (go_at_call 24; refine (c1 _).mono ?_; rintro r w' ⟨rfl, rfl⟩) | (go_at_call 26; refine (c2 _).mono ?_; rintro r w' ⟨rfl, rfl⟩))
          go_step3
          refine ⟨⟨rfl, i + 1, f, b, _, _, _, _, _, _, _, _, _, _, _, _, _, _, _, _, _, _, _, _, _, _, _, _, _, _, _, _, _, _, _, _, _, _, _, _, _, _, _, _, _, _, _, _, rfl, by omega, hb, Or.inr ⟨rfl, h⟩⟩, ?_⟩
          simp [intOf]
          omega
        · by_cases hd : M.dv s[i] < b
          · rw [if_pos (Or.inr hd)] at h
            have c2 := fun W => isDig_any s[i] b W (by omega)
            rw [decide_eq_true hd] at c2
            have hne : ((s[i].toNat : Int) == 95) = false := ne95 h95
            generalize s[i].toNat = n at *
            clear hd h95
            go_wp2_with (first | (go_at_call 24; refine (c1 _).mono ?_; rintro r w' ⟨rfl, rfl⟩) | (go_at_call 26; refine (c2 _).mono ?_; rintro r w' ⟨rfl, rfl⟩))
            go_step3
            refine ⟨⟨rfl, i + 1, f, b, _, _, _, _, _, _, _, _, _, _, _, _, _, _, _, _, _, _, _, _, _, _, _, _, _, _, _, _, _, _, _, _, _, _, _, _, _, _, _, _, _, _, _, _, rfl, by omega, hb, Or.inr ⟨rfl, h⟩⟩, ?_⟩
            simp [intOf]
            omega
          · rw [if_neg (fun k => k.elim h95 hd)] at h
            have c2 := fun W => isDig_any s[i] b W (by omega)
            rw [decide_eq_false hd] at c2
            have hne : ((s[i].toNat : Int) == 95) = false := ne95 h95
            have hm1 : ((s[i].toNat : Int) == -1) = false := beq_eq_false_iff_ne.2 (by omega)
            generalize s[i].toNat = n at *
            clear hd h95
            subst h
            go_wp2_with (first | (go_at_call 24; refine (c1 _).mono ?_; rintro r w' ⟨rfl, rfl⟩) | (go_at_call 26; refine (c2 _).mono ?_; rintro r w' ⟨rfl, rfl⟩))
            simp only [Exit.jumps]
            go_ret
            exact ⟨rfl, rfl⟩
      · have c1 := fun W => at_out s i W hl (by omega)
        have c2 := fun W => isDig_end b W
        rw [List.drop_of_length_le (by rw [← sz_list]; omega), M.fD] at h
        subst h
        go_wp2_with (first | (go_at_call 24; refine (c1 _).mono ?_; rintro r w' ⟨rfl, rfl⟩) | (go_at_call 26; refine (c2 _).mono ?_; rintro r w' ⟨rfl, rfl⟩))
        simp only [Exit.jumps]
        go_ret
        exact ⟨rfl, rfl⟩
  · intro hp
    by_cases hl : 1 < s.size
    · have c1 := fun W => at_in s 1 W hl (by omega)
      have hc := s[1].toNat_lt
      have hm1 : ((s[1].toNat : Int) == -1) = false := beq_eq_false_iff_ne.2 (by omega)
      rw [drop_cons s 1 hl, M.fN] at hT
      by_cases h98 : s[1] = 98
      · rw [if_pos h98] at hT
        rw [h98] at c1
        clear hc hm1
        go_wp2_with (go_at_call 24; refine (c1 _).mono ?_; rintro r w' ⟨rfl, rfl⟩)
        go_step3
        rename_i K hK
        exact hK _ _ (hp 0 _ rfl _ _ ⟨rfl, 2, 1, 2, _, _, _, _, _, _, _, _, _, _, _, _, _, _, _, _, _, _, _, _, _, _, _, _, _, _, _, _, _, _, _, _, _, _, _, _, _, _, _, _, _, _, _, _, rfl, by omega, Or.inl rfl, Or.inl ⟨rfl, hT⟩⟩)
      · by_cases h120 : s[1] = 120
        · rw [if_neg h98, if_pos h120] at hT
          rw [h120] at c1
          clear hc hm1
          go_wp2_with (go_at_call 24; refine (c1 _).mono ?_; rintro r w' ⟨rfl, rfl⟩)
          go_step3
          rename_i K hK
          exact hK _ _ (hp 0 _ rfl _ _ ⟨rfl, 2, 2, 16, _, _, _, _, _, _, _, _, _, _, _, _, _, _, _, _, _, _, _, _, _, _, _, _, _, _, _, _, _, _, _, _, _, _, _, _, _, _, _, _, _, _, _, _, rfl, by omega, Or.inr (Or.inr rfl), Or.inl ⟨rfl, hT⟩⟩)
        · rw [if_neg h98, if_neg h120, ← drop_cons s 1 hl] at hT
          have hx : ((s[1].toNat : Int) == 98) = false := neC (k := 98) (by omega) h98
          have hy : ((s[1].toNat : Int) == 120) = false := neC (k := 120) (by omega) h120
          generalize s[1].toNat = n at *
          go_wp2_with (go_at_call 24; refine (c1 _).mono ?_; rintro r w' ⟨rfl, rfl⟩)
          go_step3
          rename_i K hK
          exact hK _ _ (hp 0 _ rfl _ _ ⟨rfl, 1, 3, 8, _, _, _, _, _, _, _, _, _, _, _, _, _, _, _, _, _, _, _, _, _, _, _, _, _, _, _, _, _, _, _, _, _, _, _, _, _, _, _, _, _, _, _, _, rfl, by omega, Or.inr (Or.inl rfl), Or.inl ⟨rfl, hT⟩⟩)
    · have c1 := fun W => at_out s 1 W hl (by omega)
      rw [List.drop_of_length_le (by rw [← sz_list]; omega), M.fN] at hT
      subst hT
      go_wp2_with (go_at_call 24; refine (c1 _).mono ?_; rintro r w' ⟨rfl, rfl⟩)
      simp only [Exit.jumps]
      go_ret
      exact ⟨rfl, rfl⟩
end Go.Proofs.YthgkmcidlcdjlaaDoor
