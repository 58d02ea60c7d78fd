/- Walks: at, isDigit; a scope of many labels. Walks: afterNought. -/
import Derived.Test.YtiainpdfidgcfaaGreatDoorWf
import Derived.WalkMore
import Derived.Scope
set_option linter.unusedVariables false
namespace Go
/-- As Q; by a goto to label l: J l. -/
def Exit.jumps (J : Nat → Act → World → Prop) (Q : Exit → Act → World → Prop) : Exit → Act → World → Prop
  | .goto l, a, w => J l a w
  | e, a, w => Q e a w
theorem wp_scope_labels {P : Program} {a : Act} {w : World} {Q : Exit → Act → World → Prop} {c : Code} (J : Nat → Act → World → Prop) (μ : Nat → Act → World → Nat)
    (first : c.wp P (Exit.jumps J Q) a w)
    (pass : ∀ l a w, J l a w → ∃ rest, findLabel c l = some rest ∧ rest.wp P (Exit.jumps (fun l' a' w' => J l' a' w' ∧ μ l' a' w' < μ l a w) Q) a w) : (Code.scope c).wp P Q a w := by
  intro b k cs
  have key : ∀ n l a w, μ l a w = n → J l a w → ∃ rest, findLabel c l = some rest ∧ ∃ e a' w', Q e a' w' ∧ Arrives P (lone (b.at a (.code rest :: .inScope c :: k)) cs w) b k cs e a' w' := by
    intro n
    induction n using Nat.strongRecOn with
    | _ n ih =>
      intro l a w hn hJ
      obtain ⟨rest, hf, hp⟩ := pass l a w hJ
      refine ⟨rest, hf, ?_⟩
      obtain ⟨e, a₁, w₁, hq, harr⟩ := hp b (.inScope c :: k) cs
      cases e with
      | normal => exact ⟨.normal, a₁, w₁, hq, Steps.trans harr (.one step_inScope)⟩
      | exit id => exact ⟨.exit id, a₁, w₁, hq, fun k' hk => harr k' (by simp [exitTo, hk])⟩
      | goto l' =>
        obtain ⟨hJ', hlt⟩ := hq
        obtain ⟨rest', hf', e₂, a₂, w₂, hq₂, harr₂⟩ := ih _ (by omega) l' a₁ w₁ rfl hJ'
        have hg : gotoIn l' (.inScope c :: k) = some (.code rest' :: .inScope c :: k) := by simp [gotoIn, hf']
        exact ⟨e₂, a₂, w₂, hq₂, .of_steps (harr _ hg) harr₂⟩
      | ret => exact ⟨_, a₁, w₁, hq, harr⟩
      | panic ch => exact ⟨_, a₁, w₁, hq, harr⟩
      | outgrown => exact ⟨_, a₁, w₁, hq, harr⟩
  obtain ⟨e, a₁, w₁, hq, harr⟩ := first b (.inScope c :: k) cs
  cases e with
  | normal => exact ⟨.normal, a₁, w₁, hq, .head step_scope (Steps.trans harr (.one step_inScope))⟩
  | exit id => exact ⟨.exit id, a₁, w₁, hq, fun k' hk => .head step_scope (harr k' (by simp [exitTo, hk]))⟩
  | goto l' =>
    obtain ⟨rest', hf', e₂, a₂, w₂, hq₂, harr₂⟩ := key _ l' a₁ w₁ rfl hq
    have hg : gotoIn l' (.inScope c :: k) = some (.code rest' :: .inScope c :: k) := by simp [gotoIn, hf']
    exact ⟨e₂, a₂, w₂, hq₂, .of_steps (.head step_scope (harr _ hg)) harr₂⟩
  | ret => exact ⟨_, a₁, w₁, hq, .of_steps (.one step_scope) harr⟩
  | panic ch => exact ⟨_, a₁, w₁, hq, .of_steps (.one step_scope) harr⟩
  | outgrown => exact ⟨_, a₁, w₁, hq, .of_steps (.one step_scope) harr⟩
theorem wp_scope_run {P : Program} {a : Act} {w : World} {Q : Exit → Act → World → Prop} {c : Code} (J : Nat → Act → World → Prop) (μ : Nat → Act → World → Nat)
    (pass : ∀ l a w, J l a w → ∃ rest, findLabel c l = some (.seq .skip rest) ∧ rest.wp P (Exit.jumps (fun l' a' w' => J l' a' w' ∧ μ l' a' w' < μ l a w) Q) a w)
    (first : (∀ l rest, findLabel c l = some (.seq .skip rest) → ∀ a w, J l a w → rest.wp P (Exit.jumps J Q) a w) → c.wp P (Exit.jumps J Q) a w) : (Code.scope c).wp P Q a w := by
  refine wp_scope_labels J μ (first fun l rest hf a w hJ => ?_) fun l a w hJ => by
    obtain ⟨rest, hf, hp⟩ := pass l a w hJ
    exact ⟨_, hf, wp_seq (wp_skip hp)⟩
  obtain ⟨rest', hf', hp⟩ := pass l a w hJ
  obtain rfl : rest' = rest := by
    have := Option.some.inj (hf'.symm.trans hf)
    exact (Code.seq.inj this).2
  intro b k cs
  obtain ⟨e, a', w', hq, ha⟩ := hp b k cs
  refine ⟨e, a', w', ?_, ha⟩
  cases e with
  | goto l' => exact hq.1
  | normal => exact hq
  | exit id => exact hq
  | ret => exact hq
  | panic ch => exact hq
  | outgrown => exact hq
end Go
namespace Go.Proofs.YtiainpdfidgcfaaGreatDoor
open Go.RowKit

set_option maxRecDepth 100000 in
theorem at_in (s : ByteArray) (i : Nat) (w : World) (h : i < s.size) (hs : s.size ≤ 1000000) :
    Calls Tryz.prog 57 #[.string s, .int .i64 i] w fun e w' => e = .returned (.int .i64 (s[i].toNat : Nat)) ∧ w = w' := by
  have hd : decide (i < s.size) = true := by simpa using h
  have hc : s[i].toNat < 256 := s[i].toNat_lt
  go_enter Tryz.func57, Tryz.ntmps57
  go_wp2
  go_ret
  exact ⟨ret_int (by first | rfl | (unfold wrap64; omega)), rfl⟩
set_option maxRecDepth 100000 in
theorem at_out (s : ByteArray) (i : Nat) (w : World) (h : ¬ i < s.size) (hs : s.size ≤ 1000000) :
    Calls Tryz.prog 57 #[.string s, .int .i64 i] w fun e w' => e = .returned (.int .i64 (-1)) ∧ w = w' := by
  have hd : decide (i < s.size) = false := by simpa using h
  go_enter Tryz.func57, Tryz.ntmps57
  go_wp2
  go_ret
  exact ⟨rfl, rfl⟩
set_option maxRecDepth 100000 in
theorem isDig_end (b : Nat) (w : World) : Calls Tryz.prog 59 #[.int .i64 (-1), .int .i64 b] w fun e w' => e = .returned (.bool false) ∧ w = w' := by
  go_enter Tryz.func59, Tryz.ntmps59
  go_wp2
  go_ret
  exact ⟨rfl, rfl⟩
set_option maxRecDepth 100000 in
theorem isDig_any (c : UInt8) (b : Nat) (w : World) (hb : b ≤ 10 ∨ b = 16) : Calls Tryz.prog 59 #[.int .i64 (c.toNat : Nat), .int .i64 b] w fun e w' => e = .returned (.bool (decide (M.dv c < b))) ∧ w = w' := by
  have hc : c.toNat < 256 := c.toNat_lt
  unfold M.dv
  generalize c.toNat = n at *
  by_cases h1 : 48 ≤ n ∧ n ≤ 57
  · rw [if_pos h1]
    obtain ⟨m, rfl⟩ : ∃ m, n = 48 + m := ⟨n - 48, by omega⟩
    rw [Nat.add_sub_cancel_left]
    obtain ⟨_, h1⟩ := h1
    go_enter Tryz.func59, Tryz.ntmps59
    go_wp2
    all_goals (go_ret; refine ⟨ret_bool ?_, rfl⟩; simp; try omega)
  · rw [if_neg h1]
    by_cases h2 : 97 ≤ n ∧ n ≤ 102
    · rw [if_pos h2]
      have e : ((b : Int) == 16) = decide (n - 87 < b) := by
        rcases hb with h | h
        · rw [decide_eq_false (by omega)]; exact beq_eq_false_iff_ne.2 (by omega)
        · subst h; rw [decide_eq_true (by omega)]; rfl
      obtain ⟨h3, h4⟩ := h2
      go_enter Tryz.func59, Tryz.ntmps59
      go_wp2
      all_goals first | omega | (go_ret; exact ⟨rfl, rfl⟩)
    · rw [if_neg h2]
      by_cases h3 : 65 ≤ n ∧ n ≤ 70
      · rw [if_pos h3]
        have e : ((b : Int) == 16) = decide (n - 55 < b) := by
          rcases hb with h | h
          · rw [decide_eq_false (by omega)]; exact beq_eq_false_iff_ne.2 (by omega)
          · subst h; rw [decide_eq_true (by omega)]; rfl
        obtain ⟨h4, h5⟩ := h3
        go_enter Tryz.func59, Tryz.ntmps59
        go_wp2
        all_goals first | omega | (go_ret; exact ⟨rfl, rfl⟩)
      · rw [if_neg h3, decide_eq_false (by omega)]
        go_enter Tryz.func59, Tryz.ntmps59
        go_wp2
        all_goals first | omega | (go_ret; exact ⟨rfl, rfl⟩)
end Go.Proofs.YtiainpdfidgcfaaGreatDoor

namespace Go.Proofs.YtiainpdfidgcfaaGreatDoor
open Go.RowKit

def intOf : Value → Int | .int _ q => q | _ => 0
theorem ne95 {c : UInt8} (h : ¬ c = 95) : ((c.toNat : Int) == 95) = false := by
  refine beq_eq_false_iff_ne.2 fun k => h (UInt8.toNat_inj.1 ?_)
  have : c.toNat = 95 := by omega
  simpa using this
theorem neC {c : UInt8} {k : Nat} (hk : k < 256) (h : ¬ c = UInt8.ofNat k) : ((c.toNat : Int) == (k : Int)) = false := by
  refine beq_eq_false_iff_ne.2 fun e => h (UInt8.toNat_inj.1 ?_)
  have : c.toNat = k := by omega
  rw [this]; simp; omega
/-- What holds at afterNought's labels. -/
def JN (s : ByteArray) (T : Nat) (w : World) (l : Nat) (a : Act) (w' : World) : Prop :=
  w = w' ∧ ∃ (i f b : Nat) (u1 u2 u6 u7 u8 u9 u10 u11 u12 u13 u14 u15 u16 u17 u18 u19 u20 u21 u22 u23 u24 u25 u26 u27 u28 u29 u30 u31 u32 u33 u34 u35 u36 u37 u38 u39 u40 u41 u42 u43 u44 u45 u46 u47 : Value), a = { tmps := #[.string s, u1, u2, .int .i64 (i : Nat), .int .i64 (f : Nat), .int .i64 (b : Nat), u6, u7, u8, u9, u10, u11, u12, u13, u14, u15, u16, u17, u18, u19, u20, u21, u22, u23, u24, u25, u26, u27, u28, u29, u30, u31, u32, u33, u34, u35, u36, u37, u38, u39, u40, u41, u42, u43, u44, u45, u46, u47], defers := [] } ∧ i ≤ s.size ∧ (b = 2 ∨ b = 8 ∨ b = 16) ∧ ((l = 0 ∧ M.fG b f (s.data.toList.drop i) = T) ∨ (l = 1 ∧ M.fD b f (s.data.toList.drop i) = T))
set_option maxRecDepth 1000000 in
set_option maxHeartbeats 2000000 in
theorem nought_any (s : ByteArray) (w : World) (hs : s.size ≤ 1000) (h0 : 0 < s.size) :
    Calls Tryz.prog 58 #[.string s] w fun e w' => e = .returned (.int .i64 (M.fN (s.data.toList.drop 1) : Nat)) ∧ w = w' := by
  obtain ⟨T, hT⟩ : ∃ T, M.fN (s.data.toList.drop 1) = T := ⟨_, rfl⟩
  rw [hT]
  go_enter Tryz.func58, Tryz.ntmps58
  go_wp2_with fail
  refine wp_scope_run (JN s T w) (fun _ a _ => 2000 - (intOf (a.tmps.getD 3 undef)).toNat) ?_ ?_
  · rintro l a w' ⟨rfl, i, f, b, u1, u2, u6, u7, u8, u9, u10, u11, u12, u13, u14, u15, u16, u17, u18, u19, u20, u21, u22, u23, u24, u25, u26, u27, u28, u29, u30, u31, u32, u33, u34, u35, u36, u37, u38, u39, u40, u41, u42, u43, u44, u45, u46, u47, rfl, hi, hb, h⟩
    rcases h with ⟨rfl, h⟩ | ⟨rfl, h⟩
    · refine ⟨_, rfl, ?_⟩
      by_cases hl : i < s.size
      · have c1 := fun W => at_in s i W hl (by omega)
        rw [drop_cons s i hl, M.fG] at h
        have hc := s[i].toNat_lt
        by_cases h95 : s[i] = 95
        · rw [if_pos h95] at h
          rw [h95] at c1
          clear hc h95
          go_wp2_with (first | (go_at_call 57; refine (c1 _).mono ?_; rintro r w' ⟨rfl, rfl⟩) | (go_at_call 59; refine (c2 _).mono ?_; rintro r w' ⟨rfl, rfl⟩))
          go_step3
          refine ⟨⟨rfl, i + 1, f, b, _, _, _, _, _, _, _, _, _, _, _, _, _, _, _, _, _, _, _, _, _, _, _, _, _, _, _, _, _, _, _, _, _, _, _, _, _, _, _, _, _, _, _, _, rfl, by omega, hb, Or.inl ⟨rfl, h⟩⟩, ?_⟩
          simp [intOf]
          omega
        · by_cases hd : M.dv s[i] < b
          · rw [if_neg h95, if_pos hd] at h
            have c2 := fun W => isDig_any s[i] b W (by omega)
            rw [decide_eq_true hd] at c2
            have hne : ((s[i].toNat : Int) == 95) = false := ne95 h95
            generalize s[i].toNat = n at *
            clear hd h95
            go_wp2_with (first | (go_at_call 57; refine (c1 _).mono ?_; rintro r w' ⟨rfl, rfl⟩) | (go_at_call 59; refine (c2 _).mono ?_; rintro r w' ⟨rfl, rfl⟩))
            go_step3
            refine ⟨⟨rfl, i + 1, f, b, _, _, _, _, _, _, _, _, _, _, _, _, _, _, _, _, _, _, _, _, _, _, _, _, _, _, _, _, _, _, _, _, _, _, _, _, _, _, _, _, _, _, _, _, rfl, by omega, hb, Or.inr ⟨rfl, h⟩⟩, ?_⟩
            simp [intOf]
            omega
          · rw [if_neg h95, if_neg hd] at h
            have c2 := fun W => isDig_any s[i] b W (by omega)
            rw [decide_eq_false hd] at c2
            have hne : ((s[i].toNat : Int) == 95) = false := ne95 h95
            have hm1 : ((s[i].toNat : Int) == -1) = false := beq_eq_false_iff_ne.2 (by omega)
            generalize s[i].toNat = n at *
            clear hd h95
            subst h
            go_wp2_with (first | (go_at_call 57; refine (c1 _).mono ?_; rintro r w' ⟨rfl, rfl⟩) | (go_at_call 59; refine (c2 _).mono ?_; rintro r w' ⟨rfl, rfl⟩))
            simp only [Exit.jumps]
            go_ret
            exact ⟨rfl, rfl⟩
      · have c1 := fun W => at_out s i W hl (by omega)
        have c2 := fun W => isDig_end b W
        rw [List.drop_of_length_le (by rw [← sz_list]; omega), M.fG] at h
        subst h
        go_wp2_with (first | (go_at_call 57; refine (c1 _).mono ?_; rintro r w' ⟨rfl, rfl⟩) | (go_at_call 59; refine (c2 _).mono ?_; rintro r w' ⟨rfl, rfl⟩))
        simp only [Exit.jumps]
        go_ret
        exact ⟨rfl, rfl⟩
    · refine ⟨_, rfl, ?_⟩
      by_cases hl : i < s.size
      · have c1 := fun W => at_in s i W hl (by omega)
        rw [drop_cons s i hl, M.fD] at h
        have hc := s[i].toNat_lt
        by_cases h95 : s[i] = 95
        · rw [if_pos (Or.inl h95)] at h
          rw [h95] at c1
          clear hc h95
          go_wp2_with (first | (go_at_call 57; refine (c1 _).mono ?_; rintro r w' ⟨rfl, rfl⟩) | (go_at_call 59; refine (c2 _).mono ?_; rintro r w' ⟨rfl, rfl⟩))
          go_step3
          refine ⟨⟨rfl, i + 1, f, b, _, _, _, _, _, _, _, _, _, _, _, _, _, _, _, _, _, _, _, _, _, _, _, _, _, _, _, _, _, _, _, _, _, _, _, _, _, _, _, _, _, _, _, _, rfl, by omega, hb, Or.inr ⟨rfl, h⟩⟩, ?_⟩
          simp [intOf]
          omega
        · by_cases hd : M.dv s[i] < b
          · rw [if_pos (Or.inr hd)] at h
            have c2 := fun W => isDig_any s[i] b W (by omega)
            rw [decide_eq_true hd] at c2
            have hne : ((s[i].toNat : Int) == 95) = false := ne95 h95
            generalize s[i].toNat = n at *
            clear hd h95
            go_wp2_with (first | (go_at_call 57; refine (c1 _).mono ?_; rintro r w' ⟨rfl, rfl⟩) | (go_at_call 59; refine (c2 _).mono ?_; rintro r w' ⟨rfl, rfl⟩))
            go_step3
            refine ⟨⟨rfl, i + 1, f, b, _, _, _, _, _, _, _, _, _, _, _, _, _, _, _, _, _, _, _, _, _, _, _, _, _, _, _, _, _, _, _, _, _, _, _, _, _, _, _, _, _, _, _, _, rfl, by omega, hb, Or.inr ⟨rfl, h⟩⟩, ?_⟩
            simp [intOf]
            omega
          · rw [if_neg (fun k => k.elim h95 hd)] at h
            have c2 := fun W => isDig_any s[i] b W (by omega)
            rw [decide_eq_false hd] at c2
            have hne : ((s[i].toNat : Int) == 95) = false := ne95 h95
            have hm1 : ((s[i].toNat : Int) == -1) = false := beq_eq_false_iff_ne.2 (by omega)
            generalize s[i].toNat = n at *
            clear hd h95
            subst h
            go_wp2_with (first | (go_at_call 57; refine (c1 _).mono ?_; rintro r w' ⟨rfl, rfl⟩) | (go_at_call 59; refine (c2 _).mono ?_; rintro r w' ⟨rfl, rfl⟩))
            simp only [Exit.jumps]
            go_ret
            exact ⟨rfl, rfl⟩
      · have c1 := fun W => at_out s i W hl (by omega)
        have c2 := fun W => isDig_end b W
        rw [List.drop_of_length_le (by rw [← sz_list]; omega), M.fD] at h
        subst h
        go_wp2_with (first | (go_at_call 57; refine (c1 _).mono ?_; rintro r w' ⟨rfl, rfl⟩) | (go_at_call 59; refine (c2 _).mono ?_; rintro r w' ⟨rfl, rfl⟩))
        simp only [Exit.jumps]
        go_ret
        exact ⟨rfl, rfl⟩
  · intro hp
    by_cases hl : 1 < s.size
    · have c1 := fun W => at_in s 1 W hl (by omega)
      have hc := s[1].toNat_lt
      have hm1 : ((s[1].toNat : Int) == -1) = false := beq_eq_false_iff_ne.2 (by omega)
      rw [drop_cons s 1 hl, M.fN] at hT
      by_cases h98 : s[1] = 98
      · rw [if_pos h98] at hT
        rw [h98] at c1
        clear hc hm1
        go_wp2_with (go_at_call 57; refine (c1 _).mono ?_; rintro r w' ⟨rfl, rfl⟩)
        go_step3
        rename_i K hK
        exact hK _ _ (hp 0 _ rfl _ _ ⟨rfl, 2, 1, 2, _, _, _, _, _, _, _, _, _, _, _, _, _, _, _, _, _, _, _, _, _, _, _, _, _, _, _, _, _, _, _, _, _, _, _, _, _, _, _, _, _, _, _, _, rfl, by omega, Or.inl rfl, Or.inl ⟨rfl, hT⟩⟩)
      · by_cases h120 : s[1] = 120
        · rw [if_neg h98, if_pos h120] at hT
          rw [h120] at c1
          clear hc hm1
          go_wp2_with (go_at_call 57; refine (c1 _).mono ?_; rintro r w' ⟨rfl, rfl⟩)
          go_step3
          rename_i K hK
          exact hK _ _ (hp 0 _ rfl _ _ ⟨rfl, 2, 2, 16, _, _, _, _, _, _, _, _, _, _, _, _, _, _, _, _, _, _, _, _, _, _, _, _, _, _, _, _, _, _, _, _, _, _, _, _, _, _, _, _, _, _, _, _, rfl, by omega, Or.inr (Or.inr rfl), Or.inl ⟨rfl, hT⟩⟩)
        · rw [if_neg h98, if_neg h120, ← drop_cons s 1 hl] at hT
          have hx : ((s[1].toNat : Int) == 98) = false := neC (k := 98) (by omega) h98
          have hy : ((s[1].toNat : Int) == 120) = false := neC (k := 120) (by omega) h120
          generalize s[1].toNat = n at *
          go_wp2_with (go_at_call 57; refine (c1 _).mono ?_; rintro r w' ⟨rfl, rfl⟩)
          go_step3
          rename_i K hK
          exact hK _ _ (hp 0 _ rfl _ _ ⟨rfl, 1, 3, 8, _, _, _, _, _, _, _, _, _, _, _, _, _, _, _, _, _, _, _, _, _, _, _, _, _, _, _, _, _, _, _, _, _, _, _, _, _, _, _, _, _, _, _, _, rfl, by omega, Or.inr (Or.inl rfl), Or.inl ⟨rfl, hT⟩⟩)
    · have c1 := fun W => at_out s 1 W hl (by omega)
      rw [List.drop_of_length_le (by rw [← sz_list]; omega), M.fN] at hT
      subst hT
      go_wp2_with (go_at_call 57; refine (c1 _).mono ?_; rintro r w' ⟨rfl, rfl⟩)
      simp only [Exit.jumps]
      go_ret
      exact ⟨rfl, rfl⟩
end Go.Proofs.YtiainpdfidgcfaaGreatDoor
