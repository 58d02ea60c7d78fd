/- Walks: at, isDigit; a scope of many labels. Walks: afterNought. Walks: afterDigit. Walks: TrimPrefix, split, Form, Is. Plain mathematics: what the forms say. Plain mathematics: each form's signs. -/
import Derived.Test.YtipgipgehnhgkaaGreatDoorBa
import Derived.WalkMore
import Derived.Scope
import Derived.Lib.Replace
set_option linter.unusedVariables false
namespace Go
/-- As Q; by a goto to label l: J l. -/
def Exit.jumps (J : Nat → Act → World → Prop) (Q : Exit → Act → World → Prop) : Exit → Act → World → Prop
  | .goto l, a, w => J l a w
  | e, a, w => Q e a w
theorem wp_scope_labels {P : Program} {a : Act} {w : World} {Q : Exit → Act → World → Prop} {c : Code} (J : Nat → Act → World → Prop) (μ : Nat → Act → World → Nat)
    (first : c.wp P (Exit.jumps J Q) a w)
    (pass : ∀ l a w, J l a w → ∃ rest, findLabel c l = some rest ∧ rest.wp P (Exit.jumps (fun l' a' w' => J l' a' w' ∧ μ l' a' w' < μ l a w) Q) a w) : (Code.scope c).wp P Q a w := by
  intro b k cs
  have key : ∀ n l a w, μ l a w = n → J l a w → ∃ rest, findLabel c l = some rest ∧ ∃ e a' w', Q e a' w' ∧ Arrives P (lone (b.at a (.code rest :: .inScope c :: k)) cs w) b k cs e a' w' := by
    intro n
    induction n using Nat.strongRecOn with
    | _ n ih =>
      intro l a w hn hJ
      obtain ⟨rest, hf, hp⟩ := pass l a w hJ
      refine ⟨rest, hf, ?_⟩
      obtain ⟨e, a₁, w₁, hq, harr⟩ := hp b (.inScope c :: k) cs
      cases e with
      | normal => exact ⟨.normal, a₁, w₁, hq, Steps.trans harr (.one step_inScope)⟩
      | exit id => exact ⟨.exit id, a₁, w₁, hq, fun k' hk => harr k' (by simp [exitTo, hk])⟩
      | goto l' =>
        obtain ⟨hJ', hlt⟩ := hq
        obtain ⟨rest', hf', e₂, a₂, w₂, hq₂, harr₂⟩ := ih _ (by omega) l' a₁ w₁ rfl hJ'
        have hg : gotoIn l' (.inScope c :: k) = some (.code rest' :: .inScope c :: k) := by simp [gotoIn, hf']
        exact ⟨e₂, a₂, w₂, hq₂, .of_steps (harr _ hg) harr₂⟩
      | ret => exact ⟨_, a₁, w₁, hq, harr⟩
      | panic ch => exact ⟨_, a₁, w₁, hq, harr⟩
      | outgrown => exact ⟨_, a₁, w₁, hq, harr⟩
  obtain ⟨e, a₁, w₁, hq, harr⟩ := first b (.inScope c :: k) cs
  cases e with
  | normal => exact ⟨.normal, a₁, w₁, hq, .head step_scope (Steps.trans harr (.one step_inScope))⟩
  | exit id => exact ⟨.exit id, a₁, w₁, hq, fun k' hk => .head step_scope (harr k' (by simp [exitTo, hk]))⟩
  | goto l' =>
    obtain ⟨rest', hf', e₂, a₂, w₂, hq₂, harr₂⟩ := key _ l' a₁ w₁ rfl hq
    have hg : gotoIn l' (.inScope c :: k) = some (.code rest' :: .inScope c :: k) := by simp [gotoIn, hf']
    exact ⟨e₂, a₂, w₂, hq₂, .of_steps (.head step_scope (harr _ hg)) harr₂⟩
  | ret => exact ⟨_, a₁, w₁, hq, .of_steps (.one step_scope) harr⟩
  | panic ch => exact ⟨_, a₁, w₁, hq, .of_steps (.one step_scope) harr⟩
  | outgrown => exact ⟨_, a₁, w₁, hq, .of_steps (.one step_scope) harr⟩
theorem wp_scope_run {P : Program} {a : Act} {w : World} {Q : Exit → Act → World → Prop} {c : Code} (J : Nat → Act → World → Prop) (μ : Nat → Act → World → Nat)
    (pass : ∀ l a w, J l a w → ∃ rest, findLabel c l = some (.seq .skip rest) ∧ rest.wp P (Exit.jumps (fun l' a' w' => J l' a' w' ∧ μ l' a' w' < μ l a w) Q) a w)
    (first : (∀ l rest, findLabel c l = some (.seq .skip rest) → ∀ a w, J l a w → rest.wp P (Exit.jumps J Q) a w) → c.wp P (Exit.jumps J Q) a w) : (Code.scope c).wp P Q a w := by
  refine wp_scope_labels J μ (first fun l rest hf a w hJ => ?_) fun l a w hJ => by
    obtain ⟨rest, hf, hp⟩ := pass l a w hJ
    exact ⟨_, hf, wp_seq (wp_skip hp)⟩
  obtain ⟨rest', hf', hp⟩ := pass l a w hJ
  obtain rfl : rest' = rest := by
    have := Option.some.inj (hf'.symm.trans hf)
    exact (Code.seq.inj this).2
  intro b k cs
  obtain ⟨e, a', w', hq, ha⟩ := hp b k cs
  refine ⟨e, a', w', ?_, ha⟩
  cases e with
  | goto l' => exact hq.1
  | normal => exact hq
  | exit id => exact hq
  | ret => exact hq
  | panic ch => exact hq
  | outgrown => exact hq
end Go
namespace Go.Proofs.YtipgipgehnhgkaaGreatDoor
open Go.RowKit

set_option maxRecDepth 100000 in
theorem at_in (s : ByteArray) (i : Nat) (w : World) (h : i < s.size) (hs : s.size ≤ 1000000) :
    Calls Tryz.prog 82 #[.string s, .int .i64 i] w fun e w' => e = .returned (.int .i64 (s[i].toNat : Nat)) ∧ w = w' := by
  have hd : decide (i < s.size) = true := by simpa using h
  have hc : s[i].toNat < 256 := s[i].toNat_lt
  go_enter Tryz.func82, Tryz.ntmps82
  go_wp2
  go_ret
  exact ⟨ret_int (by first | rfl | (unfold wrap64; omega)), rfl⟩
set_option maxRecDepth 100000 in
theorem at_out (s : ByteArray) (i : Nat) (w : World) (h : ¬ i < s.size) (hs : s.size ≤ 1000000) :
    Calls Tryz.prog 82 #[.string s, .int .i64 i] w fun e w' => e = .returned (.int .i64 (-1)) ∧ w = w' := by
  have hd : decide (i < s.size) = false := by simpa using h
  go_enter Tryz.func82, Tryz.ntmps82
  go_wp2
  go_ret
  exact ⟨rfl, rfl⟩
set_option maxRecDepth 100000 in
theorem isDig_end (b : Nat) (w : World) : Calls Tryz.prog 84 #[.int .i64 (-1), .int .i64 b] w fun e w' => e = .returned (.bool false) ∧ w = w' := by
  go_enter Tryz.func84, Tryz.ntmps84
  go_wp2
  go_ret
  exact ⟨rfl, rfl⟩
set_option maxRecDepth 100000 in
theorem isDig_any (c : UInt8) (b : Nat) (w : World) (hb : b ≤ 10 ∨ b = 16) : Calls Tryz.prog 84 #[.int .i64 (c.toNat : Nat), .int .i64 b] w fun e w' => e = .returned (.bool (decide (M.dv c < b))) ∧ w = w' := by
  have hc : c.toNat < 256 := c.toNat_lt
  unfold M.dv
  generalize c.toNat = n at *
  by_cases h1 : 48 ≤ n ∧ n ≤ 57
  · rw [if_pos h1]
    obtain ⟨m, rfl⟩ : ∃ m, n = 48 + m := ⟨n - 48, by omega⟩
    rw [Nat.add_sub_cancel_left]
    obtain ⟨_, h1⟩ := h1
    go_enter Tryz.func84, Tryz.ntmps84
    go_wp2
    all_goals (go_ret; refine ⟨ret_bool ?_, rfl⟩; simp; try omega)
  · rw [if_neg h1]
    by_cases h2 : 97 ≤ n ∧ n ≤ 102
    · rw [if_pos h2]
      have e : ((b : Int) == 16) = decide (n - 87 < b) := by
        rcases hb with h | h
        · rw [decide_eq_false (by omega)]; exact beq_eq_false_iff_ne.2 (by omega)
        · subst h; rw [decide_eq_true (by omega)]; rfl
      obtain ⟨h3, h4⟩ := h2
      go_enter Tryz.func84, Tryz.ntmps84
      go_wp2
      all_goals first | omega | (go_ret; exact ⟨rfl, rfl⟩)
    · rw [if_neg h2]
      by_cases h3 : 65 ≤ n ∧ n ≤ 70
      · rw [if_pos h3]
        have e : ((b : Int) == 16) = decide (n - 55 < b) := by
          rcases hb with h | h
          · rw [decide_eq_false (by omega)]; exact beq_eq_false_iff_ne.2 (by omega)
          · subst h; rw [decide_eq_true (by omega)]; rfl
        obtain ⟨h4, h5⟩ := h3
        go_enter Tryz.func84, Tryz.ntmps84
        go_wp2
        all_goals first | omega | (go_ret; exact ⟨rfl, rfl⟩)
      · rw [if_neg h3, decide_eq_false (by omega)]
        go_enter Tryz.func84, Tryz.ntmps84
        go_wp2
        all_goals first | omega | (go_ret; exact ⟨rfl, rfl⟩)
end Go.Proofs.YtipgipgehnhgkaaGreatDoor

namespace Go.Proofs.YtipgipgehnhgkaaGreatDoor
open Go.RowKit

def intOf : Value → Int | .int _ q => q | _ => 0
theorem ne95 {c : UInt8} (h : ¬ c = 95) : ((c.toNat : Int) == 95) = false := by
  refine beq_eq_false_iff_ne.2 fun k => h (UInt8.toNat_inj.1 ?_)
  have : c.toNat = 95 := by omega
  simpa using this
theorem neC {c : UInt8} {k : Nat} (hk : k < 256) (h : ¬ c = UInt8.ofNat k) : ((c.toNat : Int) == (k : Int)) = false := by
  refine beq_eq_false_iff_ne.2 fun e => h (UInt8.toNat_inj.1 ?_)
  have : c.toNat = k := by omega
  rw [this]; simp; omega
/-- What holds at afterNought's labels. -/
def JN (s : ByteArray) (T : Nat) (w : World) (l : Nat) (a : Act) (w' : World) : Prop :=
  w = w' ∧ ∃ (i f b : Nat) (u1 u2 u6 u7 u8 u9 u10 u11 u12 u13 u14 u15 u16 u17 u18 u19 u20 u21 u22 u23 u24 u25 u26 u27 u28 u29 u30 u31 u32 u33 u34 u35 u36 u37 u38 u39 u40 u41 u42 u43 u44 u45 u46 u47 : Value), a = { tmps := #[.string s, u1, u2, .int .i64 (i : Nat), .int .i64 (f : Nat), .int .i64 (b : Nat), u6, u7, u8, u9, u10, u11, u12, u13, u14, u15, u16, u17, u18, u19, u20, u21, u22, u23, u24, u25, u26, u27, u28, u29, u30, u31, u32, u33, u34, u35, u36, u37, u38, u39, u40, u41, u42, u43, u44, u45, u46, u47], defers := [] } ∧ i ≤ s.size ∧ (b = 2 ∨ b = 8 ∨ b = 16) ∧ ((l = 0 ∧ M.fG b f (s.data.toList.drop i) = T) ∨ (l = 1 ∧ M.fD b f (s.data.toList.drop i) = T))
set_option maxRecDepth 1000000 in
set_option maxHeartbeats 2000000 in
theorem nought_any (s : ByteArray) (w : World) (hs : s.size ≤ 1000) (h0 : 0 < s.size) :
    Calls Tryz.prog 83 #[.string s] w fun e w' => e = .returned (.int .i64 (M.fN (s.data.toList.drop 1) : Nat)) ∧ w = w' := by
  obtain ⟨T, hT⟩ : ∃ T, M.fN (s.data.toList.drop 1) = T := ⟨_, rfl⟩
  rw [hT]
  go_enter Tryz.func83, Tryz.ntmps83
  go_wp2_with fail
  refine wp_scope_run (JN s T w) (fun _ a _ => 2000 - (intOf (a.tmps.getD 3 undef)).toNat) ?_ ?_
  · rintro l a w' ⟨rfl, i, f, b, u1, u2, u6, u7, u8, u9, u10, u11, u12, u13, u14, u15, u16, u17, u18, u19, u20, u21, u22, u23, u24, u25, u26, u27, u28, u29, u30, u31, u32, u33, u34, u35, u36, u37, u38, u39, u40, u41, u42, u43, u44, u45, u46, u47, rfl, hi, hb, h⟩
    rcases h with ⟨rfl, h⟩ | ⟨rfl, h⟩
    · refine ⟨_, rfl, ?_⟩
      by_cases hl : i < s.size
      · have c1 := fun W => at_in s i W hl (by omega)
        rw [drop_cons s i hl, M.fG] at h
        have hc := s[i].toNat_lt
        by_cases h95 : s[i] = 95
        · rw [if_pos h95] at h
          rw [h95] at c1
          clear hc h95
          go_wp2_with (first | (go_at_call 82; refine (c1 _).mono ?_; rintro r w' ⟨rfl, rfl⟩) | (go_at_call 84; refine (c2 _).mono ?_; rintro r w' ⟨rfl, rfl⟩))
          go_step3
          refine ⟨⟨rfl, i + 1, f, b, _, _, _, _, _, _, _, _, _, _, _, _, _, _, _, _, _, _, _, _, _, _, _, _, _, _, _, _, _, _, _, _, _, _, _, _, _, _, _, _, _, _, _, _, rfl, by omega, hb, Or.inl ⟨rfl, h⟩⟩, ?_⟩
          simp [intOf]
          omega
        · by_cases hd : M.dv s[i] < b
          · rw [if_neg h95, if_pos hd] at h
            have c2 := fun W => isDig_any s[i] b W (by omega)
            rw [decide_eq_true hd] at c2
            have hne : ((s[i].toNat : Int) == 95) = false := ne95 h95
            generalize s[i].toNat = n at *
            clear hd h95
            go_wp2_with (first | (go_at_call 82; refine (c1 _).mono ?_; rintro r w' ⟨rfl, rfl⟩) | (go_at_call 84; refine (c2 _).mono ?_; rintro r w' ⟨rfl, rfl⟩))
            go_step3
            refine ⟨⟨rfl, i + 1, f, b, _, _, _, _, _, _, _, _, _, _, _, _, _, _, _, _, _, _, _, _, _, _, _, _, _, _, _, _, _, _, _, _, _, _, _, _, _, _, _, _, _, _, _, _, rfl, by omega, hb, Or.inr ⟨rfl, h⟩⟩, ?_⟩
            simp [intOf]
            omega
          · rw [if_neg h95, if_neg hd] at h
            have c2 := fun W => isDig_any s[i] b W (by omega)
            rw [decide_eq_false hd] at c2
            have hne : ((s[i].toNat : Int) == 95) = false := ne95 h95
            have hm1 : ((s[i].toNat : Int) == -1) = false := beq_eq_false_iff_ne.2 (by omega)
            generalize s[i].toNat = n at *
            clear hd h95
            subst h
            go_wp2_with (first | (go_at_call 82; refine (c1 _).mono ?_; rintro r w' ⟨rfl, rfl⟩) | (go_at_call 84; refine (c2 _).mono ?_; rintro r w' ⟨rfl, rfl⟩))
            simp only [Exit.jumps]
            go_ret
            exact ⟨rfl, rfl⟩
      · have c1 := fun W => at_out s i W hl (by omega)
        have c2 := fun W => isDig_end b W
        rw [List.drop_of_length_le (by rw [← sz_list]; omega), M.fG] at h
        subst h
        go_wp2_with (first | (go_at_call 82; refine (c1 _).mono ?_; rintro r w' ⟨rfl, rfl⟩) | (go_at_call 84; refine (c2 _).mono ?_; rintro r w' ⟨rfl, rfl⟩))
        simp only [Exit.jumps]
        go_ret
        exact ⟨rfl, rfl⟩
    · refine ⟨_, rfl, ?_⟩
      by_cases hl : i < s.size
      · have c1 := fun W => at_in s i W hl (by omega)
        rw [drop_cons s i hl, M.fD] at h
        have hc := s[i].toNat_lt
        by_cases h95 : s[i] = 95
        · rw [if_pos (Or.inl h95)] at h
          rw [h95] at c1
          clear hc h95
          go_wp2_with (first | (go_at_call 82; refine (c1 _).mono ?_; rintro r w' ⟨rfl, rfl⟩) | (go_at_call 84; refine (c2 _).mono ?_; rintro r w' ⟨rfl, rfl⟩))
          go_step3
          refine ⟨⟨rfl, i + 1, f, b, _, _, _, _, _, _, _, _, _, _, _, _, _, _, _, _, _, _, _, _, _, _, _, _, _, _, _, _, _, _, _, _, _, _, _, _, _, _, _, _, _, _, _, _, rfl, by omega, hb, Or.inr ⟨rfl, h⟩⟩, ?_⟩
          simp [intOf]
          omega
        · by_cases hd : M.dv s[i] < b
          · rw [if_pos (Or.inr hd)] at h
            have c2 := fun W => isDig_any s[i] b W (by omega)
            rw [decide_eq_true hd] at c2
            have hne : ((s[i].toNat : Int) == 95) = false := ne95 h95
            generalize s[i].toNat = n at *
            clear hd h95
            go_wp2_with (first | (go_at_call 82; refine (c1 _).mono ?_; rintro r w' ⟨rfl, rfl⟩) | (go_at_call 84; refine (c2 _).mono ?_; rintro r w' ⟨rfl, rfl⟩))
            go_step3
            refine ⟨⟨rfl, i + 1, f, b, _, _, _, _, _, _, _, _, _, _, _, _, _, _, _, _, _, _, _, _, _, _, _, _, _, _, _, _, _, _, _, _, _, _, _, _, _, _, _, _, _, _, _, _, rfl, by omega, hb, Or.inr ⟨rfl, h⟩⟩, ?_⟩
            simp [intOf]
            omega
          · rw [if_neg (fun k => k.elim h95 hd)] at h
            have c2 := fun W => isDig_any s[i] b W (by omega)
            rw [decide_eq_false hd] at c2
            have hne : ((s[i].toNat : Int) == 95) = false := ne95 h95
            have hm1 : ((s[i].toNat : Int) == -1) = false := beq_eq_false_iff_ne.2 (by omega)
            generalize s[i].toNat = n at *
            clear hd h95
            subst h
            go_wp2_with (first | (go_at_call 82; refine (c1 _).mono ?_; rintro r w' ⟨rfl, rfl⟩) | (go_at_call 84; refine (c2 _).mono ?_; rintro r w' ⟨rfl, rfl⟩))
            simp only [Exit.jumps]
            go_ret
            exact ⟨rfl, rfl⟩
      · have c1 := fun W => at_out s i W hl (by omega)
        have c2 := fun W => isDig_end b W
        rw [List.drop_of_length_le (by rw [← sz_list]; omega), M.fD] at h
        subst h
        go_wp2_with (first | (go_at_call 82; refine (c1 _).mono ?_; rintro r w' ⟨rfl, rfl⟩) | (go_at_call 84; refine (c2 _).mono ?_; rintro r w' ⟨rfl, rfl⟩))
        simp only [Exit.jumps]
        go_ret
        exact ⟨rfl, rfl⟩
  · intro hp
    by_cases hl : 1 < s.size
    · have c1 := fun W => at_in s 1 W hl (by omega)
      have hc := s[1].toNat_lt
      have hm1 : ((s[1].toNat : Int) == -1) = false := beq_eq_false_iff_ne.2 (by omega)
      rw [drop_cons s 1 hl, M.fN] at hT
      by_cases h98 : s[1] = 98
      · rw [if_pos h98] at hT
        rw [h98] at c1
        clear hc hm1
        go_wp2_with (go_at_call 82; refine (c1 _).mono ?_; rintro r w' ⟨rfl, rfl⟩)
        go_step3
        rename_i K hK
        exact hK _ _ (hp 0 _ rfl _ _ ⟨rfl, 2, 1, 2, _, _, _, _, _, _, _, _, _, _, _, _, _, _, _, _, _, _, _, _, _, _, _, _, _, _, _, _, _, _, _, _, _, _, _, _, _, _, _, _, _, _, _, _, rfl, by omega, Or.inl rfl, Or.inl ⟨rfl, hT⟩⟩)
      · by_cases h120 : s[1] = 120
        · rw [if_neg h98, if_pos h120] at hT
          rw [h120] at c1
          clear hc hm1
          go_wp2_with (go_at_call 82; refine (c1 _).mono ?_; rintro r w' ⟨rfl, rfl⟩)
          go_step3
          rename_i K hK
          exact hK _ _ (hp 0 _ rfl _ _ ⟨rfl, 2, 2, 16, _, _, _, _, _, _, _, _, _, _, _, _, _, _, _, _, _, _, _, _, _, _, _, _, _, _, _, _, _, _, _, _, _, _, _, _, _, _, _, _, _, _, _, _, rfl, by omega, Or.inr (Or.inr rfl), Or.inl ⟨rfl, hT⟩⟩)
        · rw [if_neg h98, if_neg h120, ← drop_cons s 1 hl] at hT
          have hx : ((s[1].toNat : Int) == 98) = false := neC (k := 98) (by omega) h98
          have hy : ((s[1].toNat : Int) == 120) = false := neC (k := 120) (by omega) h120
          generalize s[1].toNat = n at *
          go_wp2_with (go_at_call 82; refine (c1 _).mono ?_; rintro r w' ⟨rfl, rfl⟩)
          go_step3
          rename_i K hK
          exact hK _ _ (hp 0 _ rfl _ _ ⟨rfl, 1, 3, 8, _, _, _, _, _, _, _, _, _, _, _, _, _, _, _, _, _, _, _, _, _, _, _, _, _, _, _, _, _, _, _, _, _, _, _, _, _, _, _, _, _, _, _, _, rfl, by omega, Or.inr (Or.inl rfl), Or.inl ⟨rfl, hT⟩⟩)
    · have c1 := fun W => at_out s 1 W hl (by omega)
      rw [List.drop_of_length_le (by rw [← sz_list]; omega), M.fN] at hT
      subst hT
      go_wp2_with (go_at_call 82; refine (c1 _).mono ?_; rintro r w' ⟨rfl, rfl⟩)
      simp only [Exit.jumps]
      go_ret
      exact ⟨rfl, rfl⟩
end Go.Proofs.YtipgipgehnhgkaaGreatDoor

namespace Go.Proofs.YtipgipgehnhgkaaGreatDoor
open Go.RowKit

theorem fS1_nil : M.fS 1 [] = 0 := rfl
theorem fS2_nil : M.fS 2 [] = 6 := rfl
theorem fS3_nil : M.fS 3 [] = 6 := rfl
theorem fS1_cons (c : UInt8) (r : List UInt8) : M.fS 1 (c :: r) = if M.dv c < 6 then M.fS 2 r else if M.dv c < 10 then M.fS 3 r else 0 := by rw [M.fS, if_pos rfl]
theorem fS2_cons (c : UInt8) (r : List UInt8) : M.fS 2 (c :: r) = if M.dv c < 10 then M.fS 3 r else if c = 58 then M.fS 1 r else 0 := by rw [M.fS, if_neg (by omega)]; simp
theorem fS3_cons (c : UInt8) (r : List UInt8) : M.fS 3 (c :: r) = if c = 58 then M.fS 1 r else 0 := by rw [M.fS, if_neg (by omega), if_neg (by omega)]
/-- What holds at afterDigit's labels. -/
def JD (s : ByteArray) (T : Nat) (w : World) (l : Nat) (a : Act) (w' : World) : Prop :=
  w = w' ∧ ∃ (i : Nat) (u1 u2 u4 u5 u6 u7 u8 u9 u10 u11 u12 u13 u14 u15 u16 u17 u18 u19 u20 u21 u22 u23 u24 u25 u26 u27 u28 u29 u30 u31 u32 u33 u34 u35 u36 u37 u38 u39 u40 u41 u42 u43 u44 u45 u46 u47 u48 u49 u50 u51 u52 u53 : Value), a = { tmps := #[.string s, u1, u2, .int .i64 (i : Nat), u4, u5, u6, u7, u8, u9, u10, u11, u12, u13, u14, u15, u16, u17, u18, u19, u20, u21, u22, u23, u24, u25, u26, u27, u28, u29, u30, u31, u32, u33, u34, u35, u36, u37, u38, u39, u40, u41, u42, u43, u44, u45, u46, u47, u48, u49, u50, u51, u52, u53], defers := [] } ∧ i ≤ s.size ∧ ((l = 0 ∧ M.fA (s.data.toList.drop i) = T) ∨ (l = 1 ∧ M.fS 1 (s.data.toList.drop i) = T) ∨ (l = 2 ∧ M.fS 2 (s.data.toList.drop i) = T) ∨ (l = 3 ∧ M.fS 3 (s.data.toList.drop i) = T))
set_option maxRecDepth 1000000 in
set_option maxHeartbeats 8000000 in
theorem digit_any (s : ByteArray) (w : World) (hs : s.size ≤ 1000) (h0 : 0 < s.size) :
    Calls Tryz.prog 85 #[.string s] w fun e w' => e = .returned (.int .i64 (M.fA (s.data.toList.drop 1) : Nat)) ∧ w = w' := by
  obtain ⟨T, hT⟩ : ∃ T, M.fA (s.data.toList.drop 1) = T := ⟨_, rfl⟩
  rw [hT]
  go_enter Tryz.func85, Tryz.ntmps85
  go_wp2_with fail
  refine wp_scope_run (JD s T w) (fun _ a _ => 2000 - (intOf (a.tmps.getD 3 undef)).toNat) ?_ ?_
  · rintro l a w' ⟨rfl, i, u1, u2, u4, u5, u6, u7, u8, u9, u10, u11, u12, u13, u14, u15, u16, u17, u18, u19, u20, u21, u22, u23, u24, u25, u26, u27, u28, u29, u30, u31, u32, u33, u34, u35, u36, u37, u38, u39, u40, u41, u42, u43, u44, u45, u46, u47, u48, u49, u50, u51, u52, u53, rfl, hi, h⟩
    rcases h with ⟨rfl, h⟩ | ⟨rfl, h⟩ | ⟨rfl, h⟩ | ⟨rfl, h⟩
    · refine ⟨_, rfl, ?_⟩
      by_cases hl : i < s.size
      · have c1 := fun W => at_in s i W hl (by omega)
        rw [drop_cons s i hl, M.fA] at h
        have hc := s[i].toNat_lt
        by_cases h95 : s[i] = 95
        · rw [if_pos (Or.inl h95)] at h
          rw [h95] at c1
          clear hc h95
          go_wp2_with fail
          refine (c1 _).mono ?_
          rintro r w' ⟨rfl, rfl⟩
          go_wp2
          go_step3
          refine ⟨⟨rfl, i + 1, _, _, _, _, _, _, _, _, _, _, _, _, _, _, _, _, _, _, _, _, _, _, _, _, _, _, _, _, _, _, _, _, _, _, _, _, _, _, _, _, _, _, _, _, _, _, _, _, _, _, _, _, rfl, by omega, Or.inl ⟨rfl, h⟩⟩, ?_⟩
          simp [intOf]
          omega
        · have c2 := fun W => isDig_any s[i] 10 W (by omega)
          have hne : ((s[i].toNat : Int) == 95) = false := ne95 h95
          by_cases hd : M.dv s[i] < 10
          · rw [if_pos (Or.inr hd)] at h
            rw [decide_eq_true hd] at c2
            generalize s[i].toNat = n at *
            clear hd h95
            go_wp2_with fail
            refine (c1 _).mono ?_
            rintro r w' ⟨rfl, rfl⟩
            go_wp2_with fail
            refine (c2 _).mono ?_
            rintro r w' ⟨rfl, rfl⟩
            go_wp2
            go_step3
            refine ⟨⟨rfl, i + 1, _, _, _, _, _, _, _, _, _, _, _, _, _, _, _, _, _, _, _, _, _, _, _, _, _, _, _, _, _, _, _, _, _, _, _, _, _, _, _, _, _, _, _, _, _, _, _, _, _, _, _, _, rfl, by omega, Or.inl ⟨rfl, h⟩⟩, ?_⟩
            simp [intOf]
            omega
          · rw [if_neg (fun k => k.elim h95 hd)] at h
            rw [decide_eq_false hd] at c2
            by_cases h58 : s[i] = 58
            · rw [if_pos h58] at h
              rw [h58] at c1 c2
              clear hd h95 hne hc h58
              go_wp2_with fail
              refine (c1 _).mono ?_
              rintro r w' ⟨rfl, rfl⟩
              go_wp2_with fail
              refine (c2 _).mono ?_
              rintro r w' ⟨rfl, rfl⟩
              go_wp2
              go_step3
              refine ⟨⟨rfl, i + 1, _, _, _, _, _, _, _, _, _, _, _, _, _, _, _, _, _, _, _, _, _, _, _, _, _, _, _, _, _, _, _, _, _, _, _, _, _, _, _, _, _, _, _, _, _, _, _, _, _, _, _, _, rfl, by omega, Or.inr (Or.inl ⟨rfl, h⟩)⟩, ?_⟩
              simp [intOf]
              omega
            · rw [if_neg h58] at h
              have hx : ((s[i].toNat : Int) == 58) = false := neC (k := 58) (by omega) h58
              have hm1 : ((s[i].toNat : Int) == -1) = false := beq_eq_false_iff_ne.2 (by omega)
              generalize s[i].toNat = n at *
              clear hd h95 h58
              subst h
              go_wp2_with fail
              refine (c1 _).mono ?_
              rintro r w' ⟨rfl, rfl⟩
              go_wp2_with fail
              refine (c2 _).mono ?_
              rintro r w' ⟨rfl, rfl⟩
              go_wp2
              simp only [Exit.jumps]
              go_ret
              exact ⟨rfl, rfl⟩
      · have c1 := fun W => at_out s i W hl (by omega)
        have c2 := fun W => isDig_end 10 W
        rw [List.drop_of_length_le (by rw [← sz_list]; omega), M.fA] at h
        subst h
        go_wp2_with fail
        refine (c1 _).mono ?_
        rintro r w' ⟨rfl, rfl⟩
        go_wp2_with fail
        refine (c2 _).mono ?_
        rintro r w' ⟨rfl, rfl⟩
        go_wp2
        simp only [Exit.jumps]
        go_ret
        exact ⟨rfl, rfl⟩
    · refine ⟨_, rfl, ?_⟩
      by_cases hl : i < s.size
      · have c1 := fun W => at_in s i W hl (by omega)
        rw [drop_cons s i hl, fS1_cons] at h
        have hc := s[i].toNat_lt
        have c2 := fun W => isDig_any s[i] 6 W (by omega)
        by_cases hd : M.dv s[i] < 6
        · rw [if_pos hd] at h
          rw [decide_eq_true hd] at c2
          generalize s[i].toNat = n at *
          clear hd
          go_wp2_with fail
          refine (c1 _).mono ?_
          rintro r w' ⟨rfl, rfl⟩
          go_wp2_with fail
          refine (c2 _).mono ?_
          rintro r w' ⟨rfl, rfl⟩
          go_wp2
          go_step3
          refine ⟨⟨rfl, i + 1, _, _, _, _, _, _, _, _, _, _, _, _, _, _, _, _, _, _, _, _, _, _, _, _, _, _, _, _, _, _, _, _, _, _, _, _, _, _, _, _, _, _, _, _, _, _, _, _, _, _, _, _, rfl, by omega, Or.inr (Or.inr (Or.inl ⟨rfl, h⟩))⟩, ?_⟩
          simp [intOf]
          omega
        · rw [if_neg hd] at h
          rw [decide_eq_false hd] at c2
          have c3 := fun W => isDig_any s[i] 10 W (by omega)
          by_cases he : M.dv s[i] < 10
          · rw [if_pos he] at h
            rw [decide_eq_true he] at c3
            generalize s[i].toNat = n at *
            clear hd he
            go_wp2_with fail
            refine (c1 _).mono ?_
            rintro r w' ⟨rfl, rfl⟩
            go_wp2_with fail
            refine (c2 _).mono ?_
            rintro r w' ⟨rfl, rfl⟩
            go_wp2_with fail
            refine (c3 _).mono ?_
            rintro r w' ⟨rfl, rfl⟩
            go_wp2
            go_step3
            refine ⟨⟨rfl, i + 1, _, _, _, _, _, _, _, _, _, _, _, _, _, _, _, _, _, _, _, _, _, _, _, _, _, _, _, _, _, _, _, _, _, _, _, _, _, _, _, _, _, _, _, _, _, _, _, _, _, _, _, _, rfl, by omega, Or.inr (Or.inr (Or.inr ⟨rfl, h⟩))⟩, ?_⟩
            simp [intOf]
            omega
          · rw [if_neg he] at h
            rw [decide_eq_false he] at c3
            generalize s[i].toNat = n at *
            clear hd he
            subst h
            go_wp2_with fail
            refine (c1 _).mono ?_
            rintro r w' ⟨rfl, rfl⟩
            go_wp2_with fail
            refine (c2 _).mono ?_
            rintro r w' ⟨rfl, rfl⟩
            go_wp2_with fail
            refine (c3 _).mono ?_
            rintro r w' ⟨rfl, rfl⟩
            go_wp2
            simp only [Exit.jumps]
            go_ret
            exact ⟨rfl, rfl⟩
      · have c1 := fun W => at_out s i W hl (by omega)
        have c2 := fun W => isDig_end 6 W
        have c3 := fun W => isDig_end 10 W
        rw [List.drop_of_length_le (by rw [← sz_list]; omega), fS1_nil] at h
        subst h
        go_wp2_with fail
        refine (c1 _).mono ?_
        rintro r w' ⟨rfl, rfl⟩
        go_wp2_with fail
        refine (c2 _).mono ?_
        rintro r w' ⟨rfl, rfl⟩
        go_wp2_with fail
        refine (c3 _).mono ?_
        rintro r w' ⟨rfl, rfl⟩
        go_wp2
        simp only [Exit.jumps]
        go_ret
        exact ⟨rfl, rfl⟩
    · refine ⟨_, rfl, ?_⟩
      by_cases hl : i < s.size
      · have c1 := fun W => at_in s i W hl (by omega)
        have hc := s[i].toNat_lt
        have c2 := fun W => isDig_any s[i] 10 W (by omega)
        by_cases hd : M.dv s[i] < 10
        · rw [drop_cons s i hl, fS2_cons, if_pos hd] at h
          rw [decide_eq_true hd] at c2
          generalize s[i].toNat = n at *
          clear hd
          by_cases hl3 : i + 1 < s.size
          · have c3 := fun W => at_in s (i + 1) W hl3 (by omega)
            rw [drop_cons s (i + 1) hl3, fS3_cons] at h
            have hc3 := s[i + 1].toNat_lt
            by_cases h58 : s[i + 1] = 58
            · rw [if_pos h58] at h
              rw [h58] at c3
              clear hc3 h58
              go_wp2_with fail
              refine (c1 _).mono ?_
              rintro r w' ⟨rfl, rfl⟩
              go_wp2_with fail
              refine (c2 _).mono ?_
              rintro r w' ⟨rfl, rfl⟩
              go_wp2_with fail
              go_step3
              rename_i K hK
              refine hK _ _ ?_
              clear hK K
              go_wp2_with fail
              refine (c3 _).mono ?_
              rintro r w' ⟨rfl, rfl⟩
              go_wp2
              go_step3
              refine ⟨⟨rfl, i + 1 + 1, _, _, _, _, _, _, _, _, _, _, _, _, _, _, _, _, _, _, _, _, _, _, _, _, _, _, _, _, _, _, _, _, _, _, _, _, _, _, _, _, _, _, _, _, _, _, _, _, _, _, _, _, rfl, by omega, Or.inr (Or.inl ⟨rfl, h⟩)⟩, ?_⟩
              simp [intOf]
              omega
            · rw [if_neg h58] at h
              have hx : ((s[i + 1].toNat : Int) == 58) = false := neC (k := 58) (by omega) h58
              have hm1 : ((s[i + 1].toNat : Int) == -1) = false := beq_eq_false_iff_ne.2 (by omega)
              generalize s[i + 1].toNat = m at *
              clear h58
              subst h
              go_wp2_with fail
              refine (c1 _).mono ?_
              rintro r w' ⟨rfl, rfl⟩
              go_wp2_with fail
              refine (c2 _).mono ?_
              rintro r w' ⟨rfl, rfl⟩
              go_wp2_with fail
              go_step3
              rename_i K hK
              refine hK _ _ ?_
              clear hK K
              go_wp2_with fail
              refine (c3 _).mono ?_
              rintro r w' ⟨rfl, rfl⟩
              go_wp2
              simp only [Exit.jumps]
              go_ret
              exact ⟨rfl, rfl⟩
          · have c3 := fun W => at_out s (i + 1) W hl3 (by omega)
            rw [List.drop_of_length_le (by rw [← sz_list]; omega), fS3_nil] at h
            subst h
            go_wp2_with fail
            refine (c1 _).mono ?_
            rintro r w' ⟨rfl, rfl⟩
            go_wp2_with fail
            refine (c2 _).mono ?_
            rintro r w' ⟨rfl, rfl⟩
            go_wp2_with fail
            go_step3
            rename_i K hK
            refine hK _ _ ?_
            clear hK K
            go_wp2_with fail
            refine (c3 _).mono ?_
            rintro r w' ⟨rfl, rfl⟩
            go_wp2
            simp only [Exit.jumps]
            go_ret
            exact ⟨rfl, rfl⟩
        · have h2 : M.fS 3 (s.data.toList.drop i) = T := by rw [← h, drop_cons s i hl, fS2_cons, if_neg hd, fS3_cons]
          clear h
          rw [decide_eq_false hd] at c2
          clear hd
          rw [drop_cons s i hl, fS3_cons] at h2
          by_cases h58 : s[i] = 58
          · rw [if_pos h58] at h2
            rw [h58] at c1 c2
            clear hc h58
            go_wp2_with fail
            refine (c1 _).mono ?_
            rintro r w' ⟨rfl, rfl⟩
            go_wp2_with fail
            refine (c2 _).mono ?_
            rintro r w' ⟨rfl, rfl⟩
            go_wp2_with fail
            go_step3
            rename_i K hK
            refine hK _ _ ?_
            clear hK K
            go_wp2_with fail
            refine (c1 _).mono ?_
            rintro r w' ⟨rfl, rfl⟩
            go_wp2
            go_step3
            refine ⟨⟨rfl, i + 1, _, _, _, _, _, _, _, _, _, _, _, _, _, _, _, _, _, _, _, _, _, _, _, _, _, _, _, _, _, _, _, _, _, _, _, _, _, _, _, _, _, _, _, _, _, _, _, _, _, _, _, _, rfl, by omega, Or.inr (Or.inl ⟨rfl, h2⟩)⟩, ?_⟩
            simp [intOf]
            omega
          · rw [if_neg h58] at h2
            have hx : ((s[i].toNat : Int) == 58) = false := neC (k := 58) (by omega) h58
            have hm1 : ((s[i].toNat : Int) == -1) = false := beq_eq_false_iff_ne.2 (by omega)
            generalize s[i].toNat = m at *
            clear h58
            subst h2
            go_wp2_with fail
            refine (c1 _).mono ?_
            rintro r w' ⟨rfl, rfl⟩
            go_wp2_with fail
            refine (c2 _).mono ?_
            rintro r w' ⟨rfl, rfl⟩
            go_wp2_with fail
            go_step3
            rename_i K hK
            refine hK _ _ ?_
            clear hK K
            go_wp2_with fail
            refine (c1 _).mono ?_
            rintro r w' ⟨rfl, rfl⟩
            go_wp2
            simp only [Exit.jumps]
            go_ret
            exact ⟨rfl, rfl⟩
      · have c1 := fun W => at_out s i W hl (by omega)
        have c2 := fun W => isDig_end 10 W
        rw [List.drop_of_length_le (by rw [← sz_list]; omega), fS2_nil] at h
        subst h
        go_wp2_with fail
        refine (c1 _).mono ?_
        rintro r w' ⟨rfl, rfl⟩
        go_wp2_with fail
        refine (c2 _).mono ?_
        rintro r w' ⟨rfl, rfl⟩
        go_wp2_with fail
        go_step3
        rename_i K hK
        refine hK _ _ ?_
        clear hK K
        go_wp2_with fail
        refine (c1 _).mono ?_
        rintro r w' ⟨rfl, rfl⟩
        go_wp2
        simp only [Exit.jumps]
        go_ret
        exact ⟨rfl, rfl⟩
    · refine ⟨_, rfl, ?_⟩
      by_cases hl3 : i < s.size
      · have c3 := fun W => at_in s (i) W hl3 (by omega)
        rw [drop_cons s (i) hl3, fS3_cons] at h
        have hc3 := s[i].toNat_lt
        by_cases h58 : s[i] = 58
        · rw [if_pos h58] at h
          rw [h58] at c3
          clear hc3 h58
          go_wp2_with fail
          refine (c3 _).mono ?_
          rintro r w' ⟨rfl, rfl⟩
          go_wp2
          go_step3
          refine ⟨⟨rfl, i + 1, _, _, _, _, _, _, _, _, _, _, _, _, _, _, _, _, _, _, _, _, _, _, _, _, _, _, _, _, _, _, _, _, _, _, _, _, _, _, _, _, _, _, _, _, _, _, _, _, _, _, _, _, rfl, by omega, Or.inr (Or.inl ⟨rfl, h⟩)⟩, ?_⟩
          simp [intOf]
          omega
        · rw [if_neg h58] at h
          have hx : ((s[i].toNat : Int) == 58) = false := neC (k := 58) (by omega) h58
          have hm1 : ((s[i].toNat : Int) == -1) = false := beq_eq_false_iff_ne.2 (by omega)
          generalize s[i].toNat = m at *
          clear h58
          subst h
          go_wp2_with fail
          refine (c3 _).mono ?_
          rintro r w' ⟨rfl, rfl⟩
          go_wp2
          simp only [Exit.jumps]
          go_ret
          exact ⟨rfl, rfl⟩
      · have c3 := fun W => at_out s (i) W hl3 (by omega)
        rw [List.drop_of_length_le (by rw [← sz_list]; omega), fS3_nil] at h
        subst h
        go_wp2_with fail
        refine (c3 _).mono ?_
        rintro r w' ⟨rfl, rfl⟩
        go_wp2
        simp only [Exit.jumps]
        go_ret
        exact ⟨rfl, rfl⟩
  · intro hp
    go_wp2_with fail
    go_step3
    rename_i K hK
    exact hK _ _ (hp 0 _ rfl _ _ ⟨rfl, 1, _, _, _, _, _, _, _, _, _, _, _, _, _, _, _, _, _, _, _, _, _, _, _, _, _, _, _, _, _, _, _, _, _, _, _, _, _, _, _, _, _, _, _, _, _, _, _, _, _, _, _, _, rfl, by omega, Or.inl ⟨rfl, hT⟩⟩)
end Go.Proofs.YtipgipgehnhgkaaGreatDoor

namespace Go.Proofs.YtipgipgehnhgkaaGreatDoor
open Go.RowKit

set_option maxRecDepth 100000 in
theorem plus_any (s : ByteArray) (w : World) (hs : s.size ≤ 1000000) :
    Calls Tryz.prog 157 #[.string s, .string ⟨#[43]⟩] w fun e w' => e = .returned (.bool (decide (s.data.toList.head? = some 43))) ∧ w = w' := by
  by_cases h0 : 1 ≤ s.size
  · have hd : decide (1 ≤ s.size) = true := by simpa using h0
    have hl := drop_cons s 0 (by omega)
    rw [List.drop_zero] at hl
    have e1 : (s.extract 0 1).toList = [s[0]] := by
      rw [ByteArray.toList_eq]; simp only [ByteArray.data_extract, Array.toList_extract, List.extract_eq_take_drop, List.drop_zero]; rw [hl]; rfl
    have e2 : decide (s.data.toList.head? = some 43) = decide (s[0] = 43) := by rw [hl]; simp
    rw [e2]
    clear e2 hl
    by_cases h1 : s[0] = 43
    · rw [decide_eq_true h1]
      have e3 : ((s.extract 0 1).toList == [43]) = true := by rw [e1, h1]; rfl
      clear e1 h1
      go_enter Tryz.func157, Tryz.ntmps157
      go_wp2
      go_ret
      exact ⟨rfl, rfl⟩
    · rw [decide_eq_false h1]
      have e3 : ((s.extract 0 1).toList == [43]) = false := by rw [e1]; simpa using h1
      clear e1 h1
      go_enter Tryz.func157, Tryz.ntmps157
      go_wp2
      go_ret
      exact ⟨rfl, rfl⟩
  · have hd : decide (1 ≤ s.size) = false := by simpa using h0
    have e : decide (s.data.toList.head? = some 43) = false := by
      have : s.data.toList = [] := List.eq_nil_of_length_eq_zero (by rw [← sz_list]; omega)
      rw [this]; rfl
    rw [e]
    clear e
    go_enter Tryz.func157, Tryz.ntmps157
    go_wp2
    go_ret
    exact ⟨rfl, rfl⟩
set_option maxRecDepth 100000 in
theorem trimP_in (s : ByteArray) (w : World) (hs : s.size ≤ 1000000) :
    Calls Tryz.prog 126 #[.string s, .string ⟨#[43]⟩] w fun e w' => e = .returned (.string (bA (M.unplus s.data.toList))) ∧ w = w' := by
  have c1 := plus_any s w hs
  by_cases h : s.data.toList.head? = some 43
  · have hu : bA (M.unplus s.data.toList) = s.extract 1 s.size := by
      symm; apply eq_bA; rw [Lib.extract_to_end]; unfold M.unplus; rw [if_pos h]; simp
    have h1 : 1 ≤ s.size := by
      rw [sz_list]
      match hh : s.data.toList, h with
      | c :: r, _ => simp
    rw [decide_eq_true h] at c1
    rw [hu]
    clear hu h
    go_enter Tryz.func126, Tryz.ntmps126
    go_wp2_with (go_at_call 157; refine c1.mono ?_; rintro r w' ⟨rfl, rfl⟩)
    go_ret
    exact ⟨rfl, rfl⟩
  · have hu : bA (M.unplus s.data.toList) = s := by
      symm; apply eq_bA; unfold M.unplus; rw [if_neg h]
    rw [decide_eq_false h] at c1
    rw [hu]
    clear hu h
    go_enter Tryz.func126, Tryz.ntmps126
    go_wp2_with (go_at_call 157; refine c1.mono ?_; rintro r w' ⟨rfl, rfl⟩)
    go_ret
    exact ⟨rfl, rfl⟩
set_option maxRecDepth 100000 in
theorem trimP_any (s : ByteArray) (w : World) (hs : s.size ≤ 1000000) :
    Calls Tryz.prog 87 #[.string s, .string ⟨#[43]⟩] w fun e w' => e = .returned (.string (bA (M.unplus s.data.toList))) ∧ w = w' := by
  have c1 := trimP_in s w hs
  generalize bA (M.unplus s.data.toList) = U at *
  go_enter Tryz.func87, Tryz.ntmps87
  go_wp2_with (go_at_call 126; refine c1.mono ?_; rintro r w' ⟨rfl, rfl⟩)
  go_ret
  exact ⟨rfl, rfl⟩


set_option maxRecDepth 100000 in
theorem isplit_any (s : ByteArray) (w : World) (hs : s.size ≤ 1000000) :
    Calls Tryz.prog 43 #[.string s] w fun e w' => e = .returned (.tuple #[.bool (M.isNeg s.data.toList), .string (bA (M.body s.data.toList))]) ∧ w = w' := by
  have c1 := fun W => cut_any s W hs
  have c2 := fun W => trimP_any s W hs
  by_cases h : M.isNeg s.data.toList = true
  · have hb : M.body s.data.toList = M.unsign s.data.toList := by unfold M.body; rw [if_pos h]
    rw [hb]
    rw [h] at c1 ⊢
    clear h hb
    generalize bA (M.unsign s.data.toList) = U at *
    go_enter Tryz.func43, Tryz.ntmps43
    go_wp2_with fail
    refine (c1 _).mono ?_
    rintro r w' ⟨rfl, rfl⟩
    go_wp2
    go_ret2
    exact ⟨rfl, rfl⟩
  · have hb : M.body s.data.toList = M.unplus s.data.toList := by unfold M.body; rw [if_neg h]
    rw [hb]
    rw [show M.isNeg s.data.toList = false by simpa using h] at c1 ⊢
    clear h hb
    generalize bA (M.unsign s.data.toList) = U at *
    generalize bA (M.unplus s.data.toList) = V at *
    go_enter Tryz.func43, Tryz.ntmps43
    go_wp2_with fail
    refine (c1 _).mono ?_
    rintro r w' ⟨rfl, rfl⟩
    go_wp2_with fail
    refine (c2 _).mono ?_
    rintro r w' ⟨rfl, rfl⟩
    go_wp2
    go_ret2
    exact ⟨rfl, rfl⟩
set_option maxRecDepth 100000 in
set_option maxHeartbeats 1000000 in
theorem form_any (s : ByteArray) (w : World) (hs : s.size ≤ 1000) :
    Calls Tryz.prog 42 #[.string s] w fun e w' => e = .returned (.int .i64 (M.form s.data.toList : Nat)) ∧ w = w' := by
  have c1 := fun W => isplit_any s W (by omega)
  have hU : (bA (M.body s.data.toList)).size ≤ 1000 := by
    rw [bA_size]; have := M.body_len s.data.toList; rw [← sz_list] at this; omega
  obtain ⟨U, hUe⟩ : ∃ U, bA (M.body s.data.toList) = U := ⟨_, rfl⟩
  have hf : M.form s.data.toList = M.fB U.data.toList := by unfold M.form; rw [← hUe, bA_toList]
  rw [hf]
  rw [hUe] at c1 hU
  generalize M.isNeg s.data.toList = V at *
  clear hf hUe
  by_cases h0 : 0 < U.size
  · have hl := drop_cons U 0 h0
    rw [List.drop_zero] at hl
    have c2 := fun W => at_in U 0 W h0 (by omega)
    have hc := U[0].toNat_lt
    by_cases h48 : U[0] = 48
    · have c3 := fun W => nought_any U W (by omega) h0
      rw [show M.fB U.data.toList = M.fN (U.data.toList.drop 1) by rw [hl, M.fB, if_pos h48]; rfl]
      rw [h48] at c2
      clear h48 hc hl
      generalize M.fN (U.data.toList.drop 1) = F at *
      go_enter Tryz.func42, Tryz.ntmps42
      go_wp2_with fail
      refine (c1 _).mono ?_
      rintro r w' ⟨rfl, rfl⟩
      go_wp2_with fail
      refine (c2 _).mono ?_
      rintro r w' ⟨rfl, rfl⟩
      go_wp2_with fail
      refine (c3 _).mono ?_
      rintro r w' ⟨rfl, rfl⟩
      go_wp2
      go_ret
      exact ⟨rfl, rfl⟩
    · have hx : ((U[0].toNat : Int) == 48) = false := neC (k := 48) (by omega) h48
      have c4 := fun W => isDig_any U[0] 10 W (by omega)
      by_cases hd : M.dv U[0] < 10
      · have c3 := fun W => digit_any U W (by omega) h0
        rw [show M.fB U.data.toList = M.fA (U.data.toList.drop 1) by rw [hl, M.fB, if_neg h48, if_pos hd]; rfl]
        rw [decide_eq_true hd] at c4
        generalize U[0].toNat = n at *
        clear h48 hl hd
        generalize M.fA (U.data.toList.drop 1) = F at *
        go_enter Tryz.func42, Tryz.ntmps42
        go_wp2_with fail
        refine (c1 _).mono ?_
        rintro r w' ⟨rfl, rfl⟩
        go_wp2_with fail
        refine (c2 _).mono ?_
        rintro r w' ⟨rfl, rfl⟩
        go_wp2_with fail
        refine (c4 _).mono ?_
        rintro r w' ⟨rfl, rfl⟩
        go_wp2_with fail
        refine (c3 _).mono ?_
        rintro r w' ⟨rfl, rfl⟩
        go_wp2
        go_ret
        exact ⟨rfl, rfl⟩
      · rw [show M.fB U.data.toList = 0 by rw [hl, M.fB, if_neg h48, if_neg hd]]
        rw [decide_eq_false hd] at c4
        generalize U[0].toNat = n at *
        clear h48 hl hd
        go_enter Tryz.func42, Tryz.ntmps42
        go_wp2_with fail
        refine (c1 _).mono ?_
        rintro r w' ⟨rfl, rfl⟩
        go_wp2_with fail
        refine (c2 _).mono ?_
        rintro r w' ⟨rfl, rfl⟩
        go_wp2_with fail
        refine (c4 _).mono ?_
        rintro r w' ⟨rfl, rfl⟩
        go_wp2
        go_ret
        exact ⟨rfl, rfl⟩
  · have c2 := fun W => at_out U 0 W h0 (by omega)
    have c4 := fun W => isDig_end 10 W
    have hz : U.data.toList = [] := List.eq_nil_of_length_eq_zero (by rw [← sz_list]; omega)
    rw [hz]
    clear hz
    go_enter Tryz.func42, Tryz.ntmps42
    go_wp2_with fail
    refine (c1 _).mono ?_
    rintro r w' ⟨rfl, rfl⟩
    go_wp2_with fail
    refine (c2 _).mono ?_
    rintro r w' ⟨rfl, rfl⟩
    go_wp2_with fail
    refine (c4 _).mono ?_
    rintro r w' ⟨rfl, rfl⟩
    go_wp2
    go_ret
    exact ⟨rfl, rfl⟩
end Go.Proofs.YtipgipgehnhgkaaGreatDoor

namespace Go.Proofs.YtipgipgehnhgkaaGreatDoor
namespace M

theorem split_at (x : UInt8) (l : List UInt8) : (∀ c ∈ l, c ≠ x) ∨ ∃ D r, l = D ++ x :: r ∧ ∀ c ∈ D, c ≠ x := by
  induction l with
  | nil => left; intro c hc; cases hc
  | cons b l ih =>
    by_cases hb : b = x
    · right; exact ⟨[], l, by rw [hb]; rfl, fun c hc => by cases hc⟩
    · rcases ih with ih | ⟨D, r, rfl, hD⟩
      · left
        intro c hc
        rcases List.mem_cons.1 hc with rfl | hc
        · exact hb
        · exact ih c hc
      · right
        refine ⟨b :: D, r, rfl, ?_⟩
        intro c hc
        rcases List.mem_cons.1 hc with rfl | hc
        · exact hb
        · exact hD c hc
theorem index_no (x : UInt8) (l : List UInt8) (h : ∀ c ∈ l, c ≠ x) : Lib.index l [x] = -1 := by
  induction l with
  | nil => rfl
  | cons b l ih =>
    have hb : b ≠ x := h b (by simp)
    unfold Lib.index
    rw [if_neg (by simp; intro e; exact absurd e.symm hb), ih (fun c hc => h c (by simp [hc]))]
    rfl
theorem index_yes (x : UInt8) (D r : List UInt8) (h : ∀ c ∈ D, c ≠ x) : Lib.index (D ++ x :: r) [x] = D.length := by
  induction D with
  | nil => unfold Lib.index; simp
  | cons b l ih =>
    have hb : b ≠ x := h b (by simp)
    have ih' := ih (fun c hc => h c (by simp [hc]))
    rw [List.cons_append]
    unfold Lib.index
    rw [if_neg (by simp; intro e; exact absurd e.symm hb), ih', if_neg (by simp)]
    simp
theorem cut_no (x : UInt8) (l : List UInt8) (h : ∀ c ∈ l, c ≠ x) : Lib.cut l [x] = (l, [], false) := by
  unfold Lib.cut; rw [index_no x l h, if_neg (by omega)]
theorem cut_yes (x : UInt8) (D r : List UInt8) (h : ∀ c ∈ D, c ≠ x) : Lib.cut (D ++ x :: r) [x] = (D, r, true) := by
  unfold Lib.cut
  rw [index_yes x D r h, if_pos (by omega)]
  simp
theorem gone_no (l : List UInt8) (h : ∀ c ∈ l, c ≠ 95) : gone l = l := by
  unfold gone; rw [List.filter_eq_self]; intro c hc; exact decide_eq_true (h c hc)
theorem gone_eq (r : List UInt8) : gone (95 :: r) = gone r := rfl
theorem gone_ne {c : UInt8} (r : List UInt8) (h : c ≠ 95) : gone (c :: r) = c :: gone r := by
  unfold gone; rw [List.filter_cons_of_pos (by simpa using h)]
theorem mem_gone {c : UInt8} {l : List UInt8} : c ∈ gone l ↔ c ∈ l ∧ c ≠ 95 := by simp [gone]
theorem gone_gone (l : List UInt8) : gone (gone l) = gone l := gone_no _ fun c hc => (mem_gone.1 hc).2
theorem count_cut (n : Nat) : ∀ l : List UInt8, l.length ≤ n → Lib.replaceK [95] [] (Lib.count l [95]) l = gone l := by
  induction n with
  | zero =>
    intro l h
    obtain rfl : l = [] := List.eq_nil_of_length_eq_zero (by omega)
    rw [Lib.count_miss (index_no 95 [] (fun c hc => by cases hc)), Lib.replaceK]; rfl
  | succ n ih =>
    intro l h
    rcases split_at 95 l with hn | ⟨D, r, rfl, hD⟩
    · rw [Lib.count_miss (index_no 95 l hn), Lib.replaceK, gone_no l hn]
    · have hi := index_yes 95 D r hD
      have hc := Lib.count_hit (by simp) hi
      have hd : (D ++ 95 :: r).drop (D.length + [(95 : UInt8)].length) = r := by simp
      rw [hd] at hc
      rw [hc, Nat.add_comm, Lib.replaceK_hit _ _ _ _ _ hi, hd, ih r (by simp at h; omega), gone_append, gone_eq, gone_no D hD]
      simp
theorem replace_gone (l : List UInt8) : Lib.replaceAll l [95] [] = gone l := by
  unfold Lib.replaceAll Lib.replace
  rw [if_neg (by simp)]
  unfold Lib.replaceNum
  rw [if_pos (Or.inl (by omega))]
  exact count_cut l.length l (Nat.le_refl _)

theorem dv95 : dv 95 = 99 := by decide
theorem dv58 : dv 58 = 99 := by decide
theorem ne58 {c : UInt8} {b : Nat} (h : dv c < b) (hb : b ≤ 99) : c ≠ 58 := by intro e; rw [e, dv58] at h; omega
theorem ne95 {c : UInt8} {b : Nat} (h : dv c < b) (hb : b ≤ 99) : c ≠ 95 := by intro e; rw [e, dv95] at h; omega
theorem allD_cons (b : Nat) (c : UInt8) (l : List UInt8) : allD b (c :: l) = (decide (dv c < b) && allD b l) := by simp [allD]
theorem okD_cons (b : Nat) (c : UInt8) (l : List UInt8) : okD b (c :: l) = (decide (dv c < b) && allD b l) := by simp [okD, allD]
theorem fD_eq (b f : Nat) (l : List UInt8) : fD b f l = if allD b (gone l) = true then f else 0 := by
  induction l with
  | nil => rfl
  | cons c l ih =>
    rw [fD]
    by_cases h : c = 95
    · rw [if_pos (Or.inl h), ih, h, gone_eq]
    · rw [gone_ne _ h, allD_cons]
      by_cases hd : dv c < b
      · rw [if_pos (Or.inr hd), ih, decide_eq_true hd, Bool.true_and]
      · rw [if_neg (fun k => k.elim h hd), decide_eq_false hd, Bool.false_and, if_neg (by simp)]
theorem fG_eq (b f : Nat) (l : List UInt8) : fG b f l = if okD b (gone l) = true then f else 0 := by
  induction l with
  | nil => rfl
  | cons c l ih =>
    rw [fG]
    by_cases h : c = 95
    · rw [if_pos h, ih, h, gone_eq]
    · rw [if_neg h, gone_ne _ h, okD_cons]
      by_cases hd : dv c < b
      · rw [if_pos hd, fD_eq, decide_eq_true hd, Bool.true_and]
      · rw [if_neg hd, decide_eq_false hd, Bool.false_and, if_neg (by simp)]
/-- Digits and gaps to the end. -/
theorem fA_no (l : List UInt8) (h : ∀ c ∈ l, c ≠ 58) : fA l = if allD 10 (gone l) = true then 5 else 0 := by
  induction l with
  | nil => rfl
  | cons c l ih =>
    have h58 : c ≠ 58 := h c (by simp)
    have ih' := ih fun x hx => h x (by simp [hx])
    rw [fA]
    by_cases h9 : c = 95
    · rw [if_pos (Or.inl h9), ih', h9, gone_eq]
    · rw [gone_ne _ h9, allD_cons]
      by_cases hd : dv c < 10
      · rw [if_pos (Or.inr hd), ih', decide_eq_true hd, Bool.true_and]
      · rw [if_neg (fun k => k.elim h9 hd), if_neg h58, decide_eq_false hd, Bool.false_and, if_neg (by simp)]
theorem fA_yes (D r : List UInt8) (h : ∀ c ∈ D, c ≠ 58) : fA (D ++ 58 :: r) = if allD 10 (gone D) = true then fS 1 r else 0 := by
  induction D with
  | nil => rw [List.nil_append, fA, if_neg (by decide), if_pos rfl]; rfl
  | cons c l ih =>
    have h58 : c ≠ 58 := h c (by simp)
    have ih' := ih fun x hx => h x (by simp [hx])
    rw [List.cons_append, fA]
    by_cases h9 : c = 95
    · rw [if_pos (Or.inl h9), ih', h9, gone_eq]
    · rw [gone_ne _ h9, allD_cons]
      by_cases hd : dv c < 10
      · rw [if_pos (Or.inr hd), ih', decide_eq_true hd, Bool.true_and]
      · rw [if_neg (fun k => k.elim h9 hd), if_neg h58, decide_eq_false hd, Bool.false_and, if_neg (by simp)]
/-- May these signs be a part to the base 60, behind the first one? -/
def pr : List UInt8 → Bool
  | [a] => decide (dv a < 10)
  | [a, b] => decide (dv a < 6) && decide (dv b < 10)
  | _ => false
theorem pr1 (a : UInt8) : pr [a] = decide (dv a < 10) := rfl
theorem pr2 (a b : UInt8) : pr [a, b] = (decide (dv a < 6) && decide (dv b < 10)) := rfl
theorem pr_facts {P : List UInt8} (h : pr P = true) : okD 10 P = true ∧ P.length ≤ 2 ∧ 0 < P.length ∧ val 10 P < 60 ∧ ∀ c ∈ P, c ≠ 58 := by
  match P, h with
  | [a], h =>
    have h1 : dv a < 10 := by simpa [pr] using h
    refine ⟨by simp [okD, allD, h1], by simp, by simp, by rw [val_one]; omega, ?_⟩
    intro c hc; rw [List.mem_singleton.1 hc]; exact ne58 h1 (by omega)
  | [a, b], h =>
    have h1 : dv a < 6 ∧ dv b < 10 := by simpa [pr] using h
    refine ⟨by simp [okD, allD, h1.2]; omega, by simp, by simp, ?_, ?_⟩
    · rw [val_cons, val_one]; simp; omega
    · intro c hc
      simp at hc
      rcases hc with rfl | rfl
      · exact ne58 h1.1 (by omega)
      · exact ne58 h1.2 (by omega)
theorem fS_yes (P r : List UInt8) (h : ∀ c ∈ P, c ≠ 58) : fS 1 (P ++ 58 :: r) = if pr P = true then fS 1 r else 0 := by
  have e2 : fS 2 (58 :: r) = fS 1 r := by rw [fS2_cons, if_neg (by decide), if_pos rfl]
  have e3 : fS 3 (58 :: r) = fS 1 r := by rw [fS3_cons, if_pos rfl]
  match P, h with
  | [], _ => rw [List.nil_append, fS1_cons, if_neg (by decide), if_neg (by decide)]; rfl
  | [a], _ =>
    show fS 1 (a :: 58 :: r) = _
    rw [fS1_cons, e2, e3]
    rw [pr1]
    by_cases h6 : dv a < 6
    · rw [if_pos h6, if_pos (decide_eq_true (by omega))]
    · by_cases h10 : dv a < 10
      · rw [if_neg h6, if_pos h10, if_pos (decide_eq_true h10)]
      · rw [if_neg h6, if_neg h10, if_neg (by simpa using h10)]
  | [a, b], h =>
    have hb : b ≠ 58 := h b (by simp)
    show fS 1 (a :: b :: 58 :: r) = _
    rw [fS1_cons, fS2_cons, fS3_cons b, e3, if_neg hb]
    rw [pr2]
    by_cases h6 : dv a < 6
    · by_cases h10 : dv b < 10
      · rw [if_pos h6, if_pos h10, decide_eq_true h6, decide_eq_true h10]; rfl
      · rw [if_pos h6, if_neg h10, decide_eq_true h6, decide_eq_false h10]; rfl
    · rw [if_neg h6, decide_eq_false h6]; simp
  | a :: b :: c :: q, h =>
    have hb : b ≠ 58 := h b (by simp)
    have hc : c ≠ 58 := h c (by simp)
    show fS 1 (a :: b :: c :: (q ++ 58 :: r)) = _
    rw [fS1_cons, fS2_cons, fS3_cons b, fS3_cons c, if_neg hb, if_neg hc]
    simp [pr]
theorem fS_no (P : List UInt8) (h : ∀ c ∈ P, c ≠ 58) : fS 1 P = if pr P = true then 6 else 0 := by
  match P, h with
  | [], _ => rfl
  | [a], _ =>
    rw [fS1_cons, fS2_nil, fS3_nil]
    rw [pr1]
    by_cases h6 : dv a < 6
    · rw [if_pos h6, if_pos (decide_eq_true (by omega))]
    · by_cases h10 : dv a < 10
      · rw [if_neg h6, if_pos h10, if_pos (decide_eq_true h10)]
      · rw [if_neg h6, if_neg h10, if_neg (by simpa using h10)]
  | [a, b], h =>
    have hb : b ≠ 58 := h b (by simp)
    rw [fS1_cons, fS2_cons, fS3_cons b, fS3_nil, if_neg hb]
    rw [pr2]
    by_cases h6 : dv a < 6
    · by_cases h10 : dv b < 10
      · rw [if_pos h6, if_pos h10, decide_eq_true h6, decide_eq_true h10]; rfl
      · rw [if_pos h6, if_neg h10, decide_eq_true h6, decide_eq_false h10]; rfl
    · rw [if_neg h6, decide_eq_false h6]; simp
  | a :: b :: c :: q, h =>
    have hb : b ≠ 58 := h b (by simp)
    have hc : c ≠ 58 := h c (by simp)
    rw [fS1_cons, fS2_cons, fS3_cons b, fS3_cons c, if_neg hb, if_neg hc]
    simp [pr]
theorem sx_yes (n : Nat) (D r : List UInt8) (h : ∀ c ∈ D, c ≠ 58) : sx n 0 (D ++ 58 :: r) = sx (n * 60 + val 10 D) 0 r := sx_part D r n 0 h
theorem sx_no (n : Nat) (D : List UInt8) (h : ∀ c ∈ D, c ≠ 58) : sx n 0 D = n * 60 + val 10 D := sx_last D n 0 h
theorem sx_ge (n p : Nat) (l : List UInt8) : n ≤ sx n p l := by
  induction l generalizing n p with
  | nil => rw [sx]; omega
  | cons c l ih =>
    rw [sx]
    split
    · exact Nat.le_trans (by omega) (ih _ _)
    · exact ih _ _
theorem rd_ge (n : Nat) (l : List UInt8) : n ≤ rd n l := by
  unfold rd; split
  · exact Nat.le_refl _
  · exact sx_ge _ _ _
theorem sx_le (n p : Nat) (l : List UInt8) : sx n p l ≤ (n * 60 + p + 1) * 1000 ^ l.length := by
  induction l generalizing n p with
  | nil => rw [sx]; simp
  | cons c l ih =>
    rw [sx, List.length_cons, Nat.pow_succ]
    have hd := dv_le c
    generalize hq : (1000 : Nat) ^ l.length = q at *
    split
    · refine Nat.le_trans (ih _ _) ?_
      rw [Nat.mul_comm q 1000, ← Nat.mul_assoc]
      exact Nat.mul_le_mul_right _ (by omega)
    · refine Nat.le_trans (ih _ _) ?_
      rw [Nat.mul_comm q 1000, ← Nat.mul_assoc]
      exact Nat.mul_le_mul_right _ (by omega)
/-- The number that a body says, by its form. -/
def num (l : List UInt8) : Nat := if fB l = 1 then val 2 ((gone l).drop 2) else if fB l = 2 then val 16 ((gone l).drop 2) else if fB l = 3 then val 8 (gone l) else if fB l = 6 then sx 0 0 (gone l) else val 10 (gone l)
end M
end Go.Proofs.YtipgipgehnhgkaaGreatDoor

namespace Go.Proofs.YtipgipgehnhgkaaGreatDoor
namespace M

theorem step_six (R : List UInt8) (h : fS 1 R = 6) : ∃ P r b, Lib.cut R [58] = (P, r, b) ∧ pr P = true ∧ (r = [] ∨ fS 1 r = 6) ∧ r.length < R.length ∧ ∀ n, rd n R = rd (n * 60 + val 10 P) r := by
  have hne : R ≠ [] := by intro e; rw [e] at h; cases h
  rcases split_at 58 R with hn | ⟨P, r, rfl, hP⟩
  · rw [fS_no R hn] at h
    by_cases hp : pr R = true
    · refine ⟨R, [], false, cut_no 58 R hn, hp, Or.inl rfl, List.length_pos_iff.2 hne, fun n => ?_⟩
      unfold rd
      rw [if_neg hne, if_pos rfl, sx_no n R hn]
    · rw [if_neg hp] at h; cases h
  · rw [fS_yes P r hP] at h
    by_cases hp : pr P = true
    · rw [if_pos hp] at h
      refine ⟨P, r, true, cut_yes 58 P r hP, hp, Or.inr h, by simp; omega, fun n => ?_⟩
      have hr : r ≠ [] := by intro e; rw [e] at h; cases h
      unfold rd
      rw [if_neg hne, if_neg hr, sx_yes n P r hP]
    · rw [if_neg hp] at h; cases h
theorem fS_no95 (R : List UInt8) : ∀ k, fS k R ≠ 0 → ∀ c ∈ R, c ≠ 95 := by
  induction R with
  | nil => intro k h c hc; cases hc
  | cons b R ih =>
    intro k h
    have key : b ≠ 95 ∧ ∃ k', fS k' R ≠ 0 := by
      constructor
      · intro e
        apply h
        rw [e, fS, dv95]
        simp
      · rw [fS] at h
        split at h
        · split at h
          · exact ⟨_, h⟩
          · split at h
            · exact ⟨_, h⟩
            · exact absurd rfl h
        · split at h
          · exact ⟨_, h⟩
          · split at h
            · exact ⟨_, h⟩
            · exact absurd rfl h
    obtain ⟨hb, k', hk⟩ := key
    intro c hc
    rcases List.mem_cons.1 hc with rfl | hc
    · exact hb
    · exact ih k' hk c hc
theorem fS_gone {R : List UInt8} {k : Nat} (h : fS k R ≠ 0) : gone R = R := gone_no R (fS_no95 R k h)
theorem dv_lt_allD {b b' : Nat} (h : b ≤ b') {l : List UInt8} (hl : allD b l = true) : allD b' l = true := by
  rw [allD_iff] at hl ⊢
  intro c hc; exact Nat.lt_of_lt_of_le (hl c hc) h
/-- What each form's body is. -/
def IsForm (U : List UInt8) : Prop :=
  (∃ r, fB U = 1 ∧ gone U = 48 :: 98 :: r ∧ okD 2 r = true) ∨
  (∃ r, fB U = 2 ∧ gone U = 48 :: 120 :: r ∧ okD 16 r = true) ∨
  (fB U = 3 ∧ okD 8 (gone U) = true) ∨
  (fB U = 4 ∧ U = [48]) ∨
  (fB U = 5 ∧ okD 10 (gone U) = true ∧ (gone U).head? ≠ some 48) ∨
  (∃ D R, fB U = 6 ∧ gone U = D ++ 58 :: R ∧ okD 10 D = true ∧ D.head? ≠ some 48 ∧ fS 1 R = 6)
theorem isForm (U : List UInt8) (h : fB U ≠ 0) : IsForm U := by
  match U, h with
  | [], h => exact absurd rfl h
  | c :: r, h =>
    by_cases h48 : c = 48
    · subst h48
      have hB : fB (48 :: r) = fN r := by rw [fB, if_pos rfl]
      rw [hB] at h
      match r, h, hB with
      | [], _, hB => exact Or.inr (Or.inr (Or.inr (Or.inl ⟨hB, rfl⟩)))
      | d :: q, h, hB =>
        rw [fN] at h hB
        by_cases h98 : d = 98
        · subst h98
          rw [if_pos rfl, fG_eq] at h hB
          by_cases hd : okD 2 (gone q) = true
          · rw [if_pos hd] at hB
            exact Or.inl ⟨gone q, hB, by rw [gone_ne _ (by decide), gone_ne _ (by decide)], hd⟩
          · rw [if_neg hd] at h; exact absurd rfl h
        · by_cases h120 : d = 120
          · subst h120
            rw [if_neg h98, if_pos rfl, fG_eq] at h hB
            by_cases hd : okD 16 (gone q) = true
            · rw [if_pos hd] at hB
              exact Or.inr (Or.inl ⟨gone q, hB, by rw [gone_ne _ (by decide), gone_ne _ (by decide)], hd⟩)
            · rw [if_neg hd] at h; exact absurd rfl h
          · rw [if_neg h98, if_neg h120, fG_eq] at h hB
            by_cases hd : okD 8 (gone (d :: q)) = true
            · rw [if_pos hd] at hB
              refine Or.inr (Or.inr (Or.inl ⟨hB, ?_⟩))
              rw [gone_ne _ (by decide), okD_cons, ((okD_iff _ _).1 hd).2]; rfl
            · rw [if_neg hd] at h; exact absurd rfl h
    · by_cases hd : dv c < 10
      · have h95 : c ≠ 95 := ne95 hd (by omega)
        have hB : fB (c :: r) = fA r := by rw [fB, if_neg h48, if_pos hd]
        rw [hB] at h
        rcases split_at 58 r with hn | ⟨D, R, rfl, hD⟩
        · rw [fA_no r hn] at h hB
          by_cases ha : allD 10 (gone r) = true
          · rw [if_pos ha] at hB
            refine Or.inr (Or.inr (Or.inr (Or.inr (Or.inl ⟨hB, ?_, ?_⟩))))
            · rw [gone_ne _ h95, okD_cons, ha, decide_eq_true hd]; rfl
            · rw [gone_ne _ h95]; simpa using h48
          · rw [if_neg ha] at h; exact absurd rfl h
        · rw [fA_yes D R hD] at h hB
          by_cases ha : allD 10 (gone D) = true
          · rw [if_pos ha] at h hB
            have h6 : fS 1 R = 6 := by
              have key : ∀ (R : List UInt8) k, fS k R = 0 ∨ fS k R = 6 := by
                intro R
                induction R with
                | nil => intro k; rw [fS]; split; exact Or.inl rfl; exact Or.inr rfl
                | cons b R ih =>
                  intro k
                  rw [fS]
                  split
                  · split
                    · exact ih _
                    · split
                      · exact ih _
                      · exact Or.inl rfl
                  · split
                    · exact ih _
                    · split
                      · exact ih _
                      · exact Or.inl rfl
              rcases key R 1 with h0 | h6
              · exact absurd h0 h
              · exact h6
            refine Or.inr (Or.inr (Or.inr (Or.inr (Or.inr ⟨c :: gone D, R, hB.trans h6, ?_, ?_, by simpa using h48, h6⟩))))
            · rw [gone_ne _ h95, gone_append, gone_ne _ (by decide), fS_gone h]; rfl
            · rw [okD_cons, ha, decide_eq_true hd]; rfl
          · rw [if_neg ha] at h; exact absurd rfl h
      · exact absurd (by rw [fB, if_neg h48, if_neg hd]) h
theorem pow_le {a b c d : Nat} (h1 : a ≤ b) (h2 : c ≤ d) (hb : 0 < b) : a ^ c ≤ b ^ d :=
  Nat.le_trans (Nat.pow_le_pow_left h1 c) (Nat.pow_le_pow_right hb h2)
theorem six_lt (D R : List UInt8) (hd : allD 10 D = true) : sx (val 10 D) 0 R < 10 ^ (D.length + 2 + 3 * R.length) := by
  have h1 := sx_le (val 10 D) 0 R
  have h2 := val_lt 10 D hd
  have e : (10 : Nat) ^ (D.length + 2 + 3 * R.length) = 10 ^ D.length * 100 * 1000 ^ R.length := by
    rw [Nat.pow_add, Nat.pow_add, Nat.pow_mul]
  rw [e]
  refine Nat.lt_of_le_of_lt h1 (Nat.mul_lt_mul_of_pos_right ?_ (Nat.pow_pos (by omega)))
  omega
end M
end Go.Proofs.YtipgipgehnhgkaaGreatDoor
