/- Plain mathematics: decimals, their parts and their texts. -/
import Derived.Test.YtomgbcgaokebjaaDoorMq
namespace Go.Proofs.YtomgbcgaokebjaaDoor
namespace M
/-- So many noughts. -/
abbrev zs (n : Nat) : List UInt8 := List.replicate n 48
theorem zs_snoc (n : Nat) : zs n ++ [48] = zs (n + 1) := (List.replicate_succ').symm
theorem val_zs (n : Nat) : val 10 (zs n) = 0 := by
  induction n with
  | zero => rfl
  | succ n ih => rw [← zs_snoc, val_snoc, ih]; decide
theorem all_zs (n : Nat) : allD 10 (zs n) = true := by
  rw [allD_iff]; intro c hc; rw [(List.mem_replicate.1 hc).2]; decide
theorem val_lead (n : Nat) (l : List UInt8) : val 10 (zs n ++ l) = val 10 l := by rw [val_append, val_zs, Nat.zero_mul, Nat.zero_add]
theorem val_trail (n : Nat) (l : List UInt8) : val 10 (l ++ zs n) = val 10 l * 10 ^ n := by rw [val_append, val_zs, Nat.add_zero, List.length_replicate]
theorem dg_pow (c t : Nat) (hc : 0 < c) : dg (c * 10 ^ t) = dg c ++ zs t := by
  induction t with
  | zero => simp
  | succ t ih =>
    have hp : 0 < c * 10 ^ t := Nat.mul_pos hc (Nat.pow_pos (by omega))
    have h := dg_snoc (c * 10 ^ t) 0 hp (by omega)
    rw [Nat.add_zero, Nat.mul_assoc, ← Nat.pow_succ] at h
    rw [h, ih, ← zs_snoc, List.append_assoc]; rfl
theorem dg_last (c : Nat) : ∃ r : List UInt8, dg c = r ++ [UInt8.ofNat (48 + c % 10)] := by
  by_cases h : c < 10
  · exact ⟨[], by rw [dg_small h, Nat.mod_eq_of_lt h]; rfl⟩
  · exact ⟨_, dg_big h⟩
theorem last_ne (c : Nat) (h : c % 10 ≠ 0) : (UInt8.ofNat (48 + c % 10)) ≠ 48 := by
  intro e
  have := congrArg UInt8.toNat e
  simp at this
  omega
/-- Digits in parts: noughts alone, or noughts, a number that does not end with a nought, noughts. -/
theorem parts (l : List UInt8) (h : allD 10 l = true) : l = zs l.length ∨ ∃ m c t : Nat, c % 10 ≠ 0 ∧ l = zs m ++ (dg c ++ zs t) := by
  induction l using snoc_ind with
  | h1 => exact Or.inl rfl
  | h2 l x ih =>
    rw [allD_snoc, Bool.and_eq_true, decide_eq_true_eq] at h
    have hx := dv_lt10 h.2
    have hxe := ofNat_of_dv h.2
    rcases ih h.1 with hz | ⟨m, c, t, hc, he⟩
    · by_cases h0 : dv x = 0
      · left
        have : x = 48 := by rw [← hxe, h0]; rfl
        rw [this, List.length_append, List.length_cons, List.length_nil, ← zs_snoc, ← hz]
      · right
        refine ⟨l.length, dv x, 0, by rw [Nat.mod_eq_of_lt h.2]; exact h0, ?_⟩
        rw [dg_small h.2, hxe, ← hz]; simp
    · right
      have hcp : 0 < c := by rcases Nat.eq_zero_or_pos c with h | h; rw [h] at hc; exact absurd rfl hc; exact h
      by_cases h0 : dv x = 0
      · have : x = 48 := by rw [← hxe, h0]; rfl
        refine ⟨m, c, t + 1, hc, ?_⟩
        rw [he, this, ← zs_snoc]; simp only [List.append_assoc]
      · have hp : 0 < c * 10 ^ t := Nat.mul_pos hcp (Nat.pow_pos (by omega))
        refine ⟨m, c * 10 ^ t * 10 + dv x, 0, by omega, ?_⟩
        rw [dg_snoc _ _ hp h.2, dg_pow c t hcp, hxe, he]; simp
theorem parts_val {l : List UInt8} {m c t : Nat} (h : l = zs m ++ (dg c ++ zs t)) : val 10 l = c * 10 ^ t := by
  rw [h, val_lead, val_trail, dg_val]
theorem c_pos {c : Nat} (hc : c % 10 ≠ 0) : 0 < c := by
  rcases Nat.eq_zero_or_pos c with h | h
  · rw [h] at hc; exact absurd rfl hc
  · exact h
theorem ct_pos {c : Nat} (t : Nat) (hc : c % 10 ≠ 0) : 0 < c * 10 ^ t := Nat.mul_pos (c_pos hc) (Nat.pow_pos (by omega))
/-- The parts are one's own. -/
theorem ct_uniq {c t c' t' : Nat} (hc : c % 10 ≠ 0) (hc' : c' % 10 ≠ 0) (h : c * 10 ^ t = c' * 10 ^ t') : c = c' ∧ t = t' := by
  induction t generalizing t' with
  | zero =>
    match t' with
    | 0 => simp at h; exact ⟨h, rfl⟩
    | t' + 1 =>
      rw [Nat.pow_succ, ← Nat.mul_assoc] at h
      simp at h
      omega
  | succ t ih =>
    match t' with
    | 0 =>
      rw [Nat.pow_succ, ← Nat.mul_assoc] at h
      simp at h
      omega
    | t' + 1 =>
      rw [Nat.pow_succ, Nat.pow_succ, ← Nat.mul_assoc, ← Nat.mul_assoc] at h
      have := ih (t' := t') (by omega)
      exact ⟨this.1, by omega⟩
theorem exists_ct (v : Nat) (h : 0 < v) : ∃ c t, c % 10 ≠ 0 ∧ v = c * 10 ^ t := by
  rcases parts (dg v) (dg_all v) with hz | ⟨m, c, t, hc, he⟩
  · have := dg_val v
    rw [hz, val_zs] at this; omega
  · exact ⟨c, t, hc, by rw [← parts_val he, dg_val]⟩
theorem zs_of_val {l : List UInt8} (h : allD 10 l = true) (hv : val 10 l = 0) : l = zs l.length := by
  rcases parts l h with hz | ⟨m, c, t, hc, he⟩
  · exact hz
  · have := parts_val he
    have := ct_pos t hc
    omega
theorem ct_of_val {l : List UInt8} {c t : Nat} (h : allD 10 l = true) (hc : c % 10 ≠ 0) (hv : val 10 l = c * 10 ^ t) : ∃ m, l = zs m ++ (dg c ++ zs t) := by
  rcases parts l h with hz | ⟨m, c', t', hc', he⟩
  · have := ct_pos t hc
    rw [hz, val_zs] at hv; omega
  · obtain ⟨rfl, rfl⟩ := ct_uniq hc hc' (hv.symm.trans (parts_val he))
    exact ⟨m, he⟩
theorem dg_inj {a b : Nat} (h : dg a = dg b) : a = b := by rw [← dg_val a, h, dg_val]

/-- May it be? -/
def decB (k : Int) (n : Bool) (D E : List UInt8) : Bool :=
  if k = 0 then (if D = [48] then decide (E = [48]) else okD 10 D && decide (D.head? ≠ some 48) && decide (D.getLast? ≠ some 48) && goodB E)
  else if k = 1 then decide (D = []) && decide (E = [])
  else if k = 2 then decide (D = []) && decide (E = []) && !n
  else false
def mns (n : Bool) : List UInt8 := if n then [45] else []
def pls (E : List UInt8) : List UInt8 := if isNeg E = true then [] else [43]
/-- Its text. -/
def prt (k : Int) (n : Bool) (D E : List UInt8) : List UInt8 :=
  if k = 1 then mns n ++ [46, 105, 110, 102] else if k = 2 then [46, 110, 97, 110] else mns n ++ (D ++ (46 :: 101 :: (pls E ++ E)))
/-- What is printed. -/
def out (k : Int) (n : Bool) (D E : List UInt8) : List UInt8 := if decB k n D E = true then prt k n D E else []
theorem dg_core_head (c : Nat) (hc : c % 10 ≠ 0) : (dg c).head? ≠ some 48 := by
  obtain ⟨x, r, e, k, _⟩ := dg_head c (c_pos hc)
  rw [e]; simp; intro h; rw [h] at k; exact k rfl
theorem dg_core_last (c : Nat) (hc : c % 10 ≠ 0) : (dg c).getLast? ≠ some 48 := by
  obtain ⟨r, e⟩ := dg_last c
  rw [e, List.getLast?_append]
  intro h
  exact last_ne c hc (Option.some.inj h)
theorem dg_core_ne (c : Nat) (hc : c % 10 ≠ 0) : dg c ≠ [48] := by
  intro h; exact dg_core_head c hc (by rw [h]; rfl)
theorem decB_zero (n : Bool) : decB 0 n [48] [48] = true := by cases n <;> decide
theorem decB_fin (n : Bool) (c : Nat) (z : Int) (hc : c % 10 ≠ 0) : decB 0 n (dg c) (txt z) = true := by
  unfold decB
  rw [if_pos rfl, if_neg (dg_core_ne c hc), dg_ok, good_txt, decide_eq_true (dg_core_head c hc), decide_eq_true (dg_core_last c hc)]; rfl
theorem decB_inf (n : Bool) : decB 1 n [] [] = true := by cases n <;> decide
theorem decB_nan : decB 2 false [] [] = true := by decide
theorem zs_head {m : Nat} {r : List UInt8} (h : (zs m ++ r).head? ≠ some 48) : m = 0 := by
  match m with
  | 0 => rfl
  | m + 1 => exact absurd (by simp [zs, List.replicate_succ]) h
theorem zs_last {t : Nat} {r : List UInt8} (h : (r ++ zs t).getLast? ≠ some 48) : t = 0 := by
  match t with
  | 0 => rfl
  | t + 1 => exact absurd (by rw [← zs_snoc, ← List.append_assoc]; simp) h
theorem core_of (D : List UInt8) (h : okD 10 D = true) (h1 : D.head? ≠ some 48) (h2 : D.getLast? ≠ some 48) : ∃ c, c % 10 ≠ 0 ∧ D = dg c := by
  obtain ⟨hne, ha⟩ := (okD_iff _ _).1 h
  rcases parts D ha with hz | ⟨m, c, t, hc, he⟩
  · exfalso
    match D, hne with
    | x :: r, _ => rw [hz] at h1; exact h1 (by simp [zs, List.replicate_succ])
  · rw [he] at h1 h2
    have hm := zs_head h1
    rw [← List.append_assoc] at h2
    have ht := zs_last h2
    subst hm ht
    exact ⟨c, hc, by rw [he]; simp⟩
/-- What may be, one by one. -/
theorem decB_cases {k : Int} {n : Bool} {D E : List UInt8} (h : decB k n D E = true) :
    (k = 0 ∧ D = [48] ∧ E = [48]) ∨ (k = 0 ∧ ∃ c z, c % 10 ≠ 0 ∧ D = dg c ∧ E = txt z) ∨ (k = 1 ∧ D = [] ∧ E = []) ∨ (k = 2 ∧ n = false ∧ D = [] ∧ E = []) := by
  unfold decB at h
  by_cases h0 : k = 0
  · rw [if_pos h0] at h
    by_cases hd : D = [48]
    · rw [if_pos hd] at h
      exact Or.inl ⟨h0, hd, of_decide_eq_true h⟩
    · rw [if_neg hd] at h
      simp only [Bool.and_eq_true, decide_eq_true_eq] at h
      obtain ⟨c, hc, e⟩ := core_of D h.1.1.1 h.1.1.2 h.1.2
      obtain ⟨z, hz⟩ := txt_of_good h.2
      exact Or.inr (Or.inl ⟨h0, c, z, hc, e, hz⟩)
  · rw [if_neg h0] at h
    by_cases h1 : k = 1
    · rw [if_pos h1] at h
      simp only [Bool.and_eq_true, decide_eq_true_eq] at h
      exact Or.inr (Or.inr (Or.inl ⟨h1, h.1, h.2⟩))
    · rw [if_neg h1] at h
      by_cases h2 : k = 2
      · rw [if_pos h2] at h
        simp only [Bool.and_eq_true, decide_eq_true_eq, Bool.not_eq_true'] at h
        exact Or.inr (Or.inr (Or.inr ⟨h2, h.2, h.1.1, h.1.2⟩))
      · rw [if_neg h2] at h; cases h
theorem prt_ne (k : Int) (n : Bool) (D E : List UInt8) : prt k n D E ≠ [] := by
  unfold prt
  split
  · simp
  · split
    · simp
    · simp
theorem out_yes {k : Int} {n : Bool} {D E : List UInt8} (h : decB k n D E = true) : out k n D E = prt k n D E := by unfold out; rw [if_pos h]
theorem out_no {k : Int} {n : Bool} {D E : List UInt8} (h : decB k n D E = false) : out k n D E = [] := by unfold out; rw [if_neg (by rw [h]; simp)]
end M
end Go.Proofs.YtomgbcgaokebjaaDoor
