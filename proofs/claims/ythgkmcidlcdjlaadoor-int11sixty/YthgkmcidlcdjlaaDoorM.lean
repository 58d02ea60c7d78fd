/- Plain mathematics: digits, their values, decimal texts of whole numbers. -/
import Derived.Lib.ItoaNum
import Derived.Lib.ItoaMem
namespace Go.Proofs.YthgkmcidlcdjlaaDoor
namespace M

theorem snoc_ind {α : Type} {P : List α → Prop} (h1 : P []) (h2 : ∀ l c, P l → P (l ++ [c])) : ∀ l, P l := by
  intro l
  have h : ∀ r : List α, P r.reverse := by
    intro r
    induction r with
    | nil => exact h1
    | cons c r ih => rw [List.reverse_cons]; exact h2 _ _ ih
  have := h l.reverse
  rwa [List.reverse_reverse] at this

/-- What a digit is worth; 99: it is none. -/
def dv (c : UInt8) : Nat := if 48 ≤ c.toNat ∧ c.toNat ≤ 57 then c.toNat - 48 else if 97 ≤ c.toNat ∧ c.toNat ≤ 102 then c.toNat - 87 else if 65 ≤ c.toNat ∧ c.toNat ≤ 70 then c.toNat - 55 else 99
theorem dv_le (c : UInt8) : dv c ≤ 99 := by unfold dv; split; omega; split; omega; split; omega; omega
theorem dv_lt10 {c : UInt8} (h : dv c < 10) : 48 ≤ c.toNat ∧ c.toNat ≤ 57 ∧ dv c = c.toNat - 48 := by
  unfold dv at h ⊢
  split at h
  · rename_i k; rw [if_pos k]; omega
  · split at h
    · omega
    · split at h <;> omega
theorem dv_dec {c : UInt8} (h1 : 48 ≤ c.toNat) (h2 : c.toNat ≤ 57) : dv c = c.toNat - 48 := by unfold dv; rw [if_pos ⟨h1, h2⟩]
theorem dv_dig (n : Nat) (h : n < 10) : dv (UInt8.ofNat (48 + n)) = n := by
  have e : (UInt8.ofNat (48 + n)).toNat = 48 + n := by simp; omega
  rw [dv_dec (by omega) (by omega)]; omega

def val (b : Nat) (l : List UInt8) : Nat := l.foldl (fun n c => n * b + dv c) 0
theorem val_nil (b : Nat) : val b [] = 0 := rfl
theorem val_snoc (b : Nat) (l : List UInt8) (c : UInt8) : val b (l ++ [c]) = val b l * b + dv c := by simp [val]
theorem val_one (b : Nat) (c : UInt8) : val b [c] = dv c := by simp [val]
theorem val_append (b : Nat) (l m : List UInt8) : val b (l ++ m) = val b l * b ^ m.length + val b m := by
  induction m using snoc_ind generalizing l with
  | h1 => simp [val]
  | h2 m c ih =>
    rw [← List.append_assoc, val_snoc, ih, val_snoc, List.length_append]
    simp only [List.length_cons, List.length_nil, Nat.zero_add, Nat.pow_succ, Nat.add_mul, Nat.mul_assoc]
    omega
theorem val_cons (b : Nat) (c : UInt8) (m : List UInt8) : val b (c :: m) = dv c * b ^ m.length + val b m := by
  have := val_append b [c] m
  rw [val_one] at this; exact this

def allD (b : Nat) (l : List UInt8) : Bool := l.all fun c => decide (dv c < b)
theorem allD_snoc (b : Nat) (l : List UInt8) (c : UInt8) : allD b (l ++ [c]) = (allD b l && decide (dv c < b)) := by simp [allD]
theorem allD_append (b : Nat) (l m : List UInt8) : allD b (l ++ m) = (allD b l && allD b m) := by simp [allD]
theorem allD_iff (b : Nat) (l : List UInt8) : allD b l = true ↔ ∀ c ∈ l, dv c < b := by simp [allD]
def okD (b : Nat) (l : List UInt8) : Bool := !l.isEmpty && allD b l
theorem okD_iff (b : Nat) (l : List UInt8) : okD b l = true ↔ l ≠ [] ∧ allD b l = true := by simp [okD]

theorem val_lt (b : Nat) (l : List UInt8) (h : allD b l = true) : val b l < b ^ l.length := by
  induction l using snoc_ind with
  | h1 => simp [val]
  | h2 l c ih =>
    rw [allD_snoc, Bool.and_eq_true, decide_eq_true_eq] at h
    have := ih h.1
    rw [val_snoc, List.length_append, List.length_cons, List.length_nil, Nat.zero_add, Nat.pow_succ]
    have h2 : (val b l + 1) * b ≤ b ^ l.length * b := Nat.mul_le_mul_right _ this
    rw [Nat.add_mul] at h2
    omega

abbrev dg := Lib.decDigits
theorem dg_small {n : Nat} (h : n < 10) : dg n = [UInt8.ofNat (48 + n)] := by unfold dg; rw [Lib.decDigits, dif_pos h]
theorem dg_big {n : Nat} (h : ¬ n < 10) : dg n = dg (n / 10) ++ [UInt8.ofNat (48 + n % 10)] := by unfold dg; rw [Lib.decDigits, dif_neg h]
theorem dg_snoc (n d : Nat) (hn : 0 < n) (hd : d < 10) : dg (n * 10 + d) = dg n ++ [UInt8.ofNat (48 + d)] := by
  rw [dg_big (by omega)]
  congr 2
  · congr 1; omega
  · congr 2; omega
theorem dg_ind {P : Nat → Prop} (h1 : ∀ n, n < 10 → P n) (h2 : ∀ n, ¬ n < 10 → P (n / 10) → P n) : ∀ n, P n := by
  intro n
  induction n using Nat.strongRecOn with
  | ind n ih =>
    by_cases h : n < 10
    · exact h1 n h
    · exact h2 n h (ih _ (by omega))
theorem dg_ne (n : Nat) : dg n ≠ [] := by
  by_cases h : n < 10
  · rw [dg_small h]; simp
  · rw [dg_big h]; simp
theorem dg_all (n : Nat) : allD 10 (dg n) = true := by
  induction n using dg_ind with
  | h1 n h => rw [dg_small h, allD_iff]; intro c hc; rw [List.mem_singleton.1 hc, dv_dig n h]; exact h
  | h2 n h ih => rw [dg_big h, allD_snoc, ih, dv_dig _ (by omega)]; simp; omega
theorem dg_val (n : Nat) : val 10 (dg n) = n := by
  induction n using dg_ind with
  | h1 n h => rw [dg_small h, val_one, dv_dig n h]
  | h2 n h ih => rw [dg_big h, val_snoc, ih, dv_dig _ (by omega)]; omega
theorem dg_ok (n : Nat) : okD 10 (dg n) = true := (okD_iff _ _).2 ⟨dg_ne n, dg_all n⟩
theorem dg_len_pos (n : Nat) : 0 < (dg n).length := List.length_pos_iff.2 (dg_ne n)
theorem dg_len_le (n k : Nat) (hk : 0 < k) (h : n < 10 ^ k) : (dg n).length ≤ k := by
  induction n using dg_ind generalizing k with
  | h1 n hn => rw [dg_small hn]; exact hk
  | h2 n hn ih =>
    rw [dg_big hn, List.length_append]
    match k, hk with
    | k + 1, _ =>
      have h' : n / 10 < 10 ^ k := by rw [Nat.pow_succ] at h; omega
      have hk' : 0 < k := by
        rcases Nat.eq_zero_or_pos k with rfl | hp
        · simp at h'; omega
        · exact hp
      have := ih k hk' h'
      simp; omega
theorem dg_lt (n : Nat) : n < 10 ^ (dg n).length := by
  have := val_lt 10 (dg n) (dg_all n)
  rwa [dg_val] at this
theorem dg_ge (n : Nat) (h : 0 < n) : 10 ^ ((dg n).length - 1) ≤ n := by
  induction n using dg_ind with
  | h1 n hn => rw [dg_small hn]; exact h
  | h2 n hn ih =>
    have := ih (by omega)
    have hp := dg_len_pos (n / 10)
    rw [dg_big hn, List.length_append, List.length_cons, List.length_nil, Nat.zero_add, Nat.add_sub_cancel]
    obtain ⟨m, hm⟩ : ∃ m, (dg (n / 10)).length = m + 1 := ⟨(dg (n / 10)).length - 1, by omega⟩
    rw [hm] at this ⊢
    rw [Nat.add_sub_cancel] at this
    rw [Nat.pow_succ]
    omega
theorem dg_head (n : Nat) (h : 0 < n) : ∃ c r, dg n = c :: r ∧ c.toNat ≠ 48 ∧ 48 ≤ c.toNat ∧ c.toNat ≤ 57 := by
  induction n using dg_ind with
  | h1 n hn => exact ⟨_, [], dg_small hn, by simp; omega, by simp; omega, by simp; omega⟩
  | h2 n hn ih =>
    obtain ⟨c, r, e, k⟩ := ih (by omega)
    exact ⟨c, r ++ [UInt8.ofNat (48 + n % 10)], by rw [dg_big hn, e]; rfl, k⟩
theorem dg_zero : dg 0 = [48] := by rw [dg_small (by omega)]; rfl

def strip (l : List UInt8) : List UInt8 := l.dropWhile (· == 48)
theorem strip_append (l m : List UInt8) : strip (l ++ m) = if strip l = [] then strip m else strip l ++ m := by
  unfold strip
  rw [List.dropWhile_append]
  simp
theorem ofNat_of_dv {c : UInt8} (h : dv c < 10) : UInt8.ofNat (48 + dv c) = c := by
  have := dv_lt10 h
  apply UInt8.toNat_inj.1
  simp
  omega
theorem strip_all (l : List UInt8) (h : allD 10 l = true) : strip l = if val 10 l = 0 then [] else dg (val 10 l) := by
  induction l using snoc_ind with
  | h1 => simp [strip, val]
  | h2 l c ih =>
    rw [allD_snoc, Bool.and_eq_true, decide_eq_true_eq] at h
    have hl := ih h.1
    rw [strip_append, hl, val_snoc]
    by_cases hz : val 10 l = 0
    · rw [if_pos hz, if_pos rfl, hz, Nat.zero_mul, Nat.zero_add]
      have hd := dv_lt10 h.2
      by_cases h0 : dv c = 0
      · rw [if_pos h0]
        have : c = 48 := UInt8.toNat_inj.1 (by simp; omega)
        rw [this]; rfl
      · rw [if_neg h0, dg_small h.2, ofNat_of_dv h.2]
        have : ¬ c = 48 := by intro e; rw [e] at h0; exact h0 (by decide)
        simp [strip, this]
    · rw [if_neg hz, if_neg (dg_ne _), if_neg (by omega), dg_snoc _ _ (by omega) h.2, ofNat_of_dv h.2]

/-- A whole number's text. -/
def txt (z : Int) : List UInt8 := if z < 0 then 45 :: dg z.natAbs else dg z.toNat
theorem txt_nat (n : Nat) : txt (n : Int) = dg n := by unfold txt; rw [if_neg (by omega)]; rfl
theorem txt_neg (n : Nat) (h : 0 < n) : txt (-(n : Int)) = 45 :: dg n := by unfold txt; rw [if_pos (by omega)]; simp
theorem txt_zero : txt 0 = [48] := dg_zero
def sgn (neg : Bool) (n : Nat) : Int := if neg then -(n : Int) else n
theorem txt_sgn (neg : Bool) (n : Nat) (h : 0 < n) : txt (sgn neg n) = if neg then 45 :: dg n else dg n := by
  cases neg
  · exact txt_nat n
  · exact txt_neg n h
theorem sgn_zero (neg : Bool) : sgn neg 0 = 0 := by cases neg <;> rfl

def isNeg (l : List UInt8) : Bool := decide (l.head? = some 45)
def unsign (l : List UInt8) : List UInt8 := if isNeg l = true then l.tail else l
def goodB (l : List UInt8) : Bool := decide (l = [48]) || (okD 10 (unsign l) && decide (unsign l ≠ [] ∧ (unsign l).head? ≠ some 48))
theorem isNeg_dg (n : Nat) : isNeg (dg n) = false := by
  have h := dg_all n
  obtain ⟨c, r, e⟩ := List.exists_cons_of_ne_nil (dg_ne n)
  rw [e] at h ⊢
  have h' := dv_lt10 (((allD_iff _ _).1 h) c (by simp))
  unfold isNeg
  simp
  intro k; rw [k] at h'; exact absurd h'.1 (by decide)
theorem isNeg_cons (l : List UInt8) : isNeg (45 :: l) = true := by simp [isNeg]
theorem unsign_dg (n : Nat) : unsign (dg n) = dg n := by unfold unsign; rw [isNeg_dg]; rfl
theorem unsign_cons (l : List UInt8) : unsign (45 :: l) = l := by unfold unsign; rw [isNeg_cons]; rfl
theorem txt_isNeg (z : Int) : isNeg (txt z) = decide (z < 0) := by
  unfold txt
  by_cases h : z < 0
  · rw [if_pos h, isNeg_cons, decide_eq_true h]
  · rw [if_neg h, isNeg_dg, decide_eq_false h]
theorem txt_unsign (z : Int) : unsign (txt z) = dg z.natAbs := by
  unfold txt
  by_cases h : z < 0
  · rw [if_pos h, unsign_cons]
  · rw [if_neg h, unsign_dg]; congr 1; omega
theorem goodB_dg_pos (n : Nat) (h : 0 < n) : (okD 10 (dg n) && decide (dg n ≠ [] ∧ (dg n).head? ≠ some 48)) = true := by
  rw [dg_ok, Bool.true_and, decide_eq_true_eq]
  refine ⟨dg_ne n, ?_⟩
  obtain ⟨c, r, e, k, _⟩ := dg_head n h
  rw [e]
  simp
  intro k'; rw [k'] at k; exact k rfl
theorem good_txt (z : Int) : goodB (txt z) = true := by
  by_cases h : z = 0
  · rw [h, txt_zero]; decide
  · unfold goodB
    rw [txt_unsign, goodB_dg_pos _ (by omega), Bool.or_true]
theorem strip_self {l : List UInt8} (h : l.head? ≠ some 48) : strip l = l := by
  match l with
  | [] => rfl
  | c :: r =>
    have : ¬ c = 48 := by intro e; exact h (by simp [e])
    simp [strip, this]
theorem dg_of (l : List UInt8) (h1 : okD 10 l = true) (h2 : l ≠ [] ∧ l.head? ≠ some 48) : 0 < val 10 l ∧ l = dg (val 10 l) := by
  have h := strip_all l ((okD_iff _ _).1 h1).2
  rw [strip_self h2.2] at h
  by_cases hz : val 10 l = 0
  · rw [if_pos hz] at h; exact absurd h h2.1
  · rw [if_neg hz] at h; exact ⟨by omega, h⟩
theorem isNeg_split (l : List UInt8) (h : isNeg l = true) : l = 45 :: unsign l := by
  unfold unsign
  rw [if_pos h]
  match l, h with
  | c :: r, h => simp [isNeg] at h; simp [h]
theorem txt_of_good {l : List UInt8} (h : goodB l = true) : ∃ z : Int, l = txt z := by
  unfold goodB at h
  rw [Bool.or_eq_true, Bool.and_eq_true, decide_eq_true_eq, decide_eq_true_eq] at h
  rcases h with h | ⟨h1, h2⟩
  · exact ⟨0, by rw [h, txt_zero]⟩
  · obtain ⟨hp, he⟩ := dg_of _ h1 h2
    by_cases hn : isNeg l = true
    · refine ⟨-(val 10 (unsign l) : Nat), ?_⟩
      rw [txt_neg _ hp, ← he]; exact isNeg_split l hn
    · refine ⟨(val 10 (unsign l) : Nat), ?_⟩
      rw [txt_nat, ← he]; unfold unsign; rw [if_neg hn]
theorem txt_ne (z : Int) : txt z ≠ [] := by unfold txt; split; simp; exact dg_ne _
theorem txt_inj {a b : Int} (h : txt a = txt b) : a = b := by
  have h1 := congrArg isNeg h
  have h2 := congrArg (fun l => val 10 (unsign l)) h
  simp only [txt_unsign, dg_val] at h2
  rw [txt_isNeg, txt_isNeg, decide_eq_decide] at h1
  omega
theorem txt_len (z : Int) (k : Nat) (hk : 0 < k) (h : z.natAbs < 10 ^ k) : (txt z).length ≤ k + 1 := by
  have := dg_len_le z.natAbs k hk h
  unfold txt
  split
  · simp; omega
  · rw [show z.toNat = z.natAbs by omega]; omega
theorem txt_abs (z : Int) : z.natAbs < 10 ^ (txt z).length := by
  have h := dg_lt z.natAbs
  have h2 : (dg z.natAbs).length ≤ (txt z).length := by
    unfold txt
    split
    · simp
    · rw [show z.toNat = z.natAbs by omega]; omega
  exact Nat.lt_of_lt_of_le h (Nat.pow_le_pow_right (by omega) h2)
end M
end Go.Proofs.YthgkmcidlcdjlaaDoor
