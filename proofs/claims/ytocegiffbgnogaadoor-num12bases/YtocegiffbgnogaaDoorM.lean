/- Plain mathematics: digits, their values, decimal texts of whole numbers. Plain mathematics: the forms of the old schema's whole numbers, read sign by sign. Plain mathematics: numbers in pieces of seven digits, the lowest piece first. Plain mathematics: which number is less, by its digits; a number taken away digit by digit. Plain mathematics: decimals, their parts and their texts. -/
import Derived.Lib.ItoaNum
import Derived.Lib.ItoaMem
set_option linter.unusedVariables false
namespace Go.Proofs.YtocegiffbgnogaaDoor
namespace M

theorem snoc_ind {α : Type} {P : List α → Prop} (h1 : P []) (h2 : ∀ l c, P l → P (l ++ [c])) : ∀ l, P l := by
  intro l
  have h : ∀ r : List α, P r.reverse := by
    intro r
    induction r with
    | nil => exact h1
    | cons c r ih => rw [List.reverse_cons]; exact h2 _ _ ih
  have := h l.reverse
  rwa [List.reverse_reverse] at this

/-- What a digit is worth; 99: it is none. -/
def dv (c : UInt8) : Nat := if 48 ≤ c.toNat ∧ c.toNat ≤ 57 then c.toNat - 48 else if 97 ≤ c.toNat ∧ c.toNat ≤ 102 then c.toNat - 87 else if 65 ≤ c.toNat ∧ c.toNat ≤ 70 then c.toNat - 55 else 99
theorem dv_le (c : UInt8) : dv c ≤ 99 := by unfold dv; split; omega; split; omega; split; omega; omega
theorem dv_lt10 {c : UInt8} (h : dv c < 10) : 48 ≤ c.toNat ∧ c.toNat ≤ 57 ∧ dv c = c.toNat - 48 := by
  unfold dv at h ⊢
  split at h
  · rename_i k; rw [if_pos k]; omega
  · split at h
    · omega
    · split at h <;> omega
theorem dv_dec {c : UInt8} (h1 : 48 ≤ c.toNat) (h2 : c.toNat ≤ 57) : dv c = c.toNat - 48 := by unfold dv; rw [if_pos ⟨h1, h2⟩]
theorem dv_dig (n : Nat) (h : n < 10) : dv (UInt8.ofNat (48 + n)) = n := by
  have e : (UInt8.ofNat (48 + n)).toNat = 48 + n := by simp; omega
  rw [dv_dec (by omega) (by omega)]; omega

def val (b : Nat) (l : List UInt8) : Nat := l.foldl (fun n c => n * b + dv c) 0
theorem val_nil (b : Nat) : val b [] = 0 := rfl
theorem val_snoc (b : Nat) (l : List UInt8) (c : UInt8) : val b (l ++ [c]) = val b l * b + dv c := by simp [val]
theorem val_one (b : Nat) (c : UInt8) : val b [c] = dv c := by simp [val]
theorem val_append (b : Nat) (l m : List UInt8) : val b (l ++ m) = val b l * b ^ m.length + val b m := by
  induction m using snoc_ind generalizing l with
  | h1 => simp [val]
  | h2 m c ih =>
    rw [← List.append_assoc, val_snoc, ih, val_snoc, List.length_append]
    simp only [List.length_cons, List.length_nil, Nat.zero_add, Nat.pow_succ, Nat.add_mul, Nat.mul_assoc]
    omega
theorem val_cons (b : Nat) (c : UInt8) (m : List UInt8) : val b (c :: m) = dv c * b ^ m.length + val b m := by
  have := val_append b [c] m
  rw [val_one] at this; exact this

def allD (b : Nat) (l : List UInt8) : Bool := l.all fun c => decide (dv c < b)
theorem allD_snoc (b : Nat) (l : List UInt8) (c : UInt8) : allD b (l ++ [c]) = (allD b l && decide (dv c < b)) := by simp [allD]
theorem allD_append (b : Nat) (l m : List UInt8) : allD b (l ++ m) = (allD b l && allD b m) := by simp [allD]
theorem allD_iff (b : Nat) (l : List UInt8) : allD b l = true ↔ ∀ c ∈ l, dv c < b := by simp [allD]
def okD (b : Nat) (l : List UInt8) : Bool := !l.isEmpty && allD b l
theorem okD_iff (b : Nat) (l : List UInt8) : okD b l = true ↔ l ≠ [] ∧ allD b l = true := by simp [okD]

theorem val_lt (b : Nat) (l : List UInt8) (h : allD b l = true) : val b l < b ^ l.length := by
  induction l using snoc_ind with
  | h1 => simp [val]
  | h2 l c ih =>
    rw [allD_snoc, Bool.and_eq_true, decide_eq_true_eq] at h
    have := ih h.1
    rw [val_snoc, List.length_append, List.length_cons, List.length_nil, Nat.zero_add, Nat.pow_succ]
    have h2 : (val b l + 1) * b ≤ b ^ l.length * b := Nat.mul_le_mul_right _ this
    rw [Nat.add_mul] at h2
    omega

abbrev dg := Lib.decDigits
theorem dg_small {n : Nat} (h : n < 10) : dg n = [UInt8.ofNat (48 + n)] := by unfold dg; rw [Lib.decDigits, dif_pos h]
theorem dg_big {n : Nat} (h : ¬ n < 10) : dg n = dg (n / 10) ++ [UInt8.ofNat (48 + n % 10)] := by unfold dg; rw [Lib.decDigits, dif_neg h]
theorem dg_snoc (n d : Nat) (hn : 0 < n) (hd : d < 10) : dg (n * 10 + d) = dg n ++ [UInt8.ofNat (48 + d)] := by
  rw [dg_big (by omega)]
  congr 2
  · congr 1; omega
  · congr 2; omega
theorem dg_ind {P : Nat → Prop} (h1 : ∀ n, n < 10 → P n) (h2 : ∀ n, ¬ n < 10 → P (n / 10) → P n) : ∀ n, P n := by
  intro n
  induction n using Nat.strongRecOn with
  | ind n ih =>
    by_cases h : n < 10
    · exact h1 n h
    · exact h2 n h (ih _ (by omega))
theorem dg_ne (n : Nat) : dg n ≠ [] := by
  by_cases h : n < 10
  · rw [dg_small h]; simp
  · rw [dg_big h]; simp
theorem dg_all (n : Nat) : allD 10 (dg n) = true := by
  induction n using dg_ind with
  | h1 n h => rw [dg_small h, allD_iff]; intro c hc; rw [List.mem_singleton.1 hc, dv_dig n h]; exact h
  | h2 n h ih => rw [dg_big h, allD_snoc, ih, dv_dig _ (by omega)]; simp; omega
theorem dg_val (n : Nat) : val 10 (dg n) = n := by
  induction n using dg_ind with
  | h1 n h => rw [dg_small h, val_one, dv_dig n h]
  | h2 n h ih => rw [dg_big h, val_snoc, ih, dv_dig _ (by omega)]; omega
theorem dg_ok (n : Nat) : okD 10 (dg n) = true := (okD_iff _ _).2 ⟨dg_ne n, dg_all n⟩
theorem dg_len_pos (n : Nat) : 0 < (dg n).length := List.length_pos_iff.2 (dg_ne n)
theorem dg_len_le (n k : Nat) (hk : 0 < k) (h : n < 10 ^ k) : (dg n).length ≤ k := by
  induction n using dg_ind generalizing k with
  | h1 n hn => rw [dg_small hn]; exact hk
  | h2 n hn ih =>
    rw [dg_big hn, List.length_append]
    match k, hk with
    | k + 1, _ =>
      have h' : n / 10 < 10 ^ k := by rw [Nat.pow_succ] at h; omega
      have hk' : 0 < k := by
        rcases Nat.eq_zero_or_pos k with rfl | hp
        · simp at h'; omega
        · exact hp
      have := ih k hk' h'
      simp; omega
theorem dg_lt (n : Nat) : n < 10 ^ (dg n).length := by
  have := val_lt 10 (dg n) (dg_all n)
  rwa [dg_val] at this
theorem dg_ge (n : Nat) (h : 0 < n) : 10 ^ ((dg n).length - 1) ≤ n := by
  induction n using dg_ind with
  | h1 n hn => rw [dg_small hn]; exact h
  | h2 n hn ih =>
    have := ih (by omega)
    have hp := dg_len_pos (n / 10)
    rw [dg_big hn, List.length_append, List.length_cons, List.length_nil, Nat.zero_add, Nat.add_sub_cancel]
    obtain ⟨m, hm⟩ : ∃ m, (dg (n / 10)).length = m + 1 := ⟨(dg (n / 10)).length - 1, by omega⟩
    rw [hm] at this ⊢
    rw [Nat.add_sub_cancel] at this
    rw [Nat.pow_succ]
    omega
theorem dg_head (n : Nat) (h : 0 < n) : ∃ c r, dg n = c :: r ∧ c.toNat ≠ 48 ∧ 48 ≤ c.toNat ∧ c.toNat ≤ 57 := by
  induction n using dg_ind with
  | h1 n hn => exact ⟨_, [], dg_small hn, by simp; omega, by simp; omega, by simp; omega⟩
  | h2 n hn ih =>
    obtain ⟨c, r, e, k⟩ := ih (by omega)
    exact ⟨c, r ++ [UInt8.ofNat (48 + n % 10)], by rw [dg_big hn, e]; rfl, k⟩
theorem dg_zero : dg 0 = [48] := by rw [dg_small (by omega)]; rfl

def strip (l : List UInt8) : List UInt8 := l.dropWhile (· == 48)
theorem strip_append (l m : List UInt8) : strip (l ++ m) = if strip l = [] then strip m else strip l ++ m := by
  unfold strip
  rw [List.dropWhile_append]
  simp
theorem ofNat_of_dv {c : UInt8} (h : dv c < 10) : UInt8.ofNat (48 + dv c) = c := by
  have := dv_lt10 h
  apply UInt8.toNat_inj.1
  simp
  omega
theorem strip_all (l : List UInt8) (h : allD 10 l = true) : strip l = if val 10 l = 0 then [] else dg (val 10 l) := by
  induction l using snoc_ind with
  | h1 => simp [strip, val]
  | h2 l c ih =>
    rw [allD_snoc, Bool.and_eq_true, decide_eq_true_eq] at h
    have hl := ih h.1
    rw [strip_append, hl, val_snoc]
    by_cases hz : val 10 l = 0
    · rw [if_pos hz, if_pos rfl, hz, Nat.zero_mul, Nat.zero_add]
      have hd := dv_lt10 h.2
      by_cases h0 : dv c = 0
      · rw [if_pos h0]
        have : c = 48 := UInt8.toNat_inj.1 (by simp; omega)
        rw [this]; rfl
      · rw [if_neg h0, dg_small h.2, ofNat_of_dv h.2]
        have : ¬ c = 48 := by intro e; rw [e] at h0; exact h0 (by decide)
        simp [strip, this]
    · rw [if_neg hz, if_neg (dg_ne _), if_neg (by omega), dg_snoc _ _ (by omega) h.2, ofNat_of_dv h.2]

/-- A whole number's text. -/
def txt (z : Int) : List UInt8 := if z < 0 then 45 :: dg z.natAbs else dg z.toNat
theorem txt_nat (n : Nat) : txt (n : Int) = dg n := by unfold txt; rw [if_neg (by omega)]; rfl
theorem txt_neg (n : Nat) (h : 0 < n) : txt (-(n : Int)) = 45 :: dg n := by unfold txt; rw [if_pos (by omega)]; simp
theorem txt_zero : txt 0 = [48] := dg_zero
def sgn (neg : Bool) (n : Nat) : Int := if neg then -(n : Int) else n
theorem txt_sgn (neg : Bool) (n : Nat) (h : 0 < n) : txt (sgn neg n) = if neg then 45 :: dg n else dg n := by
  cases neg
  · exact txt_nat n
  · exact txt_neg n h
theorem sgn_zero (neg : Bool) : sgn neg 0 = 0 := by cases neg <;> rfl

def isNeg (l : List UInt8) : Bool := decide (l.head? = some 45)
def unsign (l : List UInt8) : List UInt8 := if isNeg l = true then l.tail else l
def goodB (l : List UInt8) : Bool := decide (l = [48]) || (okD 10 (unsign l) && decide (unsign l ≠ [] ∧ (unsign l).head? ≠ some 48))
theorem isNeg_dg (n : Nat) : isNeg (dg n) = false := by
  have h := dg_all n
  obtain ⟨c, r, e⟩ := List.exists_cons_of_ne_nil (dg_ne n)
  rw [e] at h ⊢
  have h' := dv_lt10 (((allD_iff _ _).1 h) c (by simp))
  unfold isNeg
  simp
  intro k; rw [k] at h'; exact absurd h'.1 (by decide)
theorem isNeg_cons (l : List UInt8) : isNeg (45 :: l) = true := by simp [isNeg]
theorem unsign_dg (n : Nat) : unsign (dg n) = dg n := by unfold unsign; rw [isNeg_dg]; rfl
theorem unsign_cons (l : List UInt8) : unsign (45 :: l) = l := by unfold unsign; rw [isNeg_cons]; rfl
theorem txt_isNeg (z : Int) : isNeg (txt z) = decide (z < 0) := by
  unfold txt
  by_cases h : z < 0
  · rw [if_pos h, isNeg_cons, decide_eq_true h]
  · rw [if_neg h, isNeg_dg, decide_eq_false h]
theorem txt_unsign (z : Int) : unsign (txt z) = dg z.natAbs := by
  unfold txt
  by_cases h : z < 0
  · rw [if_pos h, unsign_cons]
  · rw [if_neg h, unsign_dg]; congr 1; omega
theorem goodB_dg_pos (n : Nat) (h : 0 < n) : (okD 10 (dg n) && decide (dg n ≠ [] ∧ (dg n).head? ≠ some 48)) = true := by
  rw [dg_ok, Bool.true_and, decide_eq_true_eq]
  refine ⟨dg_ne n, ?_⟩
  obtain ⟨c, r, e, k, _⟩ := dg_head n h
  rw [e]
  simp
  intro k'; rw [k'] at k; exact k rfl
theorem good_txt (z : Int) : goodB (txt z) = true := by
  by_cases h : z = 0
  · rw [h, txt_zero]; decide
  · unfold goodB
    rw [txt_unsign, goodB_dg_pos _ (by omega), Bool.or_true]
theorem strip_self {l : List UInt8} (h : l.head? ≠ some 48) : strip l = l := by
  match l with
  | [] => rfl
  | c :: r =>
    have : ¬ c = 48 := by intro e; exact h (by simp [e])
    simp [strip, this]
theorem dg_of (l : List UInt8) (h1 : okD 10 l = true) (h2 : l ≠ [] ∧ l.head? ≠ some 48) : 0 < val 10 l ∧ l = dg (val 10 l) := by
  have h := strip_all l ((okD_iff _ _).1 h1).2
  rw [strip_self h2.2] at h
  by_cases hz : val 10 l = 0
  · rw [if_pos hz] at h; exact absurd h h2.1
  · rw [if_neg hz] at h; exact ⟨by omega, h⟩
theorem isNeg_split (l : List UInt8) (h : isNeg l = true) : l = 45 :: unsign l := by
  unfold unsign
  rw [if_pos h]
  match l, h with
  | c :: r, h => simp [isNeg] at h; simp [h]
theorem txt_of_good {l : List UInt8} (h : goodB l = true) : ∃ z : Int, l = txt z := by
  unfold goodB at h
  rw [Bool.or_eq_true, Bool.and_eq_true, decide_eq_true_eq, decide_eq_true_eq] at h
  rcases h with h | ⟨h1, h2⟩
  · exact ⟨0, by rw [h, txt_zero]⟩
  · obtain ⟨hp, he⟩ := dg_of _ h1 h2
    by_cases hn : isNeg l = true
    · refine ⟨-(val 10 (unsign l) : Nat), ?_⟩
      rw [txt_neg _ hp, ← he]; exact isNeg_split l hn
    · refine ⟨(val 10 (unsign l) : Nat), ?_⟩
      rw [txt_nat, ← he]; unfold unsign; rw [if_neg hn]
theorem txt_ne (z : Int) : txt z ≠ [] := by unfold txt; split; simp; exact dg_ne _
theorem txt_inj {a b : Int} (h : txt a = txt b) : a = b := by
  have h1 := congrArg isNeg h
  have h2 := congrArg (fun l => val 10 (unsign l)) h
  simp only [txt_unsign, dg_val] at h2
  rw [txt_isNeg, txt_isNeg, decide_eq_decide] at h1
  omega
theorem txt_len (z : Int) (k : Nat) (hk : 0 < k) (h : z.natAbs < 10 ^ k) : (txt z).length ≤ k + 1 := by
  have := dg_len_le z.natAbs k hk h
  unfold txt
  split
  · simp; omega
  · rw [show z.toNat = z.natAbs by omega]; omega
theorem txt_abs (z : Int) : z.natAbs < 10 ^ (txt z).length := by
  have h := dg_lt z.natAbs
  have h2 : (dg z.natAbs).length ≤ (txt z).length := by
    unfold txt
    split
    · simp
    · rw [show z.toNat = z.natAbs by omega]; omega
  exact Nat.lt_of_lt_of_le h (Nat.pow_le_pow_right (by omega) h2)
end M
end Go.Proofs.YtocegiffbgnogaaDoor

namespace Go.Proofs.YtocegiffbgnogaaDoor
namespace M

/-- Digits to the base b and gaps, up to the end. -/
def fD (b f : Nat) : List UInt8 → Nat
  | [] => f
  | c :: r => if c = 95 ∨ dv c < b then fD b f r else 0
/-- Gaps, then a digit, then more. -/
def fG (b f : Nat) : List UInt8 → Nat
  | [] => 0
  | c :: r => if c = 95 then fG b f r else if dv c < b then fD b f r else 0
/-- What stands behind a nought. -/
def fN : List UInt8 → Nat
  | [] => 4
  | c :: r => if c = 98 then fG 2 1 r else if c = 120 then fG 16 2 r else fG 8 3 (c :: r)
/-- Base 60: 1 behind a colon, 2 behind a digit below six, 3 where a part is full. -/
def fS : Nat → List UInt8 → Nat
  | k, [] => if k = 1 then 0 else 6
  | k, c :: r => if k = 1 then (if dv c < 6 then fS 2 r else if dv c < 10 then fS 3 r else 0) else if k = 2 ∧ dv c < 10 then fS 3 r else if c = 58 then fS 1 r else 0
/-- What stands behind a first digit that is no nought. -/
def fA : List UInt8 → Nat
  | [] => 5
  | c :: r => if c = 95 ∨ dv c < 10 then fA r else if c = 58 then fS 1 r else 0
def fB : List UInt8 → Nat
  | [] => 0
  | c :: r => if c = 48 then fN r else if dv c < 10 then fA r else 0
def unplus (l : List UInt8) : List UInt8 := if l.head? = some 43 then l.tail else l
theorem unplus_len (l : List UInt8) : (unplus l).length ≤ l.length := by unfold unplus; split <;> simp
/-- Without its sign. -/
def body (l : List UInt8) : List UInt8 := if isNeg l = true then unsign l else unplus l
theorem body_len (l : List UInt8) : (body l).length ≤ l.length := by
  unfold body; split
  · unfold unsign; split <;> simp
  · exact unplus_len l
def form (l : List UInt8) : Nat := fB (body l)
def gone (l : List UInt8) : List UInt8 := l.filter fun c => decide (c ≠ 95)
theorem gone_len (l : List UInt8) : (gone l).length ≤ l.length := List.length_filter_le _ _
theorem gone_append (l m : List UInt8) : gone (l ++ m) = gone l ++ gone m := by simp [gone]
/-- Base 60: n so far, p the part at hand. -/
def sx (n p : Nat) : List UInt8 → Nat
  | [] => n * 60 + p
  | c :: r => if c = 58 then sx (n * 60 + p) 0 r else sx n (p * 10 + dv c) r
/-- What is said once n has been read, and l is behind it. -/
def rd (n : Nat) (l : List UInt8) : Nat := if l = [] then n else sx n 0 l
theorem sx_part (D r : List UInt8) (n p : Nat) (h : ∀ c ∈ D, c ≠ 58) : sx n p (D ++ 58 :: r) = sx (n * 60 + D.foldl (fun n c => n * 10 + dv c) p) 0 r := by
  induction D generalizing p with
  | nil => simp [sx]
  | cons c D ih =>
    have hc : c ≠ 58 := h c (by simp)
    rw [List.cons_append, sx, if_neg hc, ih _ (fun x hx => h x (by simp [hx]))]
    rfl
theorem sx_last (D : List UInt8) (n p : Nat) (h : ∀ c ∈ D, c ≠ 58) : sx n p D = n * 60 + D.foldl (fun n c => n * 10 + dv c) p := by
  induction D generalizing p with
  | nil => simp [sx]
  | cons c D ih =>
    have hc : c ≠ 58 := h c (by simp)
    rw [sx, if_neg hc, ih _ (fun x hx => h x (by simp [hx]))]
    rfl
end M
end Go.Proofs.YtocegiffbgnogaaDoor

namespace Go.Proofs.YtocegiffbgnogaaDoor
namespace M
def pv : List Nat → Nat
  | [] => 0
  | p :: r => p + 10000000 * pv r
def Small (ps : List Nat) : Prop := ∀ p ∈ ps, p < 10000000
theorem pv_append (a b : List Nat) : pv (a ++ b) = pv a + 10000000 ^ a.length * pv b := by
  induction a with
  | nil => simp [pv]
  | cons p r ih =>
    simp only [List.cons_append, pv, ih, List.length_cons, Nat.pow_succ]
    rw [Nat.mul_add, Nat.add_assoc, ← Nat.mul_assoc, Nat.mul_comm 10000000 (10000000 ^ r.length)]
theorem pv_snoc (a : List Nat) (p : Nat) : pv (a ++ [p]) = pv a + 10000000 ^ a.length * p := by rw [pv_append]; simp [pv]
theorem Small.snoc {a : List Nat} {p : Nat} (h : Small a) (hp : p < 10000000) : Small (a ++ [p]) := by
  intro q hq
  rcases List.mem_append.1 hq with h1 | h1
  · exact h q h1
  · rw [List.mem_singleton.1 h1]; exact hp
theorem Small.nil : Small [] := by intro q hq; cases hq
/-- One step of the product. -/
theorem mul_step (done : List Nat) (k m p R T : Nat) (h : pv done + 10000000 ^ done.length * (k + m * (p + 10000000 * R)) = T) :
    pv (done ++ [(k + p * m) % 10000000]) + 10000000 ^ (done ++ [(k + p * m) % 10000000]).length * ((k + p * m) / 10000000 + m * R) = T := by
  rw [pv_snoc, List.length_append, List.length_cons, List.length_nil, Nat.zero_add, Nat.pow_succ, ← h, Nat.add_assoc, Nat.mul_assoc, ← Nat.mul_add]
  congr 2
  rw [Nat.mul_add, Nat.mul_add, ← Nat.add_assoc, ← Nat.add_assoc, Nat.mod_add_div, Nat.mul_comm p m, Nat.mul_left_comm]
theorem carry_step (done : List Nat) (k T : Nat) (h : pv done + 10000000 ^ done.length * k = T) :
    pv (done ++ [k % 10000000]) + 10000000 ^ (done ++ [k % 10000000]).length * (k / 10000000) = T := by
  have := mul_step done k 0 0 0 T (by simpa using h)
  simpa using this
theorem carry_le {k p m : Nat} (hk : k ≤ 1099511627776) (hp : p < 10000000) (hm : m ≤ 1099511627776) : k + p * m ≤ 10995116277760000000 ∧ (k + p * m) / 10000000 ≤ 1099511627776 := by
  have h1 : p * m ≤ 9999999 * 1099511627776 := Nat.mul_le_mul (by omega) hm
  omega
theorem carry_room {e k : Nat} (h : 10000000 ^ e * k ≤ 1099511627776) (hk : 0 < k) : e < 2 ∧ 10000000 ^ (e + 1) * (k / 10000000) ≤ 1099511627776 := by
  constructor
  · have h1 : 10000000 ^ e ≤ 1099511627776 := Nat.le_trans (Nat.le_mul_of_pos_right _ hk) h
    rcases Nat.lt_or_ge e 2 with h2 | h2
    · exact h2
    · have := Nat.pow_le_pow_right (show 0 < 10000000 by omega) h2
      have h3 : (10000000 : Nat) ^ 2 = 100000000000000 := by decide
      omega
  · rw [Nat.pow_succ, Nat.mul_assoc]
    exact Nat.le_trans (Nat.mul_le_mul_left _ (Nat.mul_div_le k 10000000)) h
theorem drop_pv (ps : List Nat) (i : Nat) (h : i < ps.length) : pv (ps.drop i) = ps[i] + 10000000 * pv (ps.drop (i + 1)) := by
  rw [List.drop_eq_getElem_cons h]; rfl

/-- Seven digits of a piece. -/
def lastD : Nat → Nat → List UInt8 → List UInt8
  | 0, _, r => r
  | n + 1, p, r => lastD n (p / 10) (UInt8.ofNat (48 + p % 10) :: r)
theorem lastD_append (n p : Nat) (r : List UInt8) : lastD n p r = lastD n p [] ++ r := by
  induction n generalizing p r with
  | zero => rfl
  | succ n ih => rw [lastD, lastD, ih (p / 10) (_ :: r), ih (p / 10) [_], List.append_assoc]; rfl
theorem lastD_length (n p : Nat) (r : List UInt8) : (lastD n p r).length = n + r.length := by
  induction n generalizing p r with
  | zero => simp [lastD]
  | succ n ih => rw [lastD, ih]; simp; omega
theorem lastD_ok (n p : Nat) (r : List UInt8) (h : allD 10 r = true) : allD 10 (lastD n p r) = true ∧ val 10 (lastD n p r) = p % 10 ^ n * 10 ^ r.length + val 10 r := by
  induction n generalizing p r with
  | zero => simp [lastD, h, Nat.mod_one]
  | succ n ih =>
    have hd : dv (UInt8.ofNat (48 + p % 10)) = p % 10 := dv_dig _ (by omega)
    have h' : allD 10 (UInt8.ofNat (48 + p % 10) :: r) = true := by
      rw [allD_iff] at h ⊢
      intro c hc
      rcases List.mem_cons.1 hc with rfl | hc
      · rw [hd]; omega
      · exact h c hc
    obtain ⟨h1, h2⟩ := ih (p / 10) _ h'
    refine ⟨h1, ?_⟩
    rw [lastD, h2, val_cons, hd, List.length_cons]
    have e1 : p % 10 ^ (n + 1) = p / 10 % 10 ^ n * 10 + p % 10 := by
      have := @Nat.mod_mul 10 (10 ^ n) p
      rw [show (10 : Nat) ^ (n + 1) = 10 * 10 ^ n by rw [Nat.pow_succ, Nat.mul_comm], this]
      omega
    rw [e1, Nat.add_mul, Nat.pow_succ, Nat.mul_comm (10 ^ r.length) 10, ← Nat.mul_assoc, Nat.add_assoc]
/-- The digits that 'written' writes. -/
def wr : List Nat → List UInt8
  | [] => []
  | p :: r => wr r ++ lastD 7 p []
theorem wr_snoc (a : List Nat) (p : Nat) : wr (a ++ [p]) = lastD 7 p [] ++ wr a := by
  induction a with
  | nil => simp [wr]
  | cons q r ih => simp only [List.cons_append, wr, ih, List.append_assoc]
theorem wr_length (a : List Nat) : (wr a).length = 7 * a.length := by
  induction a with
  | nil => rfl
  | cons q r ih => rw [wr, List.length_append, ih, lastD_length, List.length_cons]; simp; omega
theorem wr_ok (a : List Nat) (h : Small a) : allD 10 (wr a) = true ∧ val 10 (wr a) = pv a := by
  induction a with
  | nil => exact ⟨rfl, rfl⟩
  | cons q r ih =>
    obtain ⟨h1, h2⟩ := ih (fun x hx => h x (List.mem_cons_of_mem _ hx))
    obtain ⟨h3, h4⟩ := lastD_ok 7 q [] rfl
    have hq := h q (by simp)
    rw [wr]
    refine ⟨by rw [allD_append, h1, h3]; rfl, ?_⟩
    rw [val_append, h2, h4, lastD_length, pv]
    simp only [List.length_nil, Nat.add_zero, Nat.pow_zero, Nat.mul_one, val_nil]
    rw [show (10 : Nat) ^ 7 = 10000000 by decide, Nat.mod_eq_of_lt hq]
    omega
end M
end Go.Proofs.YtocegiffbgnogaaDoor

namespace Go.Proofs.YtocegiffbgnogaaDoor
namespace M
def cmpZ (a b : Int) : Int := if a < b then -1 else if b < a then 1 else 0
def cmpS (l m : List UInt8) : Int := if l.length < m.length then -1 else if m.length < l.length then 1 else if l < m then -1 else if m < l then 1 else 0
theorem cmpZ_swap (a b : Int) : cmpZ b a = -cmpZ a b := by unfold cmpZ; repeat' split <;> omega
theorem cmpZ_self (a : Int) : cmpZ a a = 0 := by unfold cmpZ; simp
theorem cmpZ_zero (a b : Int) : cmpZ a b = 0 ↔ a = b := by
  unfold cmpZ
  constructor
  · intro h; split at h
    · omega
    · split at h <;> omega
  · intro h; rw [if_neg (by omega), if_neg (by omega)]
theorem cmpZ_neg (a b : Int) : cmpZ (-a) (-b) = -cmpZ a b := by
  rw [← cmpZ_swap]
  unfold cmpZ
  by_cases h1 : a < b
  · rw [if_neg (by omega), if_pos (by omega), if_neg (by omega), if_pos (by omega)]
  · by_cases h2 : b < a
    · rw [if_pos (by omega), if_pos (by omega)]
    · rw [if_neg (by omega), if_neg (by omega), if_neg (by omega), if_neg (by omega)]
theorem cmpZ_add (a b c : Int) : cmpZ (a + b) (a + c) = cmpZ b c := by
  unfold cmpZ
  by_cases h1 : b < c
  · rw [if_pos (by omega), if_pos (by omega)]
  · by_cases h2 : c < b
    · rw [if_neg (by omega), if_pos (by omega), if_neg (by omega), if_pos (by omega)]
    · rw [if_neg (by omega), if_neg (by omega), if_neg (by omega), if_neg (by omega)]
theorem cmpZ_lt (a b : Int) : cmpZ a b < 0 ↔ a < b := by
  unfold cmpZ
  by_cases h1 : a < b
  · rw [if_pos h1]; simp [h1]
  · rw [if_neg h1]; split <;> omega

theorem lt_iff_val (l m : List UInt8) (hl : allD 10 l = true) (hm : allD 10 m = true) (h : l.length = m.length) : l < m ↔ val 10 l < val 10 m := by
  induction l generalizing m with
  | nil =>
    cases m with
    | nil => simp [val]
    | cons d r => simp at h
  | cons c l ih =>
    cases m with
    | nil => simp at h
    | cons d m =>
      have h' : l.length = m.length := by simpa using h
      have hc := (allD_iff _ _).1 hl c (by simp)
      have hd := (allD_iff _ _).1 hm d (by simp)
      have hl' : allD 10 l = true := (allD_iff _ _).2 fun x hx => (allD_iff _ _).1 hl x (List.mem_cons_of_mem _ hx)
      have hm' : allD 10 m = true := (allD_iff _ _).2 fun x hx => (allD_iff _ _).1 hm x (List.mem_cons_of_mem _ hx)
      have b1 := val_lt 10 l hl'
      have b2 := val_lt 10 m hm'
      have kc := dv_lt10 hc
      have kd := dv_lt10 hd
      have e1 : c < d ↔ dv c < dv d := by rw [UInt8.lt_iff_toNat_lt]; omega
      have e2 : c = d ↔ dv c = dv d := by rw [← UInt8.toNat_inj]; omega
      rw [List.cons_lt_cons_iff, ih m hl' hm' h', val_cons, val_cons, h', e1, e2]
      rw [h'] at b1
      generalize 10 ^ m.length = T at *
      generalize val 10 l = p at *
      generalize val 10 m = q at *
      generalize dv c = x at *
      generalize dv d = y at *
      constructor
      · rintro (k | ⟨rfl, k⟩)
        · have : (x + 1) * T ≤ y * T := Nat.mul_le_mul_right _ k
          rw [Nat.add_mul] at this; omega
        · omega
      · intro k
        rcases Nat.lt_trichotomy x y with hx | hx | hx
        · exact Or.inl hx
        · subst hx; exact Or.inr ⟨rfl, by omega⟩
        · have : (y + 1) * T ≤ x * T := Nat.mul_le_mul_right _ hx
          rw [Nat.add_mul] at this; omega
theorem dg_len_lt {a b : Nat} (h : (dg a).length < (dg b).length) : a < b := by
  have h1 := dg_lt a
  rcases Nat.eq_zero_or_pos b with rfl | hb
  · have := dg_len_pos a
    rw [dg_zero] at h
    have h' : (dg a).length < 1 := h
    omega
  · have h2 := dg_ge b hb
    have h3 : 10 ^ (dg a).length ≤ 10 ^ ((dg b).length - 1) := Nat.pow_le_pow_right (by omega) (by omega)
    omega
theorem cmpS_dg (a b : Nat) : cmpS (dg a) (dg b) = cmpZ a b := by
  unfold cmpS cmpZ
  by_cases h1 : (dg a).length < (dg b).length
  · have := dg_len_lt h1
    rw [if_pos h1, if_pos (by omega)]
  · by_cases h2 : (dg b).length < (dg a).length
    · have := dg_len_lt h2
      rw [if_neg h1, if_pos h2, if_neg (by omega), if_pos (by omega)]
    · rw [if_neg h1, if_neg h2]
      have e1 := lt_iff_val (dg a) (dg b) (dg_all a) (dg_all b) (by omega)
      have e2 := lt_iff_val (dg b) (dg a) (dg_all b) (dg_all a) (by omega)
      rw [dg_val, dg_val] at e1 e2
      by_cases k1 : a < b
      · rw [if_pos (e1.2 k1), if_pos (by omega)]
      · by_cases k2 : b < a
        · rw [if_neg (fun x => k1 (e1.1 x)), if_pos (e2.2 k2), if_neg (by omega), if_pos (by omega)]
        · rw [if_neg (fun x => k1 (e1.1 x)), if_neg (fun x => k2 (e2.1 x)), if_neg (by omega), if_neg (by omega)]
/-- How Compare tells of two texts of whole numbers. -/
theorem cmp_txt (x y : Int) : cmpZ x y = if x < 0 then (if y < 0 then cmpS (dg y.natAbs) (dg x.natAbs) else -1) else (if y < 0 then 1 else cmpS (dg x.natAbs) (dg y.natAbs)) := by
  rw [cmpS_dg, cmpS_dg]
  unfold cmpZ
  by_cases h1 : x < 0
  · rw [if_pos h1]
    by_cases h2 : y < 0
    · rw [if_pos h2]
      by_cases h3 : x < y
      · rw [if_pos h3, if_pos (by omega)]
      · by_cases h4 : y < x
        · rw [if_neg h3, if_pos h4, if_neg (by omega), if_pos (by omega)]
        · rw [if_neg h3, if_neg h4, if_neg (by omega), if_neg (by omega)]
    · rw [if_neg h2, if_pos (by omega)]
  · rw [if_neg h1]
    by_cases h2 : y < 0
    · rw [if_pos h2, if_neg (by omega), if_pos (by omega)]
    · rw [if_neg h2]
      by_cases h3 : x < y
      · rw [if_pos h3, if_pos (by omega)]
      · by_cases h4 : y < x
        · rw [if_neg h3, if_pos h4, if_neg (by omega), if_pos (by omega)]
        · rw [if_neg h3, if_neg h4, if_neg (by omega), if_neg (by omega)]

/-- The digit that is left, and what is still to be taken away. -/
def subD (d n : Nat) : Nat := if d < n % 10 then d + 10 - n % 10 else d - n % 10
def subN (d n : Nat) : Nat := if d < n % 10 then n / 10 + 1 else n / 10
theorem subD_lt {d n : Nat} (h : d < 10) : subD d n < 10 := by unfold subD; split <;> omega
theorem sub_eq (d n : Nat) : subD d n + n = d + 10 * subN d n := by unfold subD subN; split <;> omega
/-- One step of taking away: p the digits ahead, r those behind that are done. -/
theorem sub_step (p r : List UInt8) (c : UInt8) (n N V : Nat) (hc : dv c < 10) (h : val 10 (p ++ c :: r) + N = V + n * 10 ^ r.length) :
    val 10 (p ++ UInt8.ofNat (48 + subD (dv c) n) :: r) + N = V + subN (dv c) n * 10 ^ (r.length + 1) := by
  rw [val_append, val_cons] at h ⊢
  rw [dv_dig _ (subD_lt hc)]
  have e := sub_eq (dv c) n
  rw [List.length_cons] at h ⊢
  have e2 : subD (dv c) n * 10 ^ r.length + n * 10 ^ r.length = dv c * 10 ^ r.length + subN (dv c) n * 10 ^ (r.length + 1) := by
    rw [← Nat.add_mul, e, Nat.pow_succ, Nat.add_mul]
    congr 1
    rw [Nat.mul_comm 10, Nat.mul_assoc, Nat.mul_comm 10]
  omega
theorem sub_room (p r : List UInt8) (n N V : Nat) (hr : allD 10 r = true) (hN : N ≤ V) (h : val 10 (p ++ r) + N = V + n * 10 ^ r.length) : n ≤ val 10 p := by
  rw [val_append] at h
  have b := val_lt 10 r hr
  have h2 : n * 10 ^ r.length < (val 10 p + 1) * 10 ^ r.length := by rw [Nat.add_mul]; omega
  have := Nat.lt_of_mul_lt_mul_right h2
  omega
theorem val_take_le (b : Nat) (hb : 0 < b) (l : List UInt8) (k : Nat) : val b (l.take k) ≤ val b l := by
  have h := val_append b (l.take k) (l.drop k)
  rw [List.take_append_drop] at h
  have := Nat.le_mul_of_pos_right (val b (l.take k)) (Nat.pow_pos (n := (l.drop k).length) hb)
  omega
end M
end Go.Proofs.YtocegiffbgnogaaDoor

namespace Go.Proofs.YtocegiffbgnogaaDoor
namespace M
/-- So many noughts. -/
abbrev zs (n : Nat) : List UInt8 := List.replicate n 48
theorem zs_snoc (n : Nat) : zs n ++ [48] = zs (n + 1) := (List.replicate_succ').symm
theorem val_zs (n : Nat) : val 10 (zs n) = 0 := by
  induction n with
  | zero => rfl
  | succ n ih => rw [← zs_snoc, val_snoc, ih]; decide
theorem all_zs (n : Nat) : allD 10 (zs n) = true := by
  rw [allD_iff]; intro c hc; rw [(List.mem_replicate.1 hc).2]; decide
theorem val_lead (n : Nat) (l : List UInt8) : val 10 (zs n ++ l) = val 10 l := by rw [val_append, val_zs, Nat.zero_mul, Nat.zero_add]
theorem val_trail (n : Nat) (l : List UInt8) : val 10 (l ++ zs n) = val 10 l * 10 ^ n := by rw [val_append, val_zs, Nat.add_zero, List.length_replicate]
theorem dg_pow (c t : Nat) (hc : 0 < c) : dg (c * 10 ^ t) = dg c ++ zs t := by
  induction t with
  | zero => simp
  | succ t ih =>
    have hp : 0 < c * 10 ^ t := Nat.mul_pos hc (Nat.pow_pos (by omega))
    have h := dg_snoc (c * 10 ^ t) 0 hp (by omega)
    rw [Nat.add_zero, Nat.mul_assoc, ← Nat.pow_succ] at h
    rw [h, ih, ← zs_snoc, List.append_assoc]; rfl
theorem dg_last (c : Nat) : ∃ r : List UInt8, dg c = r ++ [UInt8.ofNat (48 + c % 10)] := by
  by_cases h : c < 10
  · exact ⟨[], by rw [dg_small h, Nat.mod_eq_of_lt h]; rfl⟩
  · exact ⟨_, dg_big h⟩
theorem last_ne (c : Nat) (h : c % 10 ≠ 0) : (UInt8.ofNat (48 + c % 10)) ≠ 48 := by
  intro e
  have := congrArg UInt8.toNat e
  simp at this
  omega
/-- Digits in parts: noughts alone, or noughts, a number that does not end with a nought, noughts. -/
theorem parts (l : List UInt8) (h : allD 10 l = true) : l = zs l.length ∨ ∃ m c t : Nat, c % 10 ≠ 0 ∧ l = zs m ++ (dg c ++ zs t) := by
  induction l using snoc_ind with
  | h1 => exact Or.inl rfl
  | h2 l x ih =>
    rw [allD_snoc, Bool.and_eq_true, decide_eq_true_eq] at h
    have hx := dv_lt10 h.2
    have hxe := ofNat_of_dv h.2
    rcases ih h.1 with hz | ⟨m, c, t, hc, he⟩
    · by_cases h0 : dv x = 0
      · left
        have : x = 48 := by rw [← hxe, h0]; rfl
        rw [this, List.length_append, List.length_cons, List.length_nil, ← zs_snoc, ← hz]
      · right
        refine ⟨l.length, dv x, 0, by rw [Nat.mod_eq_of_lt h.2]; exact h0, ?_⟩
        rw [dg_small h.2, hxe, ← hz]; simp
    · right
      have hcp : 0 < c := by rcases Nat.eq_zero_or_pos c with h | h; rw [h] at hc; exact absurd rfl hc; exact h
      by_cases h0 : dv x = 0
      · have : x = 48 := by rw [← hxe, h0]; rfl
        refine ⟨m, c, t + 1, hc, ?_⟩
        rw [he, this, ← zs_snoc]; simp only [List.append_assoc]
      · have hp : 0 < c * 10 ^ t := Nat.mul_pos hcp (Nat.pow_pos (by omega))
        refine ⟨m, c * 10 ^ t * 10 + dv x, 0, by omega, ?_⟩
        rw [dg_snoc _ _ hp h.2, dg_pow c t hcp, hxe, he]; simp
theorem parts_val {l : List UInt8} {m c t : Nat} (h : l = zs m ++ (dg c ++ zs t)) : val 10 l = c * 10 ^ t := by
  rw [h, val_lead, val_trail, dg_val]
theorem c_pos {c : Nat} (hc : c % 10 ≠ 0) : 0 < c := by
  rcases Nat.eq_zero_or_pos c with h | h
  · rw [h] at hc; exact absurd rfl hc
  · exact h
theorem ct_pos {c : Nat} (t : Nat) (hc : c % 10 ≠ 0) : 0 < c * 10 ^ t := Nat.mul_pos (c_pos hc) (Nat.pow_pos (by omega))
/-- The parts are one's own. -/
theorem ct_uniq {c t c' t' : Nat} (hc : c % 10 ≠ 0) (hc' : c' % 10 ≠ 0) (h : c * 10 ^ t = c' * 10 ^ t') : c = c' ∧ t = t' := by
  induction t generalizing t' with
  | zero =>
    match t' with
    | 0 => simp at h; exact ⟨h, rfl⟩
    | t' + 1 =>
      rw [Nat.pow_succ, ← Nat.mul_assoc] at h
      simp at h
      omega
  | succ t ih =>
    match t' with
    | 0 =>
      rw [Nat.pow_succ, ← Nat.mul_assoc] at h
      simp at h
      omega
    | t' + 1 =>
      rw [Nat.pow_succ, Nat.pow_succ, ← Nat.mul_assoc, ← Nat.mul_assoc] at h
      have := ih (t' := t') (by omega)
      exact ⟨this.1, by omega⟩
theorem exists_ct (v : Nat) (h : 0 < v) : ∃ c t, c % 10 ≠ 0 ∧ v = c * 10 ^ t := by
  rcases parts (dg v) (dg_all v) with hz | ⟨m, c, t, hc, he⟩
  · have := dg_val v
    rw [hz, val_zs] at this; omega
  · exact ⟨c, t, hc, by rw [← parts_val he, dg_val]⟩
theorem zs_of_val {l : List UInt8} (h : allD 10 l = true) (hv : val 10 l = 0) : l = zs l.length := by
  rcases parts l h with hz | ⟨m, c, t, hc, he⟩
  · exact hz
  · have := parts_val he
    have := ct_pos t hc
    omega
theorem ct_of_val {l : List UInt8} {c t : Nat} (h : allD 10 l = true) (hc : c % 10 ≠ 0) (hv : val 10 l = c * 10 ^ t) : ∃ m, l = zs m ++ (dg c ++ zs t) := by
  rcases parts l h with hz | ⟨m, c', t', hc', he⟩
  · have := ct_pos t hc
    rw [hz, val_zs] at hv; omega
  · obtain ⟨rfl, rfl⟩ := ct_uniq hc hc' (hv.symm.trans (parts_val he))
    exact ⟨m, he⟩
theorem dg_inj {a b : Nat} (h : dg a = dg b) : a = b := by rw [← dg_val a, h, dg_val]

/-- May it be? -/
def decB (k : Int) (n : Bool) (D E : List UInt8) : Bool :=
  if k = 0 then (if D = [48] then decide (E = [48]) else okD 10 D && decide (D.head? ≠ some 48) && decide (D.getLast? ≠ some 48) && goodB E)
  else if k = 1 then decide (D = []) && decide (E = [])
  else if k = 2 then decide (D = []) && decide (E = []) && !n
  else false
def mns (n : Bool) : List UInt8 := if n then [45] else []
def pls (E : List UInt8) : List UInt8 := if isNeg E = true then [] else [43]
/-- Its text. -/
def prt (k : Int) (n : Bool) (D E : List UInt8) : List UInt8 :=
  if k = 1 then mns n ++ [46, 105, 110, 102] else if k = 2 then [46, 110, 97, 110] else mns n ++ (D ++ (46 :: 101 :: (pls E ++ E)))
/-- What is printed. -/
def out (k : Int) (n : Bool) (D E : List UInt8) : List UInt8 := if decB k n D E = true then prt k n D E else []
theorem dg_core_head (c : Nat) (hc : c % 10 ≠ 0) : (dg c).head? ≠ some 48 := by
  obtain ⟨x, r, e, k, _⟩ := dg_head c (c_pos hc)
  rw [e]; simp; intro h; rw [h] at k; exact k rfl
theorem dg_core_last (c : Nat) (hc : c % 10 ≠ 0) : (dg c).getLast? ≠ some 48 := by
  obtain ⟨r, e⟩ := dg_last c
  rw [e, List.getLast?_append]
  intro h
  exact last_ne c hc (Option.some.inj h)
theorem dg_core_ne (c : Nat) (hc : c % 10 ≠ 0) : dg c ≠ [48] := by
  intro h; exact dg_core_head c hc (by rw [h]; rfl)
theorem decB_zero (n : Bool) : decB 0 n [48] [48] = true := by cases n <;> decide
theorem decB_fin (n : Bool) (c : Nat) (z : Int) (hc : c % 10 ≠ 0) : decB 0 n (dg c) (txt z) = true := by
  unfold decB
  rw [if_pos rfl, if_neg (dg_core_ne c hc), dg_ok, good_txt, decide_eq_true (dg_core_head c hc), decide_eq_true (dg_core_last c hc)]; rfl
theorem decB_inf (n : Bool) : decB 1 n [] [] = true := by cases n <;> decide
theorem decB_nan : decB 2 false [] [] = true := by decide
theorem zs_head {m : Nat} {r : List UInt8} (h : (zs m ++ r).head? ≠ some 48) : m = 0 := by
  match m with
  | 0 => rfl
  | m + 1 => exact absurd (by simp [zs, List.replicate_succ]) h
theorem zs_last {t : Nat} {r : List UInt8} (h : (r ++ zs t).getLast? ≠ some 48) : t = 0 := by
  match t with
  | 0 => rfl
  | t + 1 => exact absurd (by rw [← zs_snoc, ← List.append_assoc]; simp) h
theorem core_of (D : List UInt8) (h : okD 10 D = true) (h1 : D.head? ≠ some 48) (h2 : D.getLast? ≠ some 48) : ∃ c, c % 10 ≠ 0 ∧ D = dg c := by
  obtain ⟨hne, ha⟩ := (okD_iff _ _).1 h
  rcases parts D ha with hz | ⟨m, c, t, hc, he⟩
  · exfalso
    match D, hne with
    | x :: r, _ => rw [hz] at h1; exact h1 (by simp [zs, List.replicate_succ])
  · rw [he] at h1 h2
    have hm := zs_head h1
    rw [← List.append_assoc] at h2
    have ht := zs_last h2
    subst hm ht
    exact ⟨c, hc, by rw [he]; simp⟩
/-- What may be, one by one. -/
theorem decB_cases {k : Int} {n : Bool} {D E : List UInt8} (h : decB k n D E = true) :
    (k = 0 ∧ D = [48] ∧ E = [48]) ∨ (k = 0 ∧ ∃ c z, c % 10 ≠ 0 ∧ D = dg c ∧ E = txt z) ∨ (k = 1 ∧ D = [] ∧ E = []) ∨ (k = 2 ∧ n = false ∧ D = [] ∧ E = []) := by
  unfold decB at h
  by_cases h0 : k = 0
  · rw [if_pos h0] at h
    by_cases hd : D = [48]
    · rw [if_pos hd] at h
      exact Or.inl ⟨h0, hd, of_decide_eq_true h⟩
    · rw [if_neg hd] at h
      simp only [Bool.and_eq_true, decide_eq_true_eq] at h
      obtain ⟨c, hc, e⟩ := core_of D h.1.1.1 h.1.1.2 h.1.2
      obtain ⟨z, hz⟩ := txt_of_good h.2
      exact Or.inr (Or.inl ⟨h0, c, z, hc, e, hz⟩)
  · rw [if_neg h0] at h
    by_cases h1 : k = 1
    · rw [if_pos h1] at h
      simp only [Bool.and_eq_true, decide_eq_true_eq] at h
      exact Or.inr (Or.inr (Or.inl ⟨h1, h.1, h.2⟩))
    · rw [if_neg h1] at h
      by_cases h2 : k = 2
      · rw [if_pos h2] at h
        simp only [Bool.and_eq_true, decide_eq_true_eq, Bool.not_eq_true'] at h
        exact Or.inr (Or.inr (Or.inr ⟨h2, h.2, h.1.1, h.1.2⟩))
      · rw [if_neg h2] at h; cases h
theorem prt_ne (k : Int) (n : Bool) (D E : List UInt8) : prt k n D E ≠ [] := by
  unfold prt
  split
  · simp
  · split
    · simp
    · simp
theorem out_yes {k : Int} {n : Bool} {D E : List UInt8} (h : decB k n D E = true) : out k n D E = prt k n D E := by unfold out; rw [if_pos h]
theorem out_no {k : Int} {n : Bool} {D E : List UInt8} (h : decB k n D E = false) : out k n D E = [] := by unfold out; rw [if_neg (by rw [h]; simp)]
end M
end Go.Proofs.YtocegiffbgnogaaDoor
