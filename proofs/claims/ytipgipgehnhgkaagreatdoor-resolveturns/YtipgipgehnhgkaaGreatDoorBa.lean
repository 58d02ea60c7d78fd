/- Plain mathematics: digits, their values, decimal texts of whole numbers. Plain mathematics: the forms of the old schema's whole numbers, read sign by sign. Plain mathematics: numbers in pieces of seven digits, the lowest piece first. Plain mathematics: which number is less, by its digits; a number taken away digit by digit. Plain mathematics: decimals, their parts and their texts. Small things that all walks of this seat use. Rows of bytes that a call has made: known whole, written, turned to strings. Blocks of memory that hold a decimal. Walks: digitAt, digitsOf, decimal, isStep, split, Good, trimLeftByte, TrimLeft. Walks: TrimLeft, CutPrefix, split, whole, Norm. Walks: whole, Norm. Walk of big.mulAdd: pieces times m, and k. Walk of big.written: the digits of pieces. Walk of big.read: the pieces of decimal digits. Walks of big.Base, MulAdd. Walk: known. The law BigOrder: its walk. The law BigDigits: its walk. Walks: cmp.Compare at int and at string, cmp.Or, compareDigits. Walk: big.Compare. -/
import Derived.Lib.ItoaNum
import Derived.Lib.ItoaMem
import Derived.Test.YtipgipgehnhgkaaGreatDoorRows
import Derived.WalkKit
import Derived.WalkSpells
import Derived.WalkLawsBesides
import Derived.Deep.QuietTactic
import Derived.BigQuiet
import Derived.Lib.Hide
import Derived.Deep.Light
import Derived.LoopTactic
import Derived.Laws.CopyOwn
import Derived.Laws.OwnMore
import Derived.Lib.IndexBytes
import Derived.Lib.BufferWrite
import Derived.Lib.SlBuf
import Derived.Laws.ResultCell
import Derived.Laws.StructEq
import Derived.Sort.Walk0
set_option linter.unusedVariables false
namespace Go.Proofs.YtipgipgehnhgkaaGreatDoor
namespace M

theorem snoc_ind {α : Type} {P : List α → Prop} (h1 : P []) (h2 : ∀ l c, P l → P (l ++ [c])) : ∀ l, P l := by
  intro l
  have h : ∀ r : List α, P r.reverse := by
    intro r
    induction r with
    | nil => exact h1
    | cons c r ih => rw [List.reverse_cons]; exact h2 _ _ ih
  have := h l.reverse
  rwa [List.reverse_reverse] at this

/-- What a digit is worth; 99: it is none. -/
def dv (c : UInt8) : Nat := if 48 ≤ c.toNat ∧ c.toNat ≤ 57 then c.toNat - 48 else if 97 ≤ c.toNat ∧ c.toNat ≤ 102 then c.toNat - 87 else if 65 ≤ c.toNat ∧ c.toNat ≤ 70 then c.toNat - 55 else 99
theorem dv_le (c : UInt8) : dv c ≤ 99 := by unfold dv; split; omega; split; omega; split; omega; omega
theorem dv_lt10 {c : UInt8} (h : dv c < 10) : 48 ≤ c.toNat ∧ c.toNat ≤ 57 ∧ dv c = c.toNat - 48 := by
  unfold dv at h ⊢
  split at h
  · rename_i k; rw [if_pos k]; omega
  · split at h
    · omega
    · split at h <;> omega
theorem dv_dec {c : UInt8} (h1 : 48 ≤ c.toNat) (h2 : c.toNat ≤ 57) : dv c = c.toNat - 48 := by unfold dv; rw [if_pos ⟨h1, h2⟩]
theorem dv_dig (n : Nat) (h : n < 10) : dv (UInt8.ofNat (48 + n)) = n := by
  have e : (UInt8.ofNat (48 + n)).toNat = 48 + n := by simp; omega
  rw [dv_dec (by omega) (by omega)]; omega

def val (b : Nat) (l : List UInt8) : Nat := l.foldl (fun n c => n * b + dv c) 0
theorem val_nil (b : Nat) : val b [] = 0 := rfl
theorem val_snoc (b : Nat) (l : List UInt8) (c : UInt8) : val b (l ++ [c]) = val b l * b + dv c := by simp [val]
theorem val_one (b : Nat) (c : UInt8) : val b [c] = dv c := by simp [val]
theorem val_append (b : Nat) (l m : List UInt8) : val b (l ++ m) = val b l * b ^ m.length + val b m := by
  induction m using snoc_ind generalizing l with
  | h1 => simp [val]
  | h2 m c ih =>
    rw [← List.append_assoc, val_snoc, ih, val_snoc, List.length_append]
    simp only [List.length_cons, List.length_nil, Nat.zero_add, Nat.pow_succ, Nat.add_mul, Nat.mul_assoc]
    omega
theorem val_cons (b : Nat) (c : UInt8) (m : List UInt8) : val b (c :: m) = dv c * b ^ m.length + val b m := by
  have := val_append b [c] m
  rw [val_one] at this; exact this

def allD (b : Nat) (l : List UInt8) : Bool := l.all fun c => decide (dv c < b)
theorem allD_snoc (b : Nat) (l : List UInt8) (c : UInt8) : allD b (l ++ [c]) = (allD b l && decide (dv c < b)) := by simp [allD]
theorem allD_append (b : Nat) (l m : List UInt8) : allD b (l ++ m) = (allD b l && allD b m) := by simp [allD]
theorem allD_iff (b : Nat) (l : List UInt8) : allD b l = true ↔ ∀ c ∈ l, dv c < b := by simp [allD]
def okD (b : Nat) (l : List UInt8) : Bool := !l.isEmpty && allD b l
theorem okD_iff (b : Nat) (l : List UInt8) : okD b l = true ↔ l ≠ [] ∧ allD b l = true := by simp [okD]

theorem val_lt (b : Nat) (l : List UInt8) (h : allD b l = true) : val b l < b ^ l.length := by
  induction l using snoc_ind with
  | h1 => simp [val]
  | h2 l c ih =>
    rw [allD_snoc, Bool.and_eq_true, decide_eq_true_eq] at h
    have := ih h.1
    rw [val_snoc, List.length_append, List.length_cons, List.length_nil, Nat.zero_add, Nat.pow_succ]
    have h2 : (val b l + 1) * b ≤ b ^ l.length * b := Nat.mul_le_mul_right _ this
    rw [Nat.add_mul] at h2
    omega

abbrev dg := Lib.decDigits
theorem dg_small {n : Nat} (h : n < 10) : dg n = [UInt8.ofNat (48 + n)] := by unfold dg; rw [Lib.decDigits, dif_pos h]
theorem dg_big {n : Nat} (h : ¬ n < 10) : dg n = dg (n / 10) ++ [UInt8.ofNat (48 + n % 10)] := by unfold dg; rw [Lib.decDigits, dif_neg h]
theorem dg_snoc (n d : Nat) (hn : 0 < n) (hd : d < 10) : dg (n * 10 + d) = dg n ++ [UInt8.ofNat (48 + d)] := by
  rw [dg_big (by omega)]
  congr 2
  · congr 1; omega
  · congr 2; omega
theorem dg_ind {P : Nat → Prop} (h1 : ∀ n, n < 10 → P n) (h2 : ∀ n, ¬ n < 10 → P (n / 10) → P n) : ∀ n, P n := by
  intro n
  induction n using Nat.strongRecOn with
  | ind n ih =>
    by_cases h : n < 10
    · exact h1 n h
    · exact h2 n h (ih _ (by omega))
theorem dg_ne (n : Nat) : dg n ≠ [] := by
  by_cases h : n < 10
  · rw [dg_small h]; simp
  · rw [dg_big h]; simp
theorem dg_all (n : Nat) : allD 10 (dg n) = true := by
  induction n using dg_ind with
  | h1 n h => rw [dg_small h, allD_iff]; intro c hc; rw [List.mem_singleton.1 hc, dv_dig n h]; exact h
  | h2 n h ih => rw [dg_big h, allD_snoc, ih, dv_dig _ (by omega)]; simp; omega
theorem dg_val (n : Nat) : val 10 (dg n) = n := by
  induction n using dg_ind with
  | h1 n h => rw [dg_small h, val_one, dv_dig n h]
  | h2 n h ih => rw [dg_big h, val_snoc, ih, dv_dig _ (by omega)]; omega
theorem dg_ok (n : Nat) : okD 10 (dg n) = true := (okD_iff _ _).2 ⟨dg_ne n, dg_all n⟩
theorem dg_len_pos (n : Nat) : 0 < (dg n).length := List.length_pos_iff.2 (dg_ne n)
theorem dg_len_le (n k : Nat) (hk : 0 < k) (h : n < 10 ^ k) : (dg n).length ≤ k := by
  induction n using dg_ind generalizing k with
  | h1 n hn => rw [dg_small hn]; exact hk
  | h2 n hn ih =>
    rw [dg_big hn, List.length_append]
    match k, hk with
    | k + 1, _ =>
      have h' : n / 10 < 10 ^ k := by rw [Nat.pow_succ] at h; omega
      have hk' : 0 < k := by
        rcases Nat.eq_zero_or_pos k with rfl | hp
        · simp at h'; omega
        · exact hp
      have := ih k hk' h'
      simp; omega
theorem dg_lt (n : Nat) : n < 10 ^ (dg n).length := by
  have := val_lt 10 (dg n) (dg_all n)
  rwa [dg_val] at this
theorem dg_ge (n : Nat) (h : 0 < n) : 10 ^ ((dg n).length - 1) ≤ n := by
  induction n using dg_ind with
  | h1 n hn => rw [dg_small hn]; exact h
  | h2 n hn ih =>
    have := ih (by omega)
    have hp := dg_len_pos (n / 10)
    rw [dg_big hn, List.length_append, List.length_cons, List.length_nil, Nat.zero_add, Nat.add_sub_cancel]
    obtain ⟨m, hm⟩ : ∃ m, (dg (n / 10)).length = m + 1 := ⟨(dg (n / 10)).length - 1, by omega⟩
    rw [hm] at this ⊢
    rw [Nat.add_sub_cancel] at this
    rw [Nat.pow_succ]
    omega
theorem dg_head (n : Nat) (h : 0 < n) : ∃ c r, dg n = c :: r ∧ c.toNat ≠ 48 ∧ 48 ≤ c.toNat ∧ c.toNat ≤ 57 := by
  induction n using dg_ind with
  | h1 n hn => exact ⟨_, [], dg_small hn, by simp; omega, by simp; omega, by simp; omega⟩
  | h2 n hn ih =>
    obtain ⟨c, r, e, k⟩ := ih (by omega)
    exact ⟨c, r ++ [UInt8.ofNat (48 + n % 10)], by rw [dg_big hn, e]; rfl, k⟩
theorem dg_zero : dg 0 = [48] := by rw [dg_small (by omega)]; rfl

def strip (l : List UInt8) : List UInt8 := l.dropWhile (· == 48)
theorem strip_append (l m : List UInt8) : strip (l ++ m) = if strip l = [] then strip m else strip l ++ m := by
  unfold strip
  rw [List.dropWhile_append]
  simp
theorem ofNat_of_dv {c : UInt8} (h : dv c < 10) : UInt8.ofNat (48 + dv c) = c := by
  have := dv_lt10 h
  apply UInt8.toNat_inj.1
  simp
  omega
theorem strip_all (l : List UInt8) (h : allD 10 l = true) : strip l = if val 10 l = 0 then [] else dg (val 10 l) := by
  induction l using snoc_ind with
  | h1 => simp [strip, val]
  | h2 l c ih =>
    rw [allD_snoc, Bool.and_eq_true, decide_eq_true_eq] at h
    have hl := ih h.1
    rw [strip_append, hl, val_snoc]
    by_cases hz : val 10 l = 0
    · rw [if_pos hz, if_pos rfl, hz, Nat.zero_mul, Nat.zero_add]
      have hd := dv_lt10 h.2
      by_cases h0 : dv c = 0
      · rw [if_pos h0]
        have : c = 48 := UInt8.toNat_inj.1 (by simp; omega)
        rw [this]; rfl
      · rw [if_neg h0, dg_small h.2, ofNat_of_dv h.2]
        have : ¬ c = 48 := by intro e; rw [e] at h0; exact h0 (by decide)
        simp [strip, this]
    · rw [if_neg hz, if_neg (dg_ne _), if_neg (by omega), dg_snoc _ _ (by omega) h.2, ofNat_of_dv h.2]

/-- A whole number's text. -/
def txt (z : Int) : List UInt8 := if z < 0 then 45 :: dg z.natAbs else dg z.toNat
theorem txt_nat (n : Nat) : txt (n : Int) = dg n := by unfold txt; rw [if_neg (by omega)]; rfl
theorem txt_neg (n : Nat) (h : 0 < n) : txt (-(n : Int)) = 45 :: dg n := by unfold txt; rw [if_pos (by omega)]; simp
theorem txt_zero : txt 0 = [48] := dg_zero
def sgn (neg : Bool) (n : Nat) : Int := if neg then -(n : Int) else n
theorem txt_sgn (neg : Bool) (n : Nat) (h : 0 < n) : txt (sgn neg n) = if neg then 45 :: dg n else dg n := by
  cases neg
  · exact txt_nat n
  · exact txt_neg n h
theorem sgn_zero (neg : Bool) : sgn neg 0 = 0 := by cases neg <;> rfl

def isNeg (l : List UInt8) : Bool := decide (l.head? = some 45)
def unsign (l : List UInt8) : List UInt8 := if isNeg l = true then l.tail else l
def goodB (l : List UInt8) : Bool := decide (l = [48]) || (okD 10 (unsign l) && decide (unsign l ≠ [] ∧ (unsign l).head? ≠ some 48))
theorem isNeg_dg (n : Nat) : isNeg (dg n) = false := by
  have h := dg_all n
  obtain ⟨c, r, e⟩ := List.exists_cons_of_ne_nil (dg_ne n)
  rw [e] at h ⊢
  have h' := dv_lt10 (((allD_iff _ _).1 h) c (by simp))
  unfold isNeg
  simp
  intro k; rw [k] at h'; exact absurd h'.1 (by decide)
theorem isNeg_cons (l : List UInt8) : isNeg (45 :: l) = true := by simp [isNeg]
theorem unsign_dg (n : Nat) : unsign (dg n) = dg n := by unfold unsign; rw [isNeg_dg]; rfl
theorem unsign_cons (l : List UInt8) : unsign (45 :: l) = l := by unfold unsign; rw [isNeg_cons]; rfl
theorem txt_isNeg (z : Int) : isNeg (txt z) = decide (z < 0) := by
  unfold txt
  by_cases h : z < 0
  · rw [if_pos h, isNeg_cons, decide_eq_true h]
  · rw [if_neg h, isNeg_dg, decide_eq_false h]
theorem txt_unsign (z : Int) : unsign (txt z) = dg z.natAbs := by
  unfold txt
  by_cases h : z < 0
  · rw [if_pos h, unsign_cons]
  · rw [if_neg h, unsign_dg]; congr 1; omega
theorem goodB_dg_pos (n : Nat) (h : 0 < n) : (okD 10 (dg n) && decide (dg n ≠ [] ∧ (dg n).head? ≠ some 48)) = true := by
  rw [dg_ok, Bool.true_and, decide_eq_true_eq]
  refine ⟨dg_ne n, ?_⟩
  obtain ⟨c, r, e, k, _⟩ := dg_head n h
  rw [e]
  simp
  intro k'; rw [k'] at k; exact k rfl
theorem good_txt (z : Int) : goodB (txt z) = true := by
  by_cases h : z = 0
  · rw [h, txt_zero]; decide
  · unfold goodB
    rw [txt_unsign, goodB_dg_pos _ (by omega), Bool.or_true]
theorem strip_self {l : List UInt8} (h : l.head? ≠ some 48) : strip l = l := by
  match l with
  | [] => rfl
  | c :: r =>
    have : ¬ c = 48 := by intro e; exact h (by simp [e])
    simp [strip, this]
theorem dg_of (l : List UInt8) (h1 : okD 10 l = true) (h2 : l ≠ [] ∧ l.head? ≠ some 48) : 0 < val 10 l ∧ l = dg (val 10 l) := by
  have h := strip_all l ((okD_iff _ _).1 h1).2
  rw [strip_self h2.2] at h
  by_cases hz : val 10 l = 0
  · rw [if_pos hz] at h; exact absurd h h2.1
  · rw [if_neg hz] at h; exact ⟨by omega, h⟩
theorem isNeg_split (l : List UInt8) (h : isNeg l = true) : l = 45 :: unsign l := by
  unfold unsign
  rw [if_pos h]
  match l, h with
  | c :: r, h => simp [isNeg] at h; simp [h]
theorem txt_of_good {l : List UInt8} (h : goodB l = true) : ∃ z : Int, l = txt z := by
  unfold goodB at h
  rw [Bool.or_eq_true, Bool.and_eq_true, decide_eq_true_eq, decide_eq_true_eq] at h
  rcases h with h | ⟨h1, h2⟩
  · exact ⟨0, by rw [h, txt_zero]⟩
  · obtain ⟨hp, he⟩ := dg_of _ h1 h2
    by_cases hn : isNeg l = true
    · refine ⟨-(val 10 (unsign l) : Nat), ?_⟩
      rw [txt_neg _ hp, ← he]; exact isNeg_split l hn
    · refine ⟨(val 10 (unsign l) : Nat), ?_⟩
      rw [txt_nat, ← he]; unfold unsign; rw [if_neg hn]
theorem txt_ne (z : Int) : txt z ≠ [] := by unfold txt; split; simp; exact dg_ne _
theorem txt_inj {a b : Int} (h : txt a = txt b) : a = b := by
  have h1 := congrArg isNeg h
  have h2 := congrArg (fun l => val 10 (unsign l)) h
  simp only [txt_unsign, dg_val] at h2
  rw [txt_isNeg, txt_isNeg, decide_eq_decide] at h1
  omega
theorem txt_len (z : Int) (k : Nat) (hk : 0 < k) (h : z.natAbs < 10 ^ k) : (txt z).length ≤ k + 1 := by
  have := dg_len_le z.natAbs k hk h
  unfold txt
  split
  · simp; omega
  · rw [show z.toNat = z.natAbs by omega]; omega
theorem txt_abs (z : Int) : z.natAbs < 10 ^ (txt z).length := by
  have h := dg_lt z.natAbs
  have h2 : (dg z.natAbs).length ≤ (txt z).length := by
    unfold txt
    split
    · simp
    · rw [show z.toNat = z.natAbs by omega]; omega
  exact Nat.lt_of_lt_of_le h (Nat.pow_le_pow_right (by omega) h2)
end M
end Go.Proofs.YtipgipgehnhgkaaGreatDoor

namespace Go.Proofs.YtipgipgehnhgkaaGreatDoor
namespace M

/-- Digits to the base b and gaps, up to the end. -/
def fD (b f : Nat) : List UInt8 → Nat
  | [] => f
  | c :: r => if c = 95 ∨ dv c < b then fD b f r else 0
/-- Gaps, then a digit, then more. -/
def fG (b f : Nat) : List UInt8 → Nat
  | [] => 0
  | c :: r => if c = 95 then fG b f r else if dv c < b then fD b f r else 0
/-- What stands behind a nought. -/
def fN : List UInt8 → Nat
  | [] => 4
  | c :: r => if c = 98 then fG 2 1 r else if c = 120 then fG 16 2 r else fG 8 3 (c :: r)
/-- Base 60: 1 behind a colon, 2 behind a digit below six, 3 where a part is full. -/
def fS : Nat → List UInt8 → Nat
  | k, [] => if k = 1 then 0 else 6
  | k, c :: r => if k = 1 then (if dv c < 6 then fS 2 r else if dv c < 10 then fS 3 r else 0) else if k = 2 ∧ dv c < 10 then fS 3 r else if c = 58 then fS 1 r else 0
/-- What stands behind a first digit that is no nought. -/
def fA : List UInt8 → Nat
  | [] => 5
  | c :: r => if c = 95 ∨ dv c < 10 then fA r else if c = 58 then fS 1 r else 0
def fB : List UInt8 → Nat
  | [] => 0
  | c :: r => if c = 48 then fN r else if dv c < 10 then fA r else 0
def unplus (l : List UInt8) : List UInt8 := if l.head? = some 43 then l.tail else l
theorem unplus_len (l : List UInt8) : (unplus l).length ≤ l.length := by unfold unplus; split <;> simp
/-- Without its sign. -/
def body (l : List UInt8) : List UInt8 := if isNeg l = true then unsign l else unplus l
theorem body_len (l : List UInt8) : (body l).length ≤ l.length := by
  unfold body; split
  · unfold unsign; split <;> simp
  · exact unplus_len l
def form (l : List UInt8) : Nat := fB (body l)
def gone (l : List UInt8) : List UInt8 := l.filter fun c => decide (c ≠ 95)
theorem gone_len (l : List UInt8) : (gone l).length ≤ l.length := List.length_filter_le _ _
theorem gone_append (l m : List UInt8) : gone (l ++ m) = gone l ++ gone m := by simp [gone]
/-- Base 60: n so far, p the part at hand. -/
def sx (n p : Nat) : List UInt8 → Nat
  | [] => n * 60 + p
  | c :: r => if c = 58 then sx (n * 60 + p) 0 r else sx n (p * 10 + dv c) r
/-- What is said once n has been read, and l is behind it. -/
def rd (n : Nat) (l : List UInt8) : Nat := if l = [] then n else sx n 0 l
theorem sx_part (D r : List UInt8) (n p : Nat) (h : ∀ c ∈ D, c ≠ 58) : sx n p (D ++ 58 :: r) = sx (n * 60 + D.foldl (fun n c => n * 10 + dv c) p) 0 r := by
  induction D generalizing p with
  | nil => simp [sx]
  | cons c D ih =>
    have hc : c ≠ 58 := h c (by simp)
    rw [List.cons_append, sx, if_neg hc, ih _ (fun x hx => h x (by simp [hx]))]
    rfl
theorem sx_last (D : List UInt8) (n p : Nat) (h : ∀ c ∈ D, c ≠ 58) : sx n p D = n * 60 + D.foldl (fun n c => n * 10 + dv c) p := by
  induction D generalizing p with
  | nil => simp [sx]
  | cons c D ih =>
    have hc : c ≠ 58 := h c (by simp)
    rw [sx, if_neg hc, ih _ (fun x hx => h x (by simp [hx]))]
    rfl
end M
end Go.Proofs.YtipgipgehnhgkaaGreatDoor

namespace Go.Proofs.YtipgipgehnhgkaaGreatDoor
namespace M
def pv : List Nat → Nat
  | [] => 0
  | p :: r => p + 10000000 * pv r
def Small (ps : List Nat) : Prop := ∀ p ∈ ps, p < 10000000
theorem pv_append (a b : List Nat) : pv (a ++ b) = pv a + 10000000 ^ a.length * pv b := by
  induction a with
  | nil => simp [pv]
  | cons p r ih =>
    simp only [List.cons_append, pv, ih, List.length_cons, Nat.pow_succ]
    rw [Nat.mul_add, Nat.add_assoc, ← Nat.mul_assoc, Nat.mul_comm 10000000 (10000000 ^ r.length)]
theorem pv_snoc (a : List Nat) (p : Nat) : pv (a ++ [p]) = pv a + 10000000 ^ a.length * p := by rw [pv_append]; simp [pv]
theorem Small.snoc {a : List Nat} {p : Nat} (h : Small a) (hp : p < 10000000) : Small (a ++ [p]) := by
  intro q hq
  rcases List.mem_append.1 hq with h1 | h1
  · exact h q h1
  · rw [List.mem_singleton.1 h1]; exact hp
theorem Small.nil : Small [] := by intro q hq; cases hq
/-- One step of the product. -/
theorem mul_step (done : List Nat) (k m p R T : Nat) (h : pv done + 10000000 ^ done.length * (k + m * (p + 10000000 * R)) = T) :
    pv (done ++ [(k + p * m) % 10000000]) + 10000000 ^ (done ++ [(k + p * m) % 10000000]).length * ((k + p * m) / 10000000 + m * R) = T := by
  rw [pv_snoc, List.length_append, List.length_cons, List.length_nil, Nat.zero_add, Nat.pow_succ, ← h, Nat.add_assoc, Nat.mul_assoc, ← Nat.mul_add]
  congr 2
  rw [Nat.mul_add, Nat.mul_add, ← Nat.add_assoc, ← Nat.add_assoc, Nat.mod_add_div, Nat.mul_comm p m, Nat.mul_left_comm]
theorem carry_step (done : List Nat) (k T : Nat) (h : pv done + 10000000 ^ done.length * k = T) :
    pv (done ++ [k % 10000000]) + 10000000 ^ (done ++ [k % 10000000]).length * (k / 10000000) = T := by
  have := mul_step done k 0 0 0 T (by simpa using h)
  simpa using this
theorem carry_le {k p m : Nat} (hk : k ≤ 1099511627776) (hp : p < 10000000) (hm : m ≤ 1099511627776) : k + p * m ≤ 10995116277760000000 ∧ (k + p * m) / 10000000 ≤ 1099511627776 := by
  have h1 : p * m ≤ 9999999 * 1099511627776 := Nat.mul_le_mul (by omega) hm
  omega
theorem carry_room {e k : Nat} (h : 10000000 ^ e * k ≤ 1099511627776) (hk : 0 < k) : e < 2 ∧ 10000000 ^ (e + 1) * (k / 10000000) ≤ 1099511627776 := by
  constructor
  · have h1 : 10000000 ^ e ≤ 1099511627776 := Nat.le_trans (Nat.le_mul_of_pos_right _ hk) h
    rcases Nat.lt_or_ge e 2 with h2 | h2
    · exact h2
    · have := Nat.pow_le_pow_right (show 0 < 10000000 by omega) h2
      have h3 : (10000000 : Nat) ^ 2 = 100000000000000 := by decide
      omega
  · rw [Nat.pow_succ, Nat.mul_assoc]
    exact Nat.le_trans (Nat.mul_le_mul_left _ (Nat.mul_div_le k 10000000)) h
theorem drop_pv (ps : List Nat) (i : Nat) (h : i < ps.length) : pv (ps.drop i) = ps[i] + 10000000 * pv (ps.drop (i + 1)) := by
  rw [List.drop_eq_getElem_cons h]; rfl

/-- Seven digits of a piece. -/
def lastD : Nat → Nat → List UInt8 → List UInt8
  | 0, _, r => r
  | n + 1, p, r => lastD n (p / 10) (UInt8.ofNat (48 + p % 10) :: r)
theorem lastD_append (n p : Nat) (r : List UInt8) : lastD n p r = lastD n p [] ++ r := by
  induction n generalizing p r with
  | zero => rfl
  | succ n ih => rw [lastD, lastD, ih (p / 10) (_ :: r), ih (p / 10) [_], List.append_assoc]; rfl
theorem lastD_length (n p : Nat) (r : List UInt8) : (lastD n p r).length = n + r.length := by
  induction n generalizing p r with
  | zero => simp [lastD]
  | succ n ih => rw [lastD, ih]; simp; omega
theorem lastD_ok (n p : Nat) (r : List UInt8) (h : allD 10 r = true) : allD 10 (lastD n p r) = true ∧ val 10 (lastD n p r) = p % 10 ^ n * 10 ^ r.length + val 10 r := by
  induction n generalizing p r with
  | zero => simp [lastD, h, Nat.mod_one]
  | succ n ih =>
    have hd : dv (UInt8.ofNat (48 + p % 10)) = p % 10 := dv_dig _ (by omega)
    have h' : allD 10 (UInt8.ofNat (48 + p % 10) :: r) = true := by
      rw [allD_iff] at h ⊢
      intro c hc
      rcases List.mem_cons.1 hc with rfl | hc
      · rw [hd]; omega
      · exact h c hc
    obtain ⟨h1, h2⟩ := ih (p / 10) _ h'
    refine ⟨h1, ?_⟩
    rw [lastD, h2, val_cons, hd, List.length_cons]
    have e1 : p % 10 ^ (n + 1) = p / 10 % 10 ^ n * 10 + p % 10 := by
      have := @Nat.mod_mul 10 (10 ^ n) p
      rw [show (10 : Nat) ^ (n + 1) = 10 * 10 ^ n by rw [Nat.pow_succ, Nat.mul_comm], this]
      omega
    rw [e1, Nat.add_mul, Nat.pow_succ, Nat.mul_comm (10 ^ r.length) 10, ← Nat.mul_assoc, Nat.add_assoc]
/-- The digits that 'written' writes. -/
def wr : List Nat → List UInt8
  | [] => []
  | p :: r => wr r ++ lastD 7 p []
theorem wr_snoc (a : List Nat) (p : Nat) : wr (a ++ [p]) = lastD 7 p [] ++ wr a := by
  induction a with
  | nil => simp [wr]
  | cons q r ih => simp only [List.cons_append, wr, ih, List.append_assoc]
theorem wr_length (a : List Nat) : (wr a).length = 7 * a.length := by
  induction a with
  | nil => rfl
  | cons q r ih => rw [wr, List.length_append, ih, lastD_length, List.length_cons]; simp; omega
theorem wr_ok (a : List Nat) (h : Small a) : allD 10 (wr a) = true ∧ val 10 (wr a) = pv a := by
  induction a with
  | nil => exact ⟨rfl, rfl⟩
  | cons q r ih =>
    obtain ⟨h1, h2⟩ := ih (fun x hx => h x (List.mem_cons_of_mem _ hx))
    obtain ⟨h3, h4⟩ := lastD_ok 7 q [] rfl
    have hq := h q (by simp)
    rw [wr]
    refine ⟨by rw [allD_append, h1, h3]; rfl, ?_⟩
    rw [val_append, h2, h4, lastD_length, pv]
    simp only [List.length_nil, Nat.add_zero, Nat.pow_zero, Nat.mul_one, val_nil]
    rw [show (10 : Nat) ^ 7 = 10000000 by decide, Nat.mod_eq_of_lt hq]
    omega
end M
end Go.Proofs.YtipgipgehnhgkaaGreatDoor

namespace Go.Proofs.YtipgipgehnhgkaaGreatDoor
namespace M
def cmpZ (a b : Int) : Int := if a < b then -1 else if b < a then 1 else 0
def cmpS (l m : List UInt8) : Int := if l.length < m.length then -1 else if m.length < l.length then 1 else if l < m then -1 else if m < l then 1 else 0
theorem cmpZ_swap (a b : Int) : cmpZ b a = -cmpZ a b := by unfold cmpZ; repeat' split <;> omega
theorem cmpZ_self (a : Int) : cmpZ a a = 0 := by unfold cmpZ; simp
theorem cmpZ_zero (a b : Int) : cmpZ a b = 0 ↔ a = b := by
  unfold cmpZ
  constructor
  · intro h; split at h
    · omega
    · split at h <;> omega
  · intro h; rw [if_neg (by omega), if_neg (by omega)]
theorem cmpZ_neg (a b : Int) : cmpZ (-a) (-b) = -cmpZ a b := by
  rw [← cmpZ_swap]
  unfold cmpZ
  by_cases h1 : a < b
  · rw [if_neg (by omega), if_pos (by omega), if_neg (by omega), if_pos (by omega)]
  · by_cases h2 : b < a
    · rw [if_pos (by omega), if_pos (by omega)]
    · rw [if_neg (by omega), if_neg (by omega), if_neg (by omega), if_neg (by omega)]
theorem cmpZ_add (a b c : Int) : cmpZ (a + b) (a + c) = cmpZ b c := by
  unfold cmpZ
  by_cases h1 : b < c
  · rw [if_pos (by omega), if_pos (by omega)]
  · by_cases h2 : c < b
    · rw [if_neg (by omega), if_pos (by omega), if_neg (by omega), if_pos (by omega)]
    · rw [if_neg (by omega), if_neg (by omega), if_neg (by omega), if_neg (by omega)]
theorem cmpZ_lt (a b : Int) : cmpZ a b < 0 ↔ a < b := by
  unfold cmpZ
  by_cases h1 : a < b
  · rw [if_pos h1]; simp [h1]
  · rw [if_neg h1]; split <;> omega

theorem lt_iff_val (l m : List UInt8) (hl : allD 10 l = true) (hm : allD 10 m = true) (h : l.length = m.length) : l < m ↔ val 10 l < val 10 m := by
  induction l generalizing m with
  | nil =>
    cases m with
    | nil => simp [val]
    | cons d r => simp at h
  | cons c l ih =>
    cases m with
    | nil => simp at h
    | cons d m =>
      have h' : l.length = m.length := by simpa using h
      have hc := (allD_iff _ _).1 hl c (by simp)
      have hd := (allD_iff _ _).1 hm d (by simp)
      have hl' : allD 10 l = true := (allD_iff _ _).2 fun x hx => (allD_iff _ _).1 hl x (List.mem_cons_of_mem _ hx)
      have hm' : allD 10 m = true := (allD_iff _ _).2 fun x hx => (allD_iff _ _).1 hm x (List.mem_cons_of_mem _ hx)
      have b1 := val_lt 10 l hl'
      have b2 := val_lt 10 m hm'
      have kc := dv_lt10 hc
      have kd := dv_lt10 hd
      have e1 : c < d ↔ dv c < dv d := by rw [UInt8.lt_iff_toNat_lt]; omega
      have e2 : c = d ↔ dv c = dv d := by rw [← UInt8.toNat_inj]; omega
      rw [List.cons_lt_cons_iff, ih m hl' hm' h', val_cons, val_cons, h', e1, e2]
      rw [h'] at b1
      generalize 10 ^ m.length = T at *
      generalize val 10 l = p at *
      generalize val 10 m = q at *
      generalize dv c = x at *
      generalize dv d = y at *
      constructor
      · rintro (k | ⟨rfl, k⟩)
        · have : (x + 1) * T ≤ y * T := Nat.mul_le_mul_right _ k
          rw [Nat.add_mul] at this; omega
        · omega
      · intro k
        rcases Nat.lt_trichotomy x y with hx | hx | hx
        · exact Or.inl hx
        · subst hx; exact Or.inr ⟨rfl, by omega⟩
        · have : (y + 1) * T ≤ x * T := Nat.mul_le_mul_right _ hx
          rw [Nat.add_mul] at this; omega
theorem dg_len_lt {a b : Nat} (h : (dg a).length < (dg b).length) : a < b := by
  have h1 := dg_lt a
  rcases Nat.eq_zero_or_pos b with rfl | hb
  · have := dg_len_pos a
    rw [dg_zero] at h
    have h' : (dg a).length < 1 := h
    omega
  · have h2 := dg_ge b hb
    have h3 : 10 ^ (dg a).length ≤ 10 ^ ((dg b).length - 1) := Nat.pow_le_pow_right (by omega) (by omega)
    omega
theorem cmpS_dg (a b : Nat) : cmpS (dg a) (dg b) = cmpZ a b := by
  unfold cmpS cmpZ
  by_cases h1 : (dg a).length < (dg b).length
  · have := dg_len_lt h1
    rw [if_pos h1, if_pos (by omega)]
  · by_cases h2 : (dg b).length < (dg a).length
    · have := dg_len_lt h2
      rw [if_neg h1, if_pos h2, if_neg (by omega), if_pos (by omega)]
    · rw [if_neg h1, if_neg h2]
      have e1 := lt_iff_val (dg a) (dg b) (dg_all a) (dg_all b) (by omega)
      have e2 := lt_iff_val (dg b) (dg a) (dg_all b) (dg_all a) (by omega)
      rw [dg_val, dg_val] at e1 e2
      by_cases k1 : a < b
      · rw [if_pos (e1.2 k1), if_pos (by omega)]
      · by_cases k2 : b < a
        · rw [if_neg (fun x => k1 (e1.1 x)), if_pos (e2.2 k2), if_neg (by omega), if_pos (by omega)]
        · rw [if_neg (fun x => k1 (e1.1 x)), if_neg (fun x => k2 (e2.1 x)), if_neg (by omega), if_neg (by omega)]
/-- How Compare tells of two texts of whole numbers. -/
theorem cmp_txt (x y : Int) : cmpZ x y = if x < 0 then (if y < 0 then cmpS (dg y.natAbs) (dg x.natAbs) else -1) else (if y < 0 then 1 else cmpS (dg x.natAbs) (dg y.natAbs)) := by
  rw [cmpS_dg, cmpS_dg]
  unfold cmpZ
  by_cases h1 : x < 0
  · rw [if_pos h1]
    by_cases h2 : y < 0
    · rw [if_pos h2]
      by_cases h3 : x < y
      · rw [if_pos h3, if_pos (by omega)]
      · by_cases h4 : y < x
        · rw [if_neg h3, if_pos h4, if_neg (by omega), if_pos (by omega)]
        · rw [if_neg h3, if_neg h4, if_neg (by omega), if_neg (by omega)]
    · rw [if_neg h2, if_pos (by omega)]
  · rw [if_neg h1]
    by_cases h2 : y < 0
    · rw [if_pos h2, if_neg (by omega), if_pos (by omega)]
    · rw [if_neg h2]
      by_cases h3 : x < y
      · rw [if_pos h3, if_pos (by omega)]
      · by_cases h4 : y < x
        · rw [if_neg h3, if_pos h4, if_neg (by omega), if_pos (by omega)]
        · rw [if_neg h3, if_neg h4, if_neg (by omega), if_neg (by omega)]

/-- The digit that is left, and what is still to be taken away. -/
def subD (d n : Nat) : Nat := if d < n % 10 then d + 10 - n % 10 else d - n % 10
def subN (d n : Nat) : Nat := if d < n % 10 then n / 10 + 1 else n / 10
theorem subD_lt {d n : Nat} (h : d < 10) : subD d n < 10 := by unfold subD; split <;> omega
theorem sub_eq (d n : Nat) : subD d n + n = d + 10 * subN d n := by unfold subD subN; split <;> omega
/-- One step of taking away: p the digits ahead, r those behind that are done. -/
theorem sub_step (p r : List UInt8) (c : UInt8) (n N V : Nat) (hc : dv c < 10) (h : val 10 (p ++ c :: r) + N = V + n * 10 ^ r.length) :
    val 10 (p ++ UInt8.ofNat (48 + subD (dv c) n) :: r) + N = V + subN (dv c) n * 10 ^ (r.length + 1) := by
  rw [val_append, val_cons] at h ⊢
  rw [dv_dig _ (subD_lt hc)]
  have e := sub_eq (dv c) n
  rw [List.length_cons] at h ⊢
  have e2 : subD (dv c) n * 10 ^ r.length + n * 10 ^ r.length = dv c * 10 ^ r.length + subN (dv c) n * 10 ^ (r.length + 1) := by
    rw [← Nat.add_mul, e, Nat.pow_succ, Nat.add_mul]
    congr 1
    rw [Nat.mul_comm 10, Nat.mul_assoc, Nat.mul_comm 10]
  omega
theorem sub_room (p r : List UInt8) (n N V : Nat) (hr : allD 10 r = true) (hN : N ≤ V) (h : val 10 (p ++ r) + N = V + n * 10 ^ r.length) : n ≤ val 10 p := by
  rw [val_append] at h
  have b := val_lt 10 r hr
  have h2 : n * 10 ^ r.length < (val 10 p + 1) * 10 ^ r.length := by rw [Nat.add_mul]; omega
  have := Nat.lt_of_mul_lt_mul_right h2
  omega
theorem val_take_le (b : Nat) (hb : 0 < b) (l : List UInt8) (k : Nat) : val b (l.take k) ≤ val b l := by
  have h := val_append b (l.take k) (l.drop k)
  rw [List.take_append_drop] at h
  have := Nat.le_mul_of_pos_right (val b (l.take k)) (Nat.pow_pos (n := (l.drop k).length) hb)
  omega
end M
end Go.Proofs.YtipgipgehnhgkaaGreatDoor

namespace Go.Proofs.YtipgipgehnhgkaaGreatDoor
namespace M
/-- So many noughts. -/
abbrev zs (n : Nat) : List UInt8 := List.replicate n 48
theorem zs_snoc (n : Nat) : zs n ++ [48] = zs (n + 1) := (List.replicate_succ').symm
theorem val_zs (n : Nat) : val 10 (zs n) = 0 := by
  induction n with
  | zero => rfl
  | succ n ih => rw [← zs_snoc, val_snoc, ih]; decide
theorem all_zs (n : Nat) : allD 10 (zs n) = true := by
  rw [allD_iff]; intro c hc; rw [(List.mem_replicate.1 hc).2]; decide
theorem val_lead (n : Nat) (l : List UInt8) : val 10 (zs n ++ l) = val 10 l := by rw [val_append, val_zs, Nat.zero_mul, Nat.zero_add]
theorem val_trail (n : Nat) (l : List UInt8) : val 10 (l ++ zs n) = val 10 l * 10 ^ n := by rw [val_append, val_zs, Nat.add_zero, List.length_replicate]
theorem dg_pow (c t : Nat) (hc : 0 < c) : dg (c * 10 ^ t) = dg c ++ zs t := by
  induction t with
  | zero => simp
  | succ t ih =>
    have hp : 0 < c * 10 ^ t := Nat.mul_pos hc (Nat.pow_pos (by omega))
    have h := dg_snoc (c * 10 ^ t) 0 hp (by omega)
    rw [Nat.add_zero, Nat.mul_assoc, ← Nat.pow_succ] at h
    rw [h, ih, ← zs_snoc, List.append_assoc]; rfl
theorem dg_last (c : Nat) : ∃ r : List UInt8, dg c = r ++ [UInt8.ofNat (48 + c % 10)] := by
  by_cases h : c < 10
  · exact ⟨[], by rw [dg_small h, Nat.mod_eq_of_lt h]; rfl⟩
  · exact ⟨_, dg_big h⟩
theorem last_ne (c : Nat) (h : c % 10 ≠ 0) : (UInt8.ofNat (48 + c % 10)) ≠ 48 := by
  intro e
  have := congrArg UInt8.toNat e
  simp at this
  omega
/-- Digits in parts: noughts alone, or noughts, a number that does not end with a nought, noughts. -/
theorem parts (l : List UInt8) (h : allD 10 l = true) : l = zs l.length ∨ ∃ m c t : Nat, c % 10 ≠ 0 ∧ l = zs m ++ (dg c ++ zs t) := by
  induction l using snoc_ind with
  | h1 => exact Or.inl rfl
  | h2 l x ih =>
    rw [allD_snoc, Bool.and_eq_true, decide_eq_true_eq] at h
    have hx := dv_lt10 h.2
    have hxe := ofNat_of_dv h.2
    rcases ih h.1 with hz | ⟨m, c, t, hc, he⟩
    · by_cases h0 : dv x = 0
      · left
        have : x = 48 := by rw [← hxe, h0]; rfl
        rw [this, List.length_append, List.length_cons, List.length_nil, ← zs_snoc, ← hz]
      · right
        refine ⟨l.length, dv x, 0, by rw [Nat.mod_eq_of_lt h.2]; exact h0, ?_⟩
        rw [dg_small h.2, hxe, ← hz]; simp
    · right
      have hcp : 0 < c := by rcases Nat.eq_zero_or_pos c with h | h; rw [h] at hc; exact absurd rfl hc; exact h
      by_cases h0 : dv x = 0
      · have : x = 48 := by rw [← hxe, h0]; rfl
        refine ⟨m, c, t + 1, hc, ?_⟩
        rw [he, this, ← zs_snoc]; simp only [List.append_assoc]
      · have hp : 0 < c * 10 ^ t := Nat.mul_pos hcp (Nat.pow_pos (by omega))
        refine ⟨m, c * 10 ^ t * 10 + dv x, 0, by omega, ?_⟩
        rw [dg_snoc _ _ hp h.2, dg_pow c t hcp, hxe, he]; simp
theorem parts_val {l : List UInt8} {m c t : Nat} (h : l = zs m ++ (dg c ++ zs t)) : val 10 l = c * 10 ^ t := by
  rw [h, val_lead, val_trail, dg_val]
theorem c_pos {c : Nat} (hc : c % 10 ≠ 0) : 0 < c := by
  rcases Nat.eq_zero_or_pos c with h | h
  · rw [h] at hc; exact absurd rfl hc
  · exact h
theorem ct_pos {c : Nat} (t : Nat) (hc : c % 10 ≠ 0) : 0 < c * 10 ^ t := Nat.mul_pos (c_pos hc) (Nat.pow_pos (by omega))
/-- The parts are one's own. -/
theorem ct_uniq {c t c' t' : Nat} (hc : c % 10 ≠ 0) (hc' : c' % 10 ≠ 0) (h : c * 10 ^ t = c' * 10 ^ t') : c = c' ∧ t = t' := by
  induction t generalizing t' with
  | zero =>
    match t' with
    | 0 => simp at h; exact ⟨h, rfl⟩
    | t' + 1 =>
      rw [Nat.pow_succ, ← Nat.mul_assoc] at h
      simp at h
      omega
  | succ t ih =>
    match t' with
    | 0 =>
      rw [Nat.pow_succ, ← Nat.mul_assoc] at h
      simp at h
      omega
    | t' + 1 =>
      rw [Nat.pow_succ, Nat.pow_succ, ← Nat.mul_assoc, ← Nat.mul_assoc] at h
      have := ih (t' := t') (by omega)
      exact ⟨this.1, by omega⟩
theorem exists_ct (v : Nat) (h : 0 < v) : ∃ c t, c % 10 ≠ 0 ∧ v = c * 10 ^ t := by
  rcases parts (dg v) (dg_all v) with hz | ⟨m, c, t, hc, he⟩
  · have := dg_val v
    rw [hz, val_zs] at this; omega
  · exact ⟨c, t, hc, by rw [← parts_val he, dg_val]⟩
theorem zs_of_val {l : List UInt8} (h : allD 10 l = true) (hv : val 10 l = 0) : l = zs l.length := by
  rcases parts l h with hz | ⟨m, c, t, hc, he⟩
  · exact hz
  · have := parts_val he
    have := ct_pos t hc
    omega
theorem ct_of_val {l : List UInt8} {c t : Nat} (h : allD 10 l = true) (hc : c % 10 ≠ 0) (hv : val 10 l = c * 10 ^ t) : ∃ m, l = zs m ++ (dg c ++ zs t) := by
  rcases parts l h with hz | ⟨m, c', t', hc', he⟩
  · have := ct_pos t hc
    rw [hz, val_zs] at hv; omega
  · obtain ⟨rfl, rfl⟩ := ct_uniq hc hc' (hv.symm.trans (parts_val he))
    exact ⟨m, he⟩
theorem dg_inj {a b : Nat} (h : dg a = dg b) : a = b := by rw [← dg_val a, h, dg_val]

/-- May it be? -/
def decB (k : Int) (n : Bool) (D E : List UInt8) : Bool :=
  if k = 0 then (if D = [48] then decide (E = [48]) else okD 10 D && decide (D.head? ≠ some 48) && decide (D.getLast? ≠ some 48) && goodB E)
  else if k = 1 then decide (D = []) && decide (E = [])
  else if k = 2 then decide (D = []) && decide (E = []) && !n
  else false
def mns (n : Bool) : List UInt8 := if n then [45] else []
def pls (E : List UInt8) : List UInt8 := if isNeg E = true then [] else [43]
/-- Its text. -/
def prt (k : Int) (n : Bool) (D E : List UInt8) : List UInt8 :=
  if k = 1 then mns n ++ [46, 105, 110, 102] else if k = 2 then [46, 110, 97, 110] else mns n ++ (D ++ (46 :: 101 :: (pls E ++ E)))
/-- What is printed. -/
def out (k : Int) (n : Bool) (D E : List UInt8) : List UInt8 := if decB k n D E = true then prt k n D E else []
theorem dg_core_head (c : Nat) (hc : c % 10 ≠ 0) : (dg c).head? ≠ some 48 := by
  obtain ⟨x, r, e, k, _⟩ := dg_head c (c_pos hc)
  rw [e]; simp; intro h; rw [h] at k; exact k rfl
theorem dg_core_last (c : Nat) (hc : c % 10 ≠ 0) : (dg c).getLast? ≠ some 48 := by
  obtain ⟨r, e⟩ := dg_last c
  rw [e, List.getLast?_append]
  intro h
  exact last_ne c hc (Option.some.inj h)
theorem dg_core_ne (c : Nat) (hc : c % 10 ≠ 0) : dg c ≠ [48] := by
  intro h; exact dg_core_head c hc (by rw [h]; rfl)
theorem decB_zero (n : Bool) : decB 0 n [48] [48] = true := by cases n <;> decide
theorem decB_fin (n : Bool) (c : Nat) (z : Int) (hc : c % 10 ≠ 0) : decB 0 n (dg c) (txt z) = true := by
  unfold decB
  rw [if_pos rfl, if_neg (dg_core_ne c hc), dg_ok, good_txt, decide_eq_true (dg_core_head c hc), decide_eq_true (dg_core_last c hc)]; rfl
theorem decB_inf (n : Bool) : decB 1 n [] [] = true := by cases n <;> decide
theorem decB_nan : decB 2 false [] [] = true := by decide
theorem zs_head {m : Nat} {r : List UInt8} (h : (zs m ++ r).head? ≠ some 48) : m = 0 := by
  match m with
  | 0 => rfl
  | m + 1 => exact absurd (by simp [zs, List.replicate_succ]) h
theorem zs_last {t : Nat} {r : List UInt8} (h : (r ++ zs t).getLast? ≠ some 48) : t = 0 := by
  match t with
  | 0 => rfl
  | t + 1 => exact absurd (by rw [← zs_snoc, ← List.append_assoc]; simp) h
theorem core_of (D : List UInt8) (h : okD 10 D = true) (h1 : D.head? ≠ some 48) (h2 : D.getLast? ≠ some 48) : ∃ c, c % 10 ≠ 0 ∧ D = dg c := by
  obtain ⟨hne, ha⟩ := (okD_iff _ _).1 h
  rcases parts D ha with hz | ⟨m, c, t, hc, he⟩
  · exfalso
    match D, hne with
    | x :: r, _ => rw [hz] at h1; exact h1 (by simp [zs, List.replicate_succ])
  · rw [he] at h1 h2
    have hm := zs_head h1
    rw [← List.append_assoc] at h2
    have ht := zs_last h2
    subst hm ht
    exact ⟨c, hc, by rw [he]; simp⟩
/-- What may be, one by one. -/
theorem decB_cases {k : Int} {n : Bool} {D E : List UInt8} (h : decB k n D E = true) :
    (k = 0 ∧ D = [48] ∧ E = [48]) ∨ (k = 0 ∧ ∃ c z, c % 10 ≠ 0 ∧ D = dg c ∧ E = txt z) ∨ (k = 1 ∧ D = [] ∧ E = []) ∨ (k = 2 ∧ n = false ∧ D = [] ∧ E = []) := by
  unfold decB at h
  by_cases h0 : k = 0
  · rw [if_pos h0] at h
    by_cases hd : D = [48]
    · rw [if_pos hd] at h
      exact Or.inl ⟨h0, hd, of_decide_eq_true h⟩
    · rw [if_neg hd] at h
      simp only [Bool.and_eq_true, decide_eq_true_eq] at h
      obtain ⟨c, hc, e⟩ := core_of D h.1.1.1 h.1.1.2 h.1.2
      obtain ⟨z, hz⟩ := txt_of_good h.2
      exact Or.inr (Or.inl ⟨h0, c, z, hc, e, hz⟩)
  · rw [if_neg h0] at h
    by_cases h1 : k = 1
    · rw [if_pos h1] at h
      simp only [Bool.and_eq_true, decide_eq_true_eq] at h
      exact Or.inr (Or.inr (Or.inl ⟨h1, h.1, h.2⟩))
    · rw [if_neg h1] at h
      by_cases h2 : k = 2
      · rw [if_pos h2] at h
        simp only [Bool.and_eq_true, decide_eq_true_eq, Bool.not_eq_true'] at h
        exact Or.inr (Or.inr (Or.inr ⟨h2, h.2, h.1.1, h.1.2⟩))
      · rw [if_neg h2] at h; cases h
theorem prt_ne (k : Int) (n : Bool) (D E : List UInt8) : prt k n D E ≠ [] := by
  unfold prt
  split
  · simp
  · split
    · simp
    · simp
theorem out_yes {k : Int} {n : Bool} {D E : List UInt8} (h : decB k n D E = true) : out k n D E = prt k n D E := by unfold out; rw [if_pos h]
theorem out_no {k : Int} {n : Bool} {D E : List UInt8} (h : decB k n D E = false) : out k n D E = [] := by unfold out; rw [if_neg (by rw [h]; simp)]
end M
end Go.Proofs.YtipgipgehnhgkaaGreatDoor

namespace Go.Proofs.YtipgipgehnhgkaaGreatDoor
open Go.RowKit

theorem ret_int {k : IntKind} {a b : Int} (h : a = b) : Ending.returned (.int k a) = .returned (.int k b) := by rw [h]
theorem ret_bool {a b : Bool} (h : a = b) : Ending.returned (.bool a) = .returned (.bool b) := by rw [h]
theorem ret_str {a b : ByteArray} (h : a = b) : Ending.returned (.string a) = .returned (.string b) := by rw [h]
theorem sz_list (s : ByteArray) : s.size = s.data.toList.length := by cases s; simp [ByteArray.size]
theorem append_list (s t : ByteArray) : (s ++ t).data.toList = s.data.toList ++ t.data.toList := by simp
theorem append_sz (s t : ByteArray) : (s ++ t).size = s.size + t.size := by rw [sz_list, append_list, List.length_append, ← sz_list, ← sz_list]

def bA (l : List UInt8) : ByteArray := ⟨l.toArray⟩
theorem bA_size (l : List UInt8) : (bA l).size = l.length := by simp [bA, ByteArray.size]
theorem bA_toList (l : List UInt8) : (bA l).data.toList = l := by simp [bA]
theorem bA_of (s : ByteArray) : bA s.data.toList = s := by cases s; simp [bA]
theorem eq_bA {s : ByteArray} {l : List UInt8} (h : s.data.toList = l) : s = bA l := by rw [← h, bA_of]
theorem bA_append (l m : List UInt8) : bA l ++ bA m = bA (l ++ m) := by
  apply eq_bA; rw [append_list, bA_toList, bA_toList]
theorem bA_inj {l m : List UInt8} : bA l = bA m ↔ l = m := ⟨fun h => by rw [← bA_toList l, h, bA_toList], fun h => by rw [h]⟩
/-- A whole number's text, as a string. -/
def tx (z : Int) : ByteArray := bA (M.txt z)
theorem tx_size (z : Int) : (tx z).size = (M.txt z).length := bA_size _
theorem tx_list (z : Int) : (tx z).data.toList = M.txt z := bA_toList _
theorem get_list (s : ByteArray) (i : Nat) (h : i < s.size) : s.data.toList[i]? = some s[i] := by
  rw [List.getElem?_eq_getElem (by rw [← sz_list]; exact h)]; rfl
theorem take_snoc (s : ByteArray) (k : Nat) (h : k < s.size) : s.data.toList.take (k + 1) = s.data.toList.take k ++ [s[k]] := by
  rw [List.take_succ_eq_append_getElem (by simpa using h)]; rfl
theorem take_all (s : ByteArray) : s.data.toList.take s.size = s.data.toList := List.take_of_length_le (by rw [← sz_list]; exact Nat.le_refl _)
theorem drop_cons (s : ByteArray) (k : Nat) (h : k < s.size) : s.data.toList.drop k = s[k] :: s.data.toList.drop (k + 1) := by
  rw [List.drop_eq_getElem_cons (by rw [← sz_list]; exact h)]; rfl
theorem below_dN {B : Nat} {a w : World} (h : Below B a w) (n : Nat) : Below B a (w.drewN n) := h.trans ⟨rfl, rfl, rfl, Nat.le_refl _, fun _ _ => rfl⟩
end Go.Proofs.YtipgipgehnhgkaaGreatDoor

namespace Go.Proofs.YtipgipgehnhgkaaGreatDoor
open Go.RowKit Go.Lib

theorem Tryz.info5 : (Tryz.prog.info? 5).map (fun i => (i.zero, i.size, i.bytes)) = some (some (.int .u8 0), 1, 1) := by kernel_rfl
theorem Tryz.info109 : (Tryz.prog.info? 109).map (fun i => (i.zero, i.size, i.bytes)) = some (some (.int .u64 0), 1, 8) := by kernel_rfl
theorem Tryz.info5s : (Tryz.prog.info? 5).map (·.size) = some 1 := by kernel_rfl

/-- Block g holds just these bytes. -/
def Row (w : World) (g : Nat) (l : List UInt8) : Prop := w.heap[g]? = some (.cells (byteCells l).toArray 5 (0, 0))
theorem byteCells_append (l m : List UInt8) : byteCells (l ++ m) = byteCells l ++ byteCells m := by simp [byteCells]
theorem byteCells_get (l : List UInt8) (j : Nat) : (byteCells l)[j]? = (l[j]?).map fun c => Value.int .u8 (c.toNat : Int) := by simp [byteCells]
theorem Row.cell {w : World} {g : Nat} {l : List UInt8} (h : Row w g l) (j : Nat) (hj : j < l.length) : w.cell? ⟨g, j, none⟩ = some (.int .u8 (l[j].toNat : Int)) := by
  rw [cell_of_row w g j _ 5 (0, 0) h]
  rw [show (byteCells l).toArray[j]? = (byteCells l)[j]? by simp, byteCells_get, List.getElem?_eq_getElem hj]; rfl
theorem Row.frozen {w : World} {g : Nat} {l : List UInt8} (h : Row w g l) (j : Nat) : w.frozen? ⟨g, j, none⟩ = false := frozen_of_row w g j _ 5 h
theorem Row.set {w : World} {g : Nat} {l : List UInt8} (h : Row w g l) (j : Nat) (c : UInt8) : Row (w.setCell ⟨g, j, none⟩ (.int .u8 (c.toNat : Int))) g (l.set j c) := by
  have e := heap_setCell_same w g j _ 5 (.int .u8 (c.toNat : Int)) h
  unfold Row
  rw [e]
  congr 2
  simp [byteCells, List.map_set]
theorem Row.below {w w' : World} {g B : Nat} {l : List UInt8} (h : Row w g l) (hb : Below B w w') (hg : g < B) : Row w' g l := by
  unfold Row; rw [hb.block g hg]; exact h
theorem Row.lt {w : World} {g : Nat} {l : List UInt8} (h : Row w g l) : g < w.heap.size := by
  unfold Row at h
  exact (Array.getElem?_eq_some_iff.1 h).1
theorem Row.made {w : World} {g n B : Nat} (h : w.ownsRow B 5 1 (.slice (some ⟨g, 0, none⟩) n n) n (madeCells (Value.int .u8 0).cells (n * 1)).toList) : Row w g (List.replicate n 0) := by
  rcases h.2 with ⟨h', _⟩ | ⟨g', cap', cur, h', _, hg, _, _, hcs, htake⟩
  · simp at h'
  · simp only [Value.slice.injEq, Option.some.injEq, Addr.mk.injEq, and_true, true_and] at h'
    obtain ⟨rfl, rfl⟩ := h'
    unfold Row
    rw [hg]
    congr 2
    rw [Nat.mul_one] at hcs htake
    rw [List.take_of_length_le (by simp; omega)] at htake
    have e : (madeCells (Value.int .u8 0).cells n).toList = List.replicate n (.int .u8 0) := toList_madeCells_one _ n
    rw [e] at htake
    have : cur = (List.replicate n (Value.int .u8 0)).toArray := by rw [← htake]
    rw [this]
    simp [byteCells]
theorem Row.conv {w : World} {g : Nat} {p l : List UInt8} {q : List UInt8} (h : Row w g (p ++ l ++ q)) (cap : Nat) : (convert 22 9 (.slice (some ⟨g, p.length, none⟩) l.length cap)).run Tryz.prog w = .ok (.string (bA l)) w := by
  refine run_convert_bytes_back w 22 9 5 ⟨g, p.length, none⟩ cap l Tryz.underlying22 Tryz.underlying5 Tryz.underlying9 ?_
  intro j hj
  rw [Addr.add_lit, h.cell (p.length + j) (by simp; omega)]
  congr 3
  simp [hj]
theorem Row.conv0 {w : World} {g : Nat} {l : List UInt8} (h : Row w g l) (cap : Nat) : (convert 22 9 (.slice (some ⟨g, 0, none⟩) l.length cap)).run Tryz.prog w = .ok (.string (bA l)) w := by
  have := Row.conv (p := []) (q := []) (l := l) (by simpa using h) cap
  simpa using this
theorem Row.setRow {w : World} {g : Nat} {l : List UInt8} (h : Row w g l) (m : List UInt8) : Row (w.setRow g (byteCells m).toArray) g m := by
  exact setRow_heap w g _ _ 5 (0, 0) h
theorem set_rep (n : Nat) (c : UInt8) (r : List UInt8) : (List.replicate (n + 1) 0 ++ r).set n c = List.replicate n 0 ++ c :: r := by
  rw [List.replicate_succ', List.append_assoc, List.set_append]
  simp
theorem set_left (l : List UInt8) (n : Nat) (c : UInt8) : (l ++ List.replicate (n + 1) 0).set l.length c = (l ++ [c]) ++ List.replicate n 0 := by
  rw [List.set_append]
  simp [List.replicate_succ]
end Go.Proofs.YtipgipgehnhgkaaGreatDoor

namespace Go.Proofs.YtipgipgehnhgkaaGreatDoor
open Go.RowKit

/-- A decimal's value. -/
abbrev dV (k : Int) (n : Bool) (D E : ByteArray) : Value := .agg #[.int .i64 k, .bool n, .string D, .string E]
abbrev dZ : Value := dV 0 false ⟨#[]⟩ ⟨#[]⟩
/-- The block g holds a decimal. -/
def Blk (w : World) (g : Nat) (k : Int) (n : Bool) (D E : ByteArray) : Prop := w.heap[g]? = some (.cells #[.int .i64 k, .bool n, .string D, .string E] 46 (0, 0))
theorem Blk.lt {w : World} {g : Nat} {k : Int} {n : Bool} {D E : ByteArray} (h : Blk w g k n D E) : g < w.heap.size := (Array.getElem?_eq_some_iff.1 h).1
theorem Blk.below {w w' : World} {g B : Nat} {k : Int} {n : Bool} {D E : ByteArray} (h : Blk w g k n D E) (hb : Below B w w') (hg : g < B) : Blk w' g k n D E := (hb.block g hg).trans h
theorem Blk.next {w w' : World} {g : Nat} {k : Int} {n : Bool} {D E : ByteArray} (h : Blk w g k n D E) (hb : Below w.heap.size w w') : Blk w' g k n D E := h.below hb h.lt
theorem Blk.made (w : World) (k : Int) (n : Bool) (D E : ByteArray) : Blk (w.alloc (.cells #[.int .i64 k, .bool n, .string D, .string E] 46)) w.heap.size k n D E := by
  unfold Blk
  show (w.heap.push _)[w.heap.size]? = _
  simp
theorem Blk.cells {w : World} {g : Nat} {k : Int} {n : Bool} {D E : ByteArray} (h : Blk w g k n D E) :
    w.cell? ⟨g, 0, none⟩ = some (.int .i64 k) ∧ w.cell? ⟨g, 1, none⟩ = some (.bool n) ∧ w.cell? ⟨g, 2, none⟩ = some (.string D) ∧ w.cell? ⟨g, 3, none⟩ = some (.string E) := by
  unfold Blk at h
  refine ⟨?_, ?_, ?_, ?_⟩ <;> simp [World.cell?, h]
theorem Blk.frozen {w : World} {g : Nat} {k : Int} {n : Bool} {D E : ByteArray} (h : Blk w g k n D E) (j : Nat) : w.frozen? ⟨g, j, none⟩ = false := frozen_of_row w g j _ 46 h
theorem Blk.fro {w : World} {g : Nat} {k : Int} {n : Bool} {D E : ByteArray} (h : Blk w g k n D E) : w.frozen? ⟨g, 0, none⟩ = false ∧ w.frozen? ⟨g, 1, none⟩ = false ∧ w.frozen? ⟨g, 2, none⟩ = false ∧ w.frozen? ⟨g, 3, none⟩ = false := ⟨h.frozen 0, h.frozen 1, h.frozen 2, h.frozen 3⟩
/-- A decimal stored. -/
abbrev set4 (w : World) (g : Nat) (k : Int) (n : Bool) (D E : ByteArray) : World :=
  (((w.setCell ⟨g, 0, none⟩ (.int .i64 k)).setCell ⟨g, 1, none⟩ (.bool n)).setCell ⟨g, 2, none⟩ (.string D)).setCell ⟨g, 3, none⟩ (.string E)
theorem Blk.set {w : World} {g : Nat} {k : Int} {n : Bool} {D E : ByteArray} (h : Blk w g k n D E) (k' : Int) (n' : Bool) (D' E' : ByteArray) : Blk (set4 w g k' n' D' E') g k' n' D' E' := by
  unfold Blk at h ⊢
  have h0 := Go.heap_setCell_same w g 0 _ 46 (.int .i64 k') h
  have h1 := Go.heap_setCell_same _ g 1 _ 46 (.bool n') h0
  have h2 := Go.heap_setCell_same _ g 2 _ 46 (.string D') h1
  have h3 := Go.heap_setCell_same _ g 3 _ 46 (.string E') h2
  rw [h3]; rfl
theorem below_set4 {B : Nat} {a w : World} (h : Below B a w) {g : Nat} (hg : B ≤ g) (k : Int) (n : Bool) (D E : ByteArray) : Below B a (set4 w g k n D E) :=
  ((((h.setCell (p := ⟨g, 0, none⟩) hg _).setCell (p := ⟨g, 1, none⟩) hg _).setCell (p := ⟨g, 2, none⟩) hg _).setCell (p := ⟨g, 3, none⟩) hg _)
theorem load_blk {w : World} {g : Nat} {k : Int} {n : Bool} {D E : ByteArray} (h : Blk w g k n D E) : (loadVar 46 ⟨g, 0, none⟩).run Tryz.prog w = .ok (dV k n D E) w := by
  obtain ⟨k0, k1, k2, k3⟩ := h.cells
  simp [go_sem, loadVar, Tryz.isAgg46, Tryz.sizeOf46, k0, k1, k2, k3]
theorem ret_dec {fn : Func} {p u : Tmp} {g : Nat} {k : Int} {n b : Bool} {D E : ByteArray} {w : World} (h : fn.results = #[.cell p 46, .tmp u]) (tmps : Array Value) (hp : tmps.getD p undef = .pointer (some ⟨g, 0, none⟩)) (hu : tmps.getD u undef = .bool b)
    (hB : Blk w g k n D E) : (results fn tmps).run Tryz.prog w = .ok (.tuple #[dV k n D E, .bool b]) w := by
  rw [results_cell_tmp h, hp, hu]
  have := load_blk hB
  simp [asAddr, Result.andThen, this]
end Go.Proofs.YtipgipgehnhgkaaGreatDoor

namespace Go.Proofs.YtipgipgehnhgkaaGreatDoor
open Go.RowKit

set_option maxRecDepth 100000 in
set_option maxHeartbeats 1000000 in
theorem digitAt_any (s : ByteArray) (i : Nat) (w : World) (h : i < s.size) :
    Calls Tryz.prog 161 #[.string s, .int .i64 i] w fun e w' => e = .returned (.int .u64 (M.dv s[i] : Nat)) ∧ w = w' := by
  obtain ⟨R, hR⟩ : ∃ R, M.dv s[i] = R := ⟨_, rfl⟩
  rw [hR]
  have HR := Lib.hid hR
  clear hR
  go_enter Tryz.func161, Tryz.ntmps161
  go_wp2
  all_goals
    go_ret
    refine ⟨ret_int ?_, rfl⟩
    rw [← HR.out]
    unfold M.dv
    clear HR
    generalize s[i].toNat = c at *
    repeat' split
    all_goals omega

set_option maxRecDepth 100000 in
set_option maxHeartbeats 1000000 in
theorem digitsOf_any (s : ByteArray) (b : Nat) (w : World) (hb : b ≤ 16) (hs : s.size ≤ 1000000) :
    Calls Tryz.prog 111 #[.string s, .int .i64 b] w fun e w' => e = .returned (.bool (M.okD b s.data.toList)) ∧ w = w' := by
  have hLl := sz_list s
  obtain ⟨R, hR⟩ : ∃ R, M.okD b s.data.toList = R := ⟨_, rfl⟩
  rw [hR]
  have HR := Lib.hid hR
  have HL := Lib.hid hLl
  clear hR hLl
  go_enter Tryz.func111, Tryz.ntmps111
  go_wp2
  go_loop [8] (fun i => ∃ k : Nat, i = .int .i64 k ∧ k ≤ s.size ∧ Hid (M.allD b (s.data.toList.take k) = true)) (fun i => s.size - (intOf i).toNat)
  case atStart => exact ⟨0, rfl, Nat.zero_le _, rfl⟩
  case round =>
    obtain ⟨k, rfl, hk, hst⟩ := hrel
    by_cases hlt : k < s.size
    · have hltd : decide (k < s.size) = true := by simpa using hlt
      have c1 := digitAt_any s k w hlt
      have hd := M.dv_le s[k]
      have hsn := M.allD_snoc b (s.data.toList.take k) s[k]
      rw [← take_snoc s k hlt, hst.out, Bool.true_and] at hsn
      obtain ⟨d, hdd⟩ : ∃ d, M.dv s[k] = d := ⟨_, rfl⟩
      rw [hdd] at c1 hd hsn
      clear hdd
      have HS := Lib.hid hsn
      clear hsn
      by_cases hdb : d < b
      · have hq : decide (b ≤ d) = false := by simpa using hdb
        go_wp2_with (go_at_call 161; refine c1.mono ?_; rintro r w' ⟨rfl, rfl⟩)
        go_round
        case rel => exact ⟨k + 1, by go_num, by omega, by show _ = true; rw [HS.out]; simpa using hdb⟩
        case measure => simp [intOf]; omega
      · have hq : decide (b ≤ d) = true := by simpa using hdb
        go_wp2_with (go_at_call 161; refine c1.mono ?_; rintro r w' ⟨rfl, rfl⟩)
        go_ret
        refine ⟨ret_bool ?_, rfl⟩
        have h1 : M.allD b (s.data.toList.take (k + 1)) = false := by rw [HS.out]; simpa using hdb
        rw [← HR.out]
        unfold M.okD
        rw [← List.take_append_drop (k + 1) s.data.toList, M.allD_append, h1]
        simp
    · obtain rfl : k = s.size := by omega
      have hltd : decide (s.size < s.size) = false := by simp
      have h1 := hst.out
      rw [take_all] at h1
      have HF := Lib.hid h1
      clear h1 hst
      go_wp2
      go_ret
      refine ⟨ret_bool ?_, rfl⟩
      rw [← HR.out]
      unfold M.okD
      rw [HF.out, Bool.and_true]
      simp only [ByteArray.toList_eq]

theorem decimal_any (s : ByteArray) (w : World) (hs : s.size ≤ 1000000) :
    Calls Tryz.prog 88 #[.string s] w fun e w' => e = .returned (.bool (M.okD 10 s.data.toList)) ∧ w = w' := by
  have c1 := digitsOf_any s 10 w (by omega) hs
  go_enter Tryz.func88, Tryz.ntmps88
  go_wp2_with (go_at_call 111; refine c1.mono ?_; rintro r w' ⟨rfl, rfl⟩)
  go_ret
  exact ⟨rfl, rfl⟩

def stepB (n : Int) : Bool := decide (0 ≤ n ∧ n ≤ 1099511627776)
set_option maxRecDepth 100000 in
theorem isStep_any (n : Int) (w : World) :
    Calls Tryz.prog 144 #[.int .i64 n] w fun e w' => e = .returned (.bool (stepB n)) ∧ w = w' := by
  obtain ⟨R, hR⟩ : ∃ R, stepB n = R := ⟨_, rfl⟩
  rw [hR]
  have HR := Lib.hid hR
  clear hR
  go_enter Tryz.func144, Tryz.ntmps144
  go_wp2
  all_goals
    go_ret
    refine ⟨ret_bool ?_, rfl⟩
    rw [← HR.out]
    unfold stepB
    first | exact (decide_eq_true (by omega)).symm | exact (decide_eq_false (by omega)).symm | (simp_all; done) | (simp; omega)

set_option maxRecDepth 100000 in
set_option maxHeartbeats 1000000 in
theorem trimByte_any (s : ByteArray) (w : World) (hs : s.size ≤ 1000000) :
    Calls Tryz.prog 165 #[.string s, .int .u8 48] w fun e w' => e = .returned (.string (bA (M.strip s.data.toList))) ∧ w = w' := by
  obtain ⟨R, hR⟩ : ∃ R, M.strip s.data.toList = R := ⟨_, rfl⟩
  rw [hR]
  have HR := Lib.hid hR
  clear hR
  go_enter Tryz.func165, Tryz.ntmps165
  go_wp2
  go_loop [0] (fun v => ∃ t : ByteArray, v = .string t ∧ t.size ≤ s.size ∧ Hid (M.strip t.data.toList = R)) (fun v => match v with | .string t => t.size | _ => 0)
  case atStart => exact ⟨s, rfl, Nat.le_refl _, HR.out⟩
  case round =>
    obtain ⟨t, rfl, ht, hst⟩ := hrel
    by_cases h0 : 0 < t.size
    · have hl := drop_cons t 0 h0
      rw [List.drop_zero] at hl
      have hst1 := hst.out
      rw [hl] at hst1
      by_cases h1 : t[0].toNat = 48
      · have e : t[0] = 48 := UInt8.toNat_inj.1 h1
        have hst2 : M.strip (t.data.toList.drop 1) = R := by
          rw [← hst1]; unfold M.strip; rw [List.dropWhile_cons, e]; rfl
        have HS := Lib.hid hst2
        clear hst1 hst2 hl e
        go_wp2
        go_round
        case rel => exact ⟨_, rfl, by simp; omega, by show M.strip _ = R; rw [Lib.extract_to_end]; exact HS.out⟩
        case measure => simp; omega
      · have hb : ((t[0].toNat : Int) == 48) = false := by simp; omega
        have hst2 : t.data.toList = R := by
          rw [← hst1, ← hl]; symm; apply M.strip_self; rw [hl]; simp; intro e; exact h1 (by rw [e]; rfl)
        have HS := Lib.hid hst2
        clear hst1 hst2 hl h1
        go_wp2
        go_ret
        exact ⟨ret_str (eq_bA HS.out), rfl⟩
    · have hz : t.data.toList = [] := by
        have := sz_list t
        exact List.eq_nil_of_length_eq_zero (by omega)
      have hst1 := hst.out
      rw [hz] at hst1
      have HS := Lib.hid hst1
      have HZ := Lib.hid hz
      clear hst1 hz hst
      go_wp2
      go_ret
      refine ⟨ret_str (eq_bA ?_), rfl⟩
      rw [HZ.out, ← HS.out]; rfl

end Go.Proofs.YtipgipgehnhgkaaGreatDoor

namespace Go.Proofs.YtipgipgehnhgkaaGreatDoor
open Go.RowKit

set_option maxRecDepth 100000 in
theorem trimLeft_any (s : ByteArray) (w : World) (hs : s.size ≤ 1000000) :
    Calls Tryz.prog 127 #[.string s, .string ⟨#[48]⟩] w fun e w' => e = .returned (.string (bA (M.strip s.data.toList))) ∧ w = w' := by
  have c1 := trimByte_any s
  by_cases h : s.data.toList = []
  · have e : s = ⟨#[]⟩ := eq_bA h
    subst e
    clear h c1
    go_enter Tryz.func127, Tryz.ntmps127
    go_wp2
    go_ret
    exact ⟨rfl, rfl⟩
  · have h1 : (s.toList == []) = false := by rw [ByteArray.toList_eq]; simpa using h
    have h2 : s.toList.isEmpty = false := by rw [ByteArray.toList_eq]; simpa using h
    generalize bA (M.strip s.data.toList) = R at *
    clear h
    go_enter Tryz.func127, Tryz.ntmps127
    go_wp2_with fail
    refine (c1 _ hs).mono ?_
    rintro r w' ⟨rfl, rfl⟩
    go_wp2
    go_ret
    exact ⟨rfl, rfl⟩

set_option maxRecDepth 100000 in
theorem minus_any (s : ByteArray) (w : World) (hs : s.size ≤ 1000000) :
    Calls Tryz.prog 157 #[.string s, .string ⟨#[45]⟩] w fun e w' => e = .returned (.bool (M.isNeg s.data.toList)) ∧ w = w' := by
  by_cases h0 : 1 ≤ s.size
  · have hd : decide (1 ≤ s.size) = true := by simpa using h0
    have hl := drop_cons s 0 (by omega)
    rw [List.drop_zero] at hl
    have e1 : (s.extract 0 1).toList = [s[0]] := by
      rw [ByteArray.toList_eq]; simp only [ByteArray.data_extract, Array.toList_extract, List.extract_eq_take_drop, List.drop_zero]; rw [hl]; rfl
    have e2 : M.isNeg s.data.toList = decide (s[0] = 45) := by rw [hl]; simp [M.isNeg]
    rw [e2]
    clear e2 hl
    by_cases h1 : s[0] = 45
    · rw [decide_eq_true h1]
      have e3 : ((s.extract 0 1).toList == [45]) = true := by rw [e1, h1]; rfl
      clear e1 h1
      go_enter Tryz.func157, Tryz.ntmps157
      go_wp2
      go_ret
      exact ⟨rfl, rfl⟩
    · rw [decide_eq_false h1]
      have e3 : ((s.extract 0 1).toList == [45]) = false := by rw [e1]; simpa using h1
      clear e1 h1
      go_enter Tryz.func157, Tryz.ntmps157
      go_wp2
      go_ret
      exact ⟨rfl, rfl⟩
  · have hd : decide (1 ≤ s.size) = false := by simpa using h0
    have e : M.isNeg s.data.toList = false := by
      have : s.data.toList = [] := List.eq_nil_of_length_eq_zero (by rw [← sz_list]; omega)
      rw [this]; rfl
    rw [e]
    clear e
    go_enter Tryz.func157, Tryz.ntmps157
    go_wp2
    go_ret
    exact ⟨rfl, rfl⟩

set_option maxRecDepth 100000 in
theorem cut_in (s : ByteArray) (w : World) (hs : s.size ≤ 1000000) :
    Calls Tryz.prog 125 #[.string s, .string ⟨#[45]⟩] w fun e w' => e = .returned (.tuple #[.string (bA (M.unsign s.data.toList)), .bool (M.isNeg s.data.toList)]) ∧ w = w' := by
  have c1 := minus_any s w hs
  by_cases h : M.isNeg s.data.toList = true
  · have hu : bA (M.unsign s.data.toList) = s.extract 1 s.size := by
      symm; apply eq_bA; rw [Lib.extract_to_end]; unfold M.unsign; rw [if_pos h]; simp
    have h1 : 1 ≤ s.size := by
      rw [sz_list]
      match hh : s.data.toList, h with
      | c :: r, _ => simp
    rw [h] at c1 ⊢
    rw [hu]
    clear hu h
    go_enter Tryz.func125, Tryz.ntmps125
    go_wp2_with (go_at_call 157; refine c1.mono ?_; rintro r w' ⟨rfl, rfl⟩)
    go_ret2
    exact ⟨rfl, rfl⟩
  · have h' : M.isNeg s.data.toList = false := by simpa using h
    have hu : bA (M.unsign s.data.toList) = s := by
      symm; apply eq_bA; unfold M.unsign; rw [if_neg h]
    rw [h'] at c1 ⊢
    rw [hu]
    clear hu h h'
    go_enter Tryz.func125, Tryz.ntmps125
    go_wp2_with (go_at_call 157; refine c1.mono ?_; rintro r w' ⟨rfl, rfl⟩)
    go_ret2
    exact ⟨rfl, rfl⟩

set_option maxRecDepth 100000 in
theorem cut_any (s : ByteArray) (w : World) (hs : s.size ≤ 1000000) :
    Calls Tryz.prog 86 #[.string s, .string ⟨#[45]⟩] w fun e w' => e = .returned (.tuple #[.string (bA (M.unsign s.data.toList)), .bool (M.isNeg s.data.toList)]) ∧ w = w' := by
  have c1 := cut_in s w hs
  generalize bA (M.unsign s.data.toList) = U at *
  generalize M.isNeg s.data.toList = V at *
  go_enter Tryz.func86, Tryz.ntmps86
  go_wp2_with (go_at_call 125; refine c1.mono ?_; rintro r w' ⟨rfl, rfl⟩)
  go_ret2
  exact ⟨rfl, rfl⟩
set_option maxRecDepth 100000 in
theorem split_any (s : ByteArray) (w : World) (hs : s.size ≤ 1000000) :
    Calls Tryz.prog 147 #[.string s] w fun e w' => e = .returned (.tuple #[.bool (M.isNeg s.data.toList), .string (bA (M.unsign s.data.toList))]) ∧ w = w' := by
  have c1 := cut_any s w hs
  generalize bA (M.unsign s.data.toList) = U at *
  generalize M.isNeg s.data.toList = V at *
  go_enter Tryz.func147, Tryz.ntmps147
  go_wp2_with (go_at_call 86; refine c1.mono ?_; rintro r w' ⟨rfl, rfl⟩)
  go_ret2
  exact ⟨rfl, rfl⟩

theorem unsign_len (l : List UInt8) : (M.unsign l).length ≤ l.length := by unfold M.unsign; split <;> simp

set_option maxRecDepth 100000 in
set_option maxHeartbeats 1000000 in
theorem good_any (s : ByteArray) (w : World) (hs : s.size ≤ 1000000) :
    Calls Tryz.prog 97 #[.string s] w fun e w' => e = .returned (.bool (M.goodB s.data.toList)) ∧ w = w' := by
  have c1 := split_any s w hs
  have hU : (bA (M.unsign s.data.toList)).size ≤ 1000000 := by
    rw [bA_size]; have := unsign_len s.data.toList; rw [← sz_list] at this; omega
  have c2 := decimal_any (bA (M.unsign s.data.toList)) w hU
  rw [bA_toList] at c2
  by_cases h : M.okD 10 (M.unsign s.data.toList) = true
  · have hne := ((M.okD_iff _ _).1 h).1
    obtain ⟨U, hUe⟩ : ∃ U, bA (M.unsign s.data.toList) = U := ⟨_, rfl⟩
    have hUl : U.data.toList = M.unsign s.data.toList := by rw [← hUe, bA_toList]
    have h1 : 0 < U.size := by rw [sz_list, hUl]; exact List.length_pos_iff.2 hne
    have hl := drop_cons U 0 h1
    rw [List.drop_zero, hUl] at hl
    have hg : M.goodB s.data.toList = (!decide (U[0].toNat = 48) || decide (s.data.toList = [48])) := by
      unfold M.goodB
      rw [h, hl, Bool.true_and, Bool.or_comm]
      congr 1
      rw [← decide_not, decide_eq_decide]
      simp [← UInt8.toNat_inj]
    rw [hg]
    rw [h] at c2
    rw [hUe] at c1 c2
    clear hg hl hUl hUe hne h hU
    by_cases hz : U[0].toNat = 48
    · rw [decide_eq_true hz]
      have e1 : (s.toList == [48]) = decide (s.data.toList = [48]) := by rw [ByteArray.toList_eq]; rw [Bool.eq_iff_iff]; simp
      generalize M.isNeg s.data.toList = V at *
      generalize decide (s.data.toList = [48]) = q at *
      go_enter Tryz.func97, Tryz.ntmps97
      go_wp2_with (first | (go_at_call 147; refine c1.mono ?_; rintro r w' ⟨rfl, rfl⟩) | (go_at_call 88; refine c2.mono ?_; rintro r w' ⟨rfl, rfl⟩))
      go_ret
      exact ⟨ret_bool (by simp), rfl⟩
    · rw [decide_eq_false hz]
      have hb : ((U[0].toNat : Int) != 48) = true := by simp; omega
      generalize M.isNeg s.data.toList = V at *
      go_enter Tryz.func97, Tryz.ntmps97
      go_wp2_with (first | (go_at_call 147; refine c1.mono ?_; rintro r w' ⟨rfl, rfl⟩) | (go_at_call 88; refine c2.mono ?_; rintro r w' ⟨rfl, rfl⟩))
      go_ret
      exact ⟨rfl, rfl⟩
  · have h' : M.okD 10 (M.unsign s.data.toList) = false := by simpa using h
    have hg : M.goodB s.data.toList = false := by
      unfold M.goodB
      rw [h', Bool.false_and, Bool.or_false]
      apply decide_eq_false
      intro e; rw [e] at h'; exact absurd h' (by decide)
    rw [hg]
    rw [h'] at c2
    clear hg h h'
    generalize bA (M.unsign s.data.toList) = U at *
    generalize M.isNeg s.data.toList = V at *
    go_enter Tryz.func97, Tryz.ntmps97
    go_wp2_with (first | (go_at_call 147; refine c1.mono ?_; rintro r w' ⟨rfl, rfl⟩) | (go_at_call 88; refine c2.mono ?_; rintro r w' ⟨rfl, rfl⟩))
    go_ret
    exact ⟨rfl, rfl⟩
end Go.Proofs.YtipgipgehnhgkaaGreatDoor

namespace Go.Proofs.YtipgipgehnhgkaaGreatDoor
open Go.RowKit

theorem whole_mem (w w1 : World) (D : ByteArray) (ho : w1.ownsRow w.heap.size 5 1 (.slice (some ⟨w.heap.size, 0, none⟩) (1 + D.size) (1 + D.size)) (1 + D.size) (madeCells (Value.int .u8 0).cells ((1 + D.size) * 1)).toList) (hg : w.grownBy w1 none) :
    w1.cell? ⟨w.heap.size, 0, none⟩ = some (.int .u8 0) ∧ w1.frozen? ⟨w.heap.size, 0, none⟩ = false ∧ ∃ W3, (∀ ty, (Builtin.copy_ #[22, 9] ty #[.slice (some ⟨w.heap.size, 1, none⟩) D.size D.size, .string D]).run Tryz.prog (w1.setCell ⟨w.heap.size, 0, none⟩ (.int .u8 45)) = .ok (goInt D.size) W3) ∧ (∀ cap, (convert 22 9 (.slice (some ⟨w.heap.size, 0, none⟩) (1 + D.size) cap)).run Tryz.prog W3 = .ok (.string (bA (45 :: D.data.toList))) W3) ∧ (∀ cap, (convert 22 9 (.slice (some ⟨w.heap.size, 1, none⟩) D.size cap)).run Tryz.prog W3 = .ok (.string (bA D.data.toList)) W3) ∧ Below w.heap.size w W3 := by
  have hr := Row.made ho
  have hc := hr.cell 0 (by simp; omega)
  have hf := hr.frozen 0
  refine ⟨by rw [hc]; simp, hf, ?_⟩
  have h2 := hr.set 0 45
  have hb : Below w.heap.size w w1 := (Below.refl _ _).grown hg (Nat.le_refl _) (fun k hk => by cases hk)
  rw [show (List.replicate (1 + D.size) (0 : UInt8)).set 0 45 = 45 :: List.replicate D.size 0 by rw [Nat.add_comm, List.replicate_succ]; rfl] at h2
  refine ⟨_, fun ty => Lib.run_copy_row_string _ 22 9 ty 5 w.heap.size 1 D.size D.size D _ 5 Tryz.underlying22 Tryz.info5s h2 (Nat.le_refl _) (by simp [Lib.byteCells]; omega), ?_⟩
  have hR3 : Row _ w.heap.size (45 :: D.data.toList) := h2.setRow (45 :: D.data.toList)
  have e : (List.take 1 (Lib.byteCells (45 :: List.replicate D.size 0)).toArray.toList ++ Lib.byteCells D.data.toList ++ List.drop (1 + D.size) (Lib.byteCells (45 :: List.replicate D.size 0)).toArray.toList) = Lib.byteCells (45 :: D.data.toList) := by
    rw [List.drop_of_length_le (by simp [Lib.byteCells]; omega), List.append_nil]
    simp [Lib.byteCells]
  rw [e]
  have hv1 := Row.conv0 hR3
  have hv2 := Row.conv (p := [45]) (l := D.data.toList) (q := []) (by simpa using hR3)
  rw [List.length_cons, ← sz_list, Nat.add_comm] at hv1
  rw [← sz_list] at hv2
  exact ⟨hv1, hv2, below_setRow (hb.setCell (Nat.le_refl _) _) (Nat.le_refl _) _⟩

set_option maxRecDepth 100000 in
set_option maxHeartbeats 2000000 in
theorem whole_any (neg : Bool) (s : ByteArray) (w : World) (hs : s.size ≤ 100000) (hd : M.allD 10 s.data.toList = true) :
    Calls Tryz.prog 89 #[.bool neg, .string s] w fun e w' => e = .returned (.string (tx (M.sgn neg (M.val 10 s.data.toList)))) ∧ Below w.heap.size w w' := by
  have c1 := trimLeft_any s w (by omega)
  rw [M.strip_all _ hd] at c1
  obtain ⟨n, hn⟩ : ∃ n, M.val 10 s.data.toList = n := ⟨_, rfl⟩
  have hlt := M.val_lt 10 s.data.toList hd
  rw [hn, ← sz_list] at hlt
  rw [hn] at c1 ⊢
  clear hn hd
  by_cases hz : n = 0
  · subst hz
    rw [if_pos rfl] at c1
    rw [M.sgn_zero, show tx 0 = ⟨#[48]⟩ by unfold tx; rw [M.txt_zero]; rfl]
    rw [show bA [] = ⟨#[]⟩ from rfl] at c1
    clear hlt
    go_enter Tryz.func89, Tryz.ntmps89
    go_wp2_with (go_at_call 127; refine c1.mono ?_; rintro r w' ⟨rfl, rfl⟩)
    go_ret
    exact ⟨rfl, Below.refl _ _⟩
  · rw [if_neg hz] at c1
    have hp : 0 < (M.dg n).length := M.dg_len_pos n
    have hle : (M.dg n).length ≤ s.size := by
      refine M.dg_len_le n s.size ?_ hlt
      rcases Nat.eq_zero_or_pos s.size with h | h
      · rw [h] at hlt; simp at hlt; omega
      · exact h
    have ht := M.txt_sgn neg n (by omega)
    obtain ⟨L, hL⟩ : ∃ L, M.dg n = L := ⟨_, rfl⟩
    rw [hL] at c1 hp hle ht
    clear hL hz hlt
    have HT := Lib.hid ht
    clear ht
    obtain ⟨D, hD⟩ : ∃ D, bA L = D := ⟨_, rfl⟩
    have hDs : D.size = L.length := by rw [← hD, bA_size]
    have hDl : D.data.toList = L := by rw [← hD, bA_toList]
    rw [hD] at c1
    have hDne : (D.toList == []) = false := by rw [ByteArray.toList_eq, hDl]; cases L; simp at hp; rfl
    have hDne2 : D.toList.isEmpty = false := by rw [ByteArray.toList_eq, hDl]; cases L; simp at hp; rfl
    have hD0 : 0 < D.size := by omega
    have hD1 : D.size ≤ 100000 := by omega
    have HD := Lib.hid hDl
    have HDs := Lib.hid hDs
    clear hDl hDs hD hp hle
    obtain ⟨i0, hi, hz0, hz1, hz2⟩ := info_parts Tryz.info5
    go_enter Tryz.func89, Tryz.ntmps89
    go_wp2_with fail
    refine c1.mono ?_
    rintro r w' ⟨rfl, rfl⟩
    clear c1
    go_wp2_with (first | (at_make; refine wpList_make_full w rfl (.tmp 12) (.tmp 12) 22 rfl w.heap.size 5 i0 (.int .u8 0) 1 Tryz.underlying22 hi hz0 hz1 .i64 .i64 _ _ (1 + D.size) rfl rfl (by simp) (by simp) (by rw [hz2]; omega) (by unfold maxLen; omega) (Nat.le_refl _) ?_; intro w1 ho1 hg1; obtain ⟨hc1, hf1, W3, hcp, hv1, hv2, hB3⟩ := whole_mem w w1 D ho1 hg1; clear ho1 hg1) | fail)
    · have hE : D = ByteArray.empty := by assumption
      rw [hE] at hD0
      exact absurd hD0 (by decide)
    · have hq : neg = true := by assumption
      subst hq
      go_ret
      refine ⟨ret_str ?_, hB3⟩
      unfold tx; rw [HT.out, HD.out]; rfl
    · have hq : neg = false := by assumption
      subst hq
      go_ret
      refine ⟨ret_str ?_, hB3⟩
      unfold tx; rw [HT.out, HD.out]; rfl

theorem sz_ok {s : ByteArray} (h : M.okD 10 s.data.toList = true) : M.allD 10 s.data.toList = true := ((M.okD_iff _ _).1 h).2
set_option maxRecDepth 100000 in
theorem norm_yes (neg : Bool) (s : ByteArray) (w : World) (hs : s.size ≤ 100000) (hd : M.okD 10 s.data.toList = true) :
    Calls Tryz.prog 44 #[.bool neg, .string s] w fun e w' => e = .returned (.string (tx (M.sgn neg (M.val 10 s.data.toList)))) ∧ Below w.heap.size w w' := by
  have c1 := decimal_any s w (by omega)
  have c2 := whole_any neg s w hs (sz_ok hd)
  rw [hd] at c1
  clear hd
  generalize tx (M.sgn neg (M.val 10 s.data.toList)) = R at *
  go_enter Tryz.func44, Tryz.ntmps44
  go_wp2_with fail
  refine c1.mono ?_
  rintro r w' ⟨rfl, rfl⟩
  go_wp2_with fail
  refine c2.mono ?_
  rintro r w' ⟨rfl, hb⟩
  go_wp2
  go_ret
  exact ⟨rfl, hb⟩
theorem norm_no (neg : Bool) (s : ByteArray) (w : World) (hs : s.size ≤ 100000) (hd : M.okD 10 s.data.toList = false) :
    Calls Tryz.prog 44 #[.bool neg, .string s] w fun e w' => e = .returned (.string ⟨#[]⟩) ∧ w = w' := by
  have c1 := decimal_any s w (by omega)
  rw [hd] at c1
  clear hd
  go_enter Tryz.func44, Tryz.ntmps44
  go_wp2_with (go_at_call 88; refine c1.mono ?_; rintro r w' ⟨rfl, rfl⟩)
  go_ret
  exact ⟨rfl, rfl⟩
end Go.Proofs.YtipgipgehnhgkaaGreatDoor

namespace Go.Proofs.YtipgipgehnhgkaaGreatDoor
open Go.RowKit

def uc (p : Nat) : Value := .int .u64 (p : Int)
/-- A row of pieces that the call has made. -/
def Own (w : World) (B : Nat) (v : Value) (ps : List Nat) : Prop := w.ownsRow B 109 1 v ps.length (ps.map uc)
theorem Own.form {w : World} {B : Nat} {v : Value} {ps : List Nat} (h : Own w B v ps) : ∃ ao cap g, v = .slice ao ps.length cap ∧ (0 < ps.length → ao = some ⟨g, 0, none⟩ ∧ B ≤ g) := by
  rcases h.2 with ⟨h1, h2⟩ | ⟨g, cap, cur, h1, hb, _⟩
  · exact ⟨none, 0, 0, by rw [h1, h2], fun h => by omega⟩
  · exact ⟨_, cap, g, h1, fun _ => ⟨rfl, hb⟩⟩
theorem Own.cell {w : World} {B g cap : Nat} {ps : List Nat} (h : Own w B (.slice (some ⟨g, 0, none⟩) ps.length cap) ps) (i : Nat) (hi : i < ps.length) : w.cell? ⟨g, i, none⟩ = some (.int .u64 (ps[i] : Nat)) := by
  have := World.ownsRow.cellAt h i (by omega)
  rw [this, List.getElem?_map, List.getElem?_eq_getElem hi]; rfl
theorem Own.frozen {w : World} {B g cap : Nat} {ps : List Nat} (h : Own w B (.slice (some ⟨g, 0, none⟩) ps.length cap) ps) (i : Nat) : w.frozen? ⟨g, i, none⟩ = false := World.ownsRow.frozenAt h i
theorem Own.set {w : World} {B g cap : Nat} {ps : List Nat} (h : Own w B (.slice (some ⟨g, 0, none⟩) ps.length cap) ps) (i p : Nat) :
    Own (w.setCell ⟨g, i, none⟩ (.int .u64 (p : Int))) B (.slice (some ⟨g, 0, none⟩) ps.length cap) (ps.set i p) := by
  have := (World.ownsRow.stored h i (.int .u64 (p : Int))).1
  unfold Own
  rw [List.length_set, List.map_set]; exact this
theorem Own.nil (w : World) (B : Nat) : Own w B (.slice none 0 0) [] := World.ownsRow_nil _ _ _ _
theorem uc_one (p : Nat) : ∀ u ∈ [Value.int .u64 (p : Int)], u.oneCell' = true := by intro u hu; rw [List.mem_singleton.1 hu]; rfl
theorem uc_news (w : World) (p : Nat) (t : TypeId) : ∀ (j : Nat) (u : Value), [Value.int .u64 (p : Int)][j]? = some u → (w.alloc (.cells #[.int .u64 (p : Int)] t)).cell? ((⟨w.heap.size, 0, none⟩ : Addr).add j) = some u := by
  intro j u hj
  match j, hj with
  | 0, hj => simp at hj; subst hj; simp [Addr.add]
  | n + 1, hj => simp at hj
theorem Own.snoc {w : World} {B : Nat} {v : Value} {ps : List Nat} {p : Nat} (h : w.ownsRow B 109 1 v (ps.length + 1) (ps.map uc ++ [.int .u64 (p : Int)])) : Own w B v (ps ++ [p]) := by
  unfold Own; rw [List.length_append, List.map_append]; exact h
theorem set_mid (done rest : List Nat) (p q : Nat) : (done ++ p :: rest).set done.length q = (done ++ [q]) ++ rest := by
  rw [List.set_append]; simp

theorem cast_mod (k p m : Nat) : (((k + p * m) % 10000000 : Nat) : Int) = ((k : Int) + (p : Int) * (m : Int)) % 10000000 := by
  rw [Int.natCast_emod, Int.natCast_add, Int.natCast_mul]; rfl
theorem cast_div (k p m : Nat) : (((k + p * m) / 10000000 : Nat) : Int) = ((k : Int) + (p : Int) * (m : Int)) / 10000000 := by
  rw [Int.natCast_ediv, Int.natCast_add, Int.natCast_mul]; rfl
theorem cast_mod1 (k : Nat) : ((k % 10000000 : Nat) : Int) = (k : Int) % 10000000 := by rw [Int.natCast_emod]; rfl
theorem cast_div1 (k : Nat) : ((k / 10000000 : Nat) : Int) = (k : Int) / 10000000 := by rw [Int.natCast_ediv]; rfl
/-- What mulAdd hands back. -/
def MulPost (B T n : Nat) (r : Ending) (w' : World) : Prop := ∃ v ps, r = .returned v ∧ Own w' B v ps ∧ M.Small ps ∧ M.pv ps = T ∧ ps.length ≤ n + 2

set_option maxRecDepth 100000 in
set_option maxHeartbeats 4000000 in
theorem mulAdd_any (v : Value) (ps : List Nat) (m k0 B : Nat) (w : World) (ho : Own w B v ps) (hsm : M.Small ps) (hB : B ≤ w.heap.size) (hn : ps.length ≤ 100000) (hm : m ≤ 1099511627776) (hk0 : k0 ≤ 1099511627776) :
    Calls Tryz.prog 145 #[v, .int .u64 m, .int .u64 k0] w fun r w' => MulPost B (M.pv ps * m + k0) ps.length r w' ∧ Below B w w' := by
  obtain ⟨ao, cap, g, rfl, hao⟩ := ho.form
  obtain ⟨T, hT⟩ : ∃ T, M.pv ps * m + k0 = T := ⟨_, rfl⟩
  have hT0 : M.pv [] + 10000000 ^ ([] : List Nat).length * (k0 + m * M.pv (ps.drop 0)) = T := by
    rw [← hT]; simp [M.pv, Nat.mul_comm, Nat.add_comm]
  rw [hT]
  have HT0 := Lib.hid hT0
  have HSM := Lib.hid hsm
  have HAO := Lib.hid hao
  clear hT hT0 hsm hao
  obtain ⟨i0, hi, hz0, hz1, hz2⟩ := info_parts Tryz.info109
  go_enter Tryz.func145, Tryz.ntmps145
  go_wp2
  go_loopw [2, 11] (fun kv iv wr => ∃ (k : Nat) (done : List Nat), kv = .int .u64 k ∧ iv = .int .i64 done.length ∧ k ≤ 1099511627776 ∧ done.length ≤ ps.length ∧ Hid (M.Small done) ∧ Hid (M.pv done + 10000000 ^ done.length * (k + m * M.pv (ps.drop done.length)) = T) ∧ Own wr B (.slice ao ps.length cap) (done ++ ps.drop done.length) ∧ Below B w wr) (fun _ iv _ => ps.length - (intOf iv).toNat)
  case atStart => exact ⟨k0, [], rfl, rfl, hk0, Nat.zero_le _, M.Small.nil, HT0.out, by simpa using ho, Below.refl _ _⟩
  case round =>
    obtain ⟨k, done, rfl, rfl, hk, hd, hsd, hst, hown, hbw⟩ := hrel
    by_cases hlt : done.length < ps.length
    · have hltd : decide (done.length < ps.length) = true := by simpa using hlt
      obtain ⟨rfl, hBg⟩ := HAO.out (by omega)
      have hlen : (done ++ ps.drop done.length).length = ps.length := by simp; omega
      rw [← hlen] at hown
      have hc := hown.cell done.length (by omega)
      have hf := hown.frozen done.length
      have hp : (done ++ ps.drop done.length)[done.length]'(by omega) = ps[done.length] := by simp
      rw [hp] at hc
      have hset := fun q => hown.set done.length q
      have hdc : ps.drop done.length = ps[done.length] :: ps.drop (done.length + 1) := List.drop_eq_getElem_cons hlt
      obtain ⟨p, hpp⟩ : ∃ p, ps[done.length] = p := ⟨_, rfl⟩
      have hps : p < 10000000 := by rw [← hpp]; exact HSM.out _ (List.getElem_mem _)
      rw [hpp] at hc hdc
      have hcl := M.carry_le hk hps hm
      have hstep := M.mul_step done k m p (M.pv (ps.drop (done.length + 1))) T (by have := hst.out; rw [hdc] at this; exact this)
      have hset' := hset ((k + p * m) % 10000000)
      rw [hlen] at hset'
      rw [hdc, set_mid] at hset'
      have HSET := Lib.hid hset'
      have HSTEP := Lib.hid hstep
      have hcz := Int.natCast_mul p m
      have hcz1 : (k : Int) + (p : Int) * (m : Int) ≤ 10995116277760000000 := by have := hcl.1; omega
      have hcz0 : (0 : Int) ≤ (p : Int) * (m : Int) := by omega
      clear hcz
      have HCL := Lib.hid hcl
      clear hset hset' hstep hcl hdc hpp hp hlen hown hst
      go_wp2
      go_roundw
      case rel =>
        refine ⟨(k + p * m) / 10000000, done ++ [(k + p * m) % 10000000], by rw [cast_div], by rw [List.length_append]; go_num, HCL.out.2, by rw [List.length_append]; simp; omega, hsd.out.snoc (by omega), ?_, ?_, ?_⟩
        · show _ = T
          rw [← HSTEP.out, List.length_append]; rfl
        · have h := HSET.out
          rw [cast_mod] at h
          rw [show (done ++ [(k + p * m) % 10000000]).length = done.length + 1 by simp]
          exact h
        · exact hbw.setCell hBg _
      case measure => simp [intOf]; omega
    · have hde : done.length = ps.length := by omega
      have hltd : decide (done.length < ps.length) = false := by simpa using hlt
      have hst1 := hst.out
      rw [List.drop_of_length_le (by omega)] at hst1 hown
      rw [List.append_nil] at hown
      rw [show M.pv [] = 0 from rfl, Nat.mul_zero, Nat.add_zero] at hst1
      have HST := Lib.hid hst1
      have hown' : Own wr B (.slice ao done.length cap) done := by rw [hde]; exact hown
      have HDE := Lib.hid hde
      clear hst1 hst hown hde hlt hd
      go_wp2
      go_loopw [0, 2] (fun sv kv wr2 => ∃ (j : Nat) (ds : List Nat) (e : Nat), kv = .int .u64 j ∧ ds.length = ps.length + e ∧ e ≤ 2 ∧ j ≤ 1099511627776 ∧ Hid (10000000 ^ e * j ≤ 1099511627776) ∧ Hid (M.Small ds) ∧ Hid (M.pv ds + 10000000 ^ ds.length * j = T) ∧ Own wr2 B sv ds ∧ Below B w wr2) (fun _ kv _ => (intOf kv).toNat)
      case atStart => exact ⟨k, done, 0, rfl, by rw [HDE.out, Nat.add_zero], by omega, hk, by show _ ≤ _; simpa using hk, hsd, HST.out, by rw [← HDE.out]; exact hown', hbw⟩
      case round =>
        obtain ⟨j, ds, e, rfl, hlen, he, hj, hr, hsd2, hst2, hown2, hbw2⟩ := hrel
        have hdl : ds.length ≤ 100002 := by omega
        have HLEN := Lib.hid hlen
        clear hlen
        have hwsz : B ≤ wr.heap.size := Nat.le_trans hB hbw2.size
        by_cases hj0 : 0 < j
        · have hjd : decide (0 < j) = true := by simpa using hj0
          have hroom := M.carry_room hr.out hj0
          have hcs := M.carry_step ds j T hst2.out
          have hdm : j / 10000000 ≤ j := Nat.div_le_self _ _
          have HROOM := Lib.hid hroom
          have HCS := Lib.hid hcs
          clear hroom hcs hr hst2
          go_wp2_with (first | (at_builtin; refine wpList_append_own _ rfl (.tmp 33) (.tmp 36) 107 rfl B 109 i0 (.int .u64 0) 1 8 Tryz.underlying107 hi hz0 hz1 hz2 rfl (by decide) u0 ds.length (ds.map uc) rfl (World.ownsRow.alloc hown2 _) ⟨wr.heap.size, 0, none⟩ 1 1 [.int .u64 ((j % 10000000 : Nat) : Int)] rfl rfl (by rw [← cast_mod1]; exact uc_news _ _ _) (uc_one _) (by unfold maxLen; omega) (by omega) (by simp; omega) ?_; intro v5 w5 hown5 hgrow5 _; have hb5 : Below B w w5 := (hbw2.alloc hwsz _).grown hgrow5 (by simp; omega) (fun k hk => (World.ownsRow.lt hown2 k hk).1); have HO5 := Lib.hid (Own.snoc hown5); clear hgrow5 hown5 hown2) | fail)
          go_roundw
          case rel => exact ⟨j / 10000000, ds ++ [j % 10000000], e + 1, by rw [cast_div1], by rw [List.length_append, HLEN.out]; rfl, by have := HROOM.out.1; omega, by omega, HROOM.out.2, hsd2.out.snoc (by omega), HCS.out, HO5.out, hb5⟩
          case measure => simp [intOf]; omega
        · obtain rfl : j = 0 := by omega
          have hst3 := hst2.out
          rw [Nat.mul_zero, Nat.add_zero] at hst3
          have HST3 := Lib.hid hst3
          have HR := Lib.hid hr
          clear hst3 hst2 hr
          go_wp2
          go_ret
          exact ⟨⟨_, ds, rfl, hown2, hsd2.out, HST3.out, by rw [HLEN.out]; omega⟩, hbw2⟩
end Go.Proofs.YtipgipgehnhgkaaGreatDoor

namespace Go.Proofs.YtipgipgehnhgkaaGreatDoor
open Go.RowKit

theorem dig_cast (p : Nat) : ((UInt8.ofNat (48 + p % 10)).toNat : Int) = 48 + (p : Int) % 10 := by
  have : (UInt8.ofNat (48 + p % 10)).toNat = 48 + p % 10 := by simp; omega
  rw [this]; omega
theorem cast_div10 (k : Nat) : ((k / 10 : Nat) : Int) = (k : Int) / 10 := by rw [Int.natCast_ediv]; rfl
theorem made_mem (w w1 : World) (n : Nat) (ho : w1.ownsRow w.heap.size 5 1 (.slice (some ⟨w.heap.size, 0, none⟩) n n) n (madeCells (Value.int .u8 0).cells (n * 1)).toList) (hg : w.grownBy w1 none) :
    Row w1 w.heap.size (List.replicate n 0) ∧ Below w.heap.size w w1 :=
  ⟨Row.made ho, (Below.refl _ _).grown hg (Nat.le_refl _) (fun k hk => by cases hk)⟩

set_option maxRecDepth 100000 in
set_option maxHeartbeats 4000000 in
theorem written_any (v : Value) (ps : List Nat) (B : Nat) (w : World) (ho : Own w B v ps) (hsm : M.Small ps) (hn : ps.length ≤ 100000) :
    Calls Tryz.prog 112 #[v] w fun r w' => r = .returned (.string (bA (M.wr ps))) ∧ Below w.heap.size w w' := by
  obtain ⟨ao, cap, g, rfl, hao⟩ := ho.form
  have HAO := Lib.hid hao
  have hglt : 0 < ps.length → g < w.heap.size := by
    intro h
    obtain ⟨rfl, _⟩ := hao h
    exact (World.ownsRow.lt ho g rfl).2
  have HG := Lib.hid hglt
  have HSM := Lib.hid hsm
  clear hao hglt hsm
  obtain ⟨i0, hi, hz0, hz1, hz2⟩ := info_parts Tryz.info5
  go_enter Tryz.func112, Tryz.ntmps112
  go_wp2_with (first | (at_make; refine wpList_make_full w rfl (.tmp 9) (.tmp 9) 22 rfl w.heap.size 5 i0 (.int .u8 0) 1 Tryz.underlying22 hi hz0 hz1 .i64 .i64 _ _ (7 * ps.length) rfl rfl (by simp) (by simp) (by rw [hz2]; omega) (by unfold maxLen; omega) (Nat.le_refl _) ?_; intro w1 ho1 hg1; obtain ⟨hR1, hB1⟩ := made_mem w w1 _ ho1 hg1; have HR1 := Lib.hid hR1; clear ho1 hg1 hR1) | fail)
  go_loopw [4, 15] (fun av iv wr => ∃ (i a : Nat), iv = .int .i64 i ∧ i ≤ ps.length ∧ av = .int .i64 (a : Int) ∧ a + 7 * i ≤ 7 * ps.length ∧ 7 * ps.length ≤ a + 7 * i ∧ Hid (Row wr w.heap.size (List.replicate a 0 ++ M.wr (ps.take i))) ∧ Below w.heap.size w wr) (fun _ iv _ => ps.length - (intOf iv).toNat)
  case atStart => exact ⟨0, 7 * ps.length, rfl, Nat.zero_le _, by go_num, by omega, by omega, by show Row _ _ _; simpa [M.wr] using HR1.out, hB1⟩
  case round =>
    obtain ⟨i, a, rfl, hik, rfl, ha1, ha2, hrow, hbw⟩ := hrel
    by_cases hlt : i < ps.length
    · have hltd : decide (i < ps.length) = true := by simpa using hlt
      obtain ⟨rfl, _⟩ := HAO.out (by omega)
      have hg := HG.out (by omega)
      have hc : wr.cell? ⟨g, i, none⟩ = some (.int .u64 (ps[i] : Nat)) := (hbw.cell (p := ⟨g, i, none⟩) hg).trans (ho.cell i hlt)
      have htk : ps.take (i + 1) = ps.take i ++ [ps[i]] := by rw [List.take_succ_eq_append_getElem hlt]
      obtain ⟨p, hp⟩ : ∃ p, ps[i] = p := ⟨_, rfl⟩
      have hpl : p < 10000000 := by rw [← hp]; exact HSM.out _ (List.getElem_mem _)
      rw [hp] at hc htk
      have hwr : M.wr (ps.take (i + 1)) = M.lastD 7 p (M.wr (ps.take i)) := by rw [htk, M.wr_snoc, M.lastD_append 7 p (M.wr _)]
      have HWR := Lib.hid hwr
      have hwl := M.wr_length (ps.take i)
      rw [List.length_take, Nat.min_eq_left hik] at hwl
      obtain ⟨r0, hr0⟩ : ∃ r0, M.wr (ps.take i) = r0 := ⟨_, rfl⟩
      rw [hr0] at hrow HWR hwl
      have HWL := Lib.hid hwl
      clear hwr hwl hr0 hp htk ho
      go_wp2
      go_loopw [4, 6, 19] (fun av pv cv wr2 => ∃ (c q b : Nat) (acc : List UInt8), cv = .int .i64 (c : Int) ∧ c ≤ 7 ∧ pv = .int .u64 (q : Int) ∧ q < 10000000 ∧ av = .int .i64 (b : Int) ∧ b + c ≤ a ∧ a ≤ b + c ∧ Hid (M.lastD (7 - c) q acc = M.lastD 7 p r0) ∧ Hid (Row wr2 w.heap.size (List.replicate b 0 ++ acc)) ∧ Below w.heap.size w wr2) (fun _ _ cv _ => 7 - (intOf cv).toNat)
      case atStart => exact ⟨0, p, a, r0, rfl, Nat.zero_le _, rfl, hpl, rfl, by omega, by omega, rfl, hrow, hbw⟩
      case round =>
        obtain ⟨c, q, b, acc, rfl, hc7, rfl, hq7, rfl, hb1, hb2, hL, hrow2, hbw2⟩ := hrel
        by_cases hcl : c < 7
        · have hcd : decide ((c : Int) < 7) = true := by simp; omega
          obtain ⟨b', rfl⟩ : ∃ b', b = b' + 1 := ⟨b - 1, by omega⟩
          have hfr := hrow2.out.frozen b'
          obtain ⟨x, hx⟩ : ∃ x, wr.cell? ⟨w.heap.size, b', none⟩ = some (.int .u8 x) := ⟨_, hrow2.out.cell b' (by simp; omega)⟩
          have hset := hrow2.out.set b' (UInt8.ofNat (48 + q % 10))
          rw [set_rep, dig_cast] at hset
          have hL1 := hL.out
          obtain ⟨d, hd⟩ : ∃ d, 7 - c = d + 1 := ⟨6 - c, by omega⟩
          rw [hd, M.lastD] at hL1
          have hL2 : M.lastD (7 - (c + 1)) (q / 10) (UInt8.ofNat (48 + q % 10) :: acc) = M.lastD 7 p r0 := by rw [← hL1]; congr 1; omega
          have HL := Lib.hid hL2
          have HSET := Lib.hid hset
          clear hL hL1 hL2 hd hset hrow2
          go_wp2
          go_roundw
          case rel => exact ⟨c + 1, q / 10, b', _, by go_num, by omega, by rw [cast_div10], by omega, by go_num, by omega, by omega, HL.out, HSET.out, hbw2.setCell (Nat.le_refl _) _⟩
          case measure => simp [intOf]; omega
        · obtain rfl : c = 7 := by omega
          have hcd : decide (((7 : Nat) : Int) < 7) = false := by decide
          have hL1 := hL.out
          rw [Nat.sub_self, M.lastD, ← HWR.out] at hL1
          rw [hL1] at hrow2
          clear hL hL1
          go_wp2
          go_roundw
          case rel => exact ⟨i + 1, b, by go_num, by omega, rfl, by omega, by omega, hrow2, hbw2⟩
          case measure => simp [intOf]; omega
    · obtain rfl : i = ps.length := by omega
      obtain rfl : a = 0 := by omega
      have hltd : decide (ps.length < ps.length) = false := by simp
      have hrow1 := hrow.out
      rw [List.take_of_length_le (Nat.le_refl _), List.replicate_zero, List.nil_append] at hrow1
      have hv := Row.conv0 hrow1
      rw [M.wr_length] at hv
      clear hrow1 hrow
      go_wp2
      go_ret
      exact ⟨rfl, hbw⟩
end Go.Proofs.YtipgipgehnhgkaaGreatDoor

namespace Go.Proofs.YtipgipgehnhgkaaGreatDoor
open Go.RowKit

/-- The value of the digits from a up to b. -/
def seg (s : ByteArray) (a b : Nat) : Nat := M.val 10 ((s.data.toList.take b).drop a)
theorem seg_self (s : ByteArray) (a : Nat) : seg s a a = 0 := by
  unfold seg; rw [List.drop_of_length_le (by rw [List.length_take]; omega)]; rfl
theorem seg_succ (s : ByteArray) (a b : Nat) (hab : a ≤ b) (h : b < s.size) : seg s a (b + 1) = seg s a b * 10 + M.dv s[b] := by
  unfold seg
  rw [take_snoc s b h, List.drop_append_of_le_length (by rw [List.length_take, ← sz_list]; omega), M.val_snoc]
theorem seg_join (s : ByteArray) (a b : Nat) (hab : a ≤ b) (h : b ≤ s.size) : seg s 0 b = seg s 0 a * 10 ^ (b - a) + seg s a b := by
  unfold seg
  rw [List.drop_zero, List.drop_zero]
  have e : s.data.toList.take b = s.data.toList.take a ++ (s.data.toList.take b).drop a := by
    have := List.take_append_drop a (s.data.toList.take b)
    rw [List.take_take, Nat.min_eq_left hab] at this
    exact this.symm
  conv => lhs; rw [e]
  rw [M.val_append, List.length_drop, List.length_take, ← sz_list, Nat.min_eq_left h]
theorem seg_lt (s : ByteArray) (a b : Nat) (hd : M.allD 10 s.data.toList = true) (h : b ≤ s.size) : seg s a b < 10 ^ (b - a) := by
  unfold seg
  have h1 : M.allD 10 ((s.data.toList.take b).drop a) = true := by
    rw [M.allD_iff] at hd ⊢
    intro c hc
    exact hd c (List.mem_of_mem_take (List.mem_of_mem_drop hc))
  have := M.val_lt 10 _ h1
  rwa [List.length_drop, List.length_take, ← sz_list, Nat.min_eq_left h] at this
theorem seg_all (s : ByteArray) : seg s 0 s.size = M.val 10 s.data.toList := by
  unfold seg; rw [take_all, List.drop_zero]
theorem read_step (s : ByteArray) (ds : List Nat) (e lo T : Nat) (hlo : lo = e - 7) (he : e ≤ s.size)
    (h : M.pv ds + 10000000 ^ ds.length * seg s 0 e = T) : M.pv (ds ++ [seg s lo e]) + 10000000 ^ (ds ++ [seg s lo e]).length * seg s 0 lo = T := by
  rw [M.pv_snoc, List.length_append, List.length_cons, List.length_nil, Nat.zero_add, Nat.pow_succ, ← h, Nat.add_assoc, Nat.mul_assoc, ← Nat.mul_add]
  congr 2
  rw [seg_join s lo e (by omega) he]
  by_cases h7 : 7 ≤ e
  · rw [show e - lo = 7 by omega, show (10 : Nat) ^ 7 = 10000000 by decide]; omega
  · rw [show lo = 0 by omega, seg_self, Nat.zero_mul]; omega

def ReadPost (B : Nat) (s : ByteArray) (r : Ending) (w' : World) : Prop := ∃ v ps, r = .returned v ∧ Own w' B v ps ∧ M.Small ps ∧ M.pv ps = M.val 10 s.data.toList ∧ ps.length ≤ s.size
theorem own_made {w : World} {B : Nat} {v : Value} (h : w.ownsRow B 109 1 v 0 []) : Own w B v [] := h

set_option maxRecDepth 100000 in
set_option maxHeartbeats 4000000 in
theorem read_any (s : ByteArray) (w : World) (hs : s.size ≤ 100000) (hd : M.allD 10 s.data.toList = true) :
    Calls Tryz.prog 146 #[.string s] w fun r w' => ReadPost w.heap.size s r w' ∧ Below w.heap.size w w' := by
  have HD := Lib.hid hd
  clear hd
  obtain ⟨i0, hi, hz0, hz1, hz2⟩ := info_parts Tryz.info109
  have hdiv : s.size / 7 ≤ s.size := Nat.div_le_self _ _
  go_enter Tryz.func146, Tryz.ntmps146
  go_wp2_with (first | (at_make; refine wpList_make_own w rfl (.const (.int .i64 0)) (.tmp 10) 107 rfl w.heap.size 109 i0 (.int .u64 0) 1 Tryz.underlying107 hi hz0 hz1 .i64 .i64 _ (s.size / 7 + 1) rfl rfl (by omega) (by rw [hz2]; omega) (by unfold maxLen; omega) (Nat.le_refl _) ?_; intro w1 ho1 hg1; have hB1 : Below w.heap.size w w1 := (Below.refl _ _).grown hg1 (Nat.le_refl _) (fun k hk => by cases hk); have HO1 := Lib.hid (own_made ho1); clear ho1 hg1) | fail)
  go_loopw [3, 4] (fun sv ev wr => ∃ (ds : List Nat) (e : Nat) (z : Int), ev = .int .i64 z ∧ z ≤ e ∧ (e : Int) ≤ z + 6 ∧ (0 < e → z = e) ∧ e ≤ s.size ∧ e + ds.length ≤ s.size ∧ Hid (M.Small ds) ∧ Hid (M.pv ds + 10000000 ^ ds.length * seg s 0 e = M.val 10 s.data.toList) ∧ Hid (Own wr w.heap.size sv ds) ∧ Below w.heap.size w wr) (fun _ ev _ => (intOf ev).toNat)
  case atStart => exact ⟨[], s.size, s.size, rfl, Int.le_refl _, by omega, fun _ => rfl, Nat.le_refl _, by simp, M.Small.nil, by show _ = _; rw [seg_all]; simp [M.pv], HO1.out, hB1⟩
  case round =>
    obtain ⟨ds, e, z, rfl, hz1', hz2', hez, hes, hlen, hsd, hst, hown, hbw⟩ := hrel
    have hwsz : w.heap.size ≤ wr.heap.size := hbw.size
    by_cases he0 : 0 < e
    · obtain rfl := hez he0
      clear hez hz1' hz2'
      obtain ⟨lo, hlo⟩ : ∃ lo, lo = e - 7 := ⟨_, rfl⟩
      have hlo1 : lo ≤ e := by omega
      have hlo2 : e ≤ lo + 7 := by omega
      have hstep := read_step s ds e lo _ hlo hes hst.out
      have hseg := seg_lt s lo e HD.out hes
      have hseg7 : seg s lo e < 10000000 := Nat.lt_of_lt_of_le hseg (by
        have := Nat.pow_le_pow_right (show 0 < 10 by omega) (show e - lo ≤ 7 by omega)
        rw [show (10 : Nat) ^ 7 = 10000000 by decide] at this; exact this)
      have HSTEP := Lib.hid hstep
      have HLO := Lib.hid hlo
      clear hstep hseg hst
      have hed : decide ((0 : Int) < (e : Int)) = true := by simp; omega
      clear hlo
      by_cases h7 : 7 ≤ e
      all_goals
        go_wp2
        go_loop [5, 6] (fun qv iv => ∃ (i : Nat), iv = .int .i64 (i : Int) ∧ lo ≤ i ∧ i ≤ e ∧ qv = .int .u64 ((seg s lo i : Nat) : Int)) (fun _ iv => e - (intOf iv).toNat)
        case atStart => exact ⟨lo, by (have := HLO.out; go_num), Nat.le_refl _, hlo1, by rw [seg_self]; rfl⟩
        case round =>
          obtain ⟨i, rfl, hi1, hi2, rfl⟩ := hrel
          by_cases hie : i < e
          · have hied : decide (i < e) = true := by simpa using hie
            have c1 := digitAt_any s i wr (by omega)
            have hsl := seg_lt s lo i HD.out (by omega)
            have hsl6 : seg s lo i < 1000000 := Nat.lt_of_lt_of_le hsl (by
              have := Nat.pow_le_pow_right (show 0 < 10 by omega) (show i - lo ≤ 6 by omega)
              rw [show (10 : Nat) ^ 6 = 1000000 by decide] at this; exact this)
            have hss := seg_succ s lo i hi1 (by omega)
            have hdv := M.dv_le (s[i]'(by omega))
            have HSS := Lib.hid hss
            clear hss hsl
            go_wp2_with (go_at_call 161; refine c1.mono ?_; rintro r w' ⟨rfl, rfl⟩)
            go_round
            case rel => exact ⟨i + 1, by go_num, by omega, by omega, by rw [HSS.out]; go_num⟩
            case measure => simp [intOf]; omega
          · obtain rfl : i = e := by omega
            have hied : decide (i < i) = false := by simp
            have hown1 := hown.out
            have hsm1 := hsd.out.snoc hseg7
            obtain ⟨q, hq⟩ : ∃ q, seg s lo i = q := ⟨_, rfl⟩
            rw [hq] at hseg7 HSTEP hsm1 ⊢
            have HQ := Lib.hid hq
            have HSM1 := Lib.hid hsm1
            clear hq hown hsm1
            go_wp2_with (first | (at_builtin; refine wpList_append_own _ rfl (.tmp 32) (.tmp 34) 107 rfl w.heap.size 109 i0 (.int .u64 0) 1 8 Tryz.underlying107 hi hz0 hz1 hz2 rfl (by decide) _ ds.length (ds.map uc) rfl (World.ownsRow.alloc hown1 _) ⟨wr.heap.size, 0, none⟩ 1 1 [.int .u64 (q : Int)] rfl rfl (uc_news _ _ _) (uc_one _) (by unfold maxLen; omega) (by omega) (by simp; omega) ?_; intro v5 w5 hown5 hgrow5 _; have hb5 : Below w.heap.size w w5 := (hbw.alloc hwsz _).grown hgrow5 (by simp; omega) (fun k hk => (World.ownsRow.lt hown1 k hk).1); have HO5 := Lib.hid (Own.snoc hown5); clear hgrow5 hown5 hown1) | fail)
            go_roundw
            case rel => exact ⟨ds ++ [q], lo, (i : Int) - 7, rfl, by have := HLO.out; omega, by have := HLO.out; omega, fun h => by have := HLO.out; omega, by omega, by have := HLO.out; rw [List.length_append]; simp; omega, HSM1.out, HSTEP.out, HO5.out, hb5⟩
            case measure => simp [intOf]; omega
    · obtain rfl : e = 0 := by omega
      have hed : decide ((0 : Int) < z) = false := by simp; omega
      have hst1 := hst.out
      rw [seg_self, Nat.mul_zero, Nat.add_zero] at hst1
      have HST := Lib.hid hst1
      clear hst hst1
      go_wp2
      go_ret
      exact ⟨⟨_, ds, rfl, hown.out, hsd.out, HST.out, by omega⟩, hbw⟩
end Go.Proofs.YtipgipgehnhgkaaGreatDoor

namespace Go.Proofs.YtipgipgehnhgkaaGreatDoor
open Go.RowKit

theorem wr_bA (ps : List Nat) (hs : M.Small ps) : M.allD 10 (bA (M.wr ps)).data.toList = true ∧ M.val 10 (bA (M.wr ps)).data.toList = M.pv ps ∧ (bA (M.wr ps)).size = 7 * ps.length := by
  rw [bA_toList, bA_size, M.wr_length]
  exact ⟨(M.wr_ok ps hs).1, (M.wr_ok ps hs).2, rfl⟩

/-- The last two calls: written, then whole. -/
theorem ends_any (neg : Bool) (ps : List Nat) (w : World) (hs : M.Small ps) (hn : ps.length ≤ 14000) :
    Calls Tryz.prog 89 #[.bool neg, .string (bA (M.wr ps))] w fun e w' => e = .returned (.string (tx (M.sgn neg (M.pv ps)))) ∧ Below w.heap.size w w' := by
  obtain ⟨h1, h2, h3⟩ := wr_bA ps hs
  have := whole_any neg (bA (M.wr ps)) w (by omega) h1
  rwa [h2] at this

theorem tx_good (z : Int) : M.goodB (tx z).data.toList = true := by rw [tx_list]; exact M.good_txt z
theorem tx_pos (z : Int) : 0 < (tx z).size := by rw [tx_size]; exact List.length_pos_iff.2 (M.txt_ne z)
theorem tx_0 (z : Int) : ((tx z)[0]'(tx_pos z) = 45) ↔ z < 0 := by
  have h := M.txt_isNeg z
  have hl := drop_cons (tx z) 0 (tx_pos z)
  rw [List.drop_zero, tx_list] at hl
  unfold M.isNeg at h
  rw [hl] at h
  simp at h
  exact h

theorem head_not (A : ByteArray) (h0 : 0 < A.size) (h : M.isNeg A.data.toList = false) : ((A[0].toNat : Int) == 45) = false := by
  have hl := drop_cons A 0 h0
  rw [List.drop_zero] at hl
  rw [hl] at h
  have h1 : ¬ A[0] = 45 := by intro e; rw [e] at h; simp [M.isNeg] at h
  simp only [beq_eq_false_iff_ne]
  intro e
  have e' : (A[0].toNat : Int) = ((45 : Nat) : Int) := e
  exact h1 (UInt8.toNat_inj.1 (Int.ofNat_inj.1 e'))
theorem head_is (A : ByteArray) (h0 : 0 < A.size) (h : M.isNeg A.data.toList = true) : A[0].toNat = 45 := by
  have hl := drop_cons A 0 h0
  rw [List.drop_zero] at hl
  rw [hl] at h
  have h1 : A[0] = 45 := by simpa [M.isNeg] using h
  rw [h1]; rfl

set_option maxRecDepth 100000 in
set_option maxHeartbeats 2000000 in
theorem mulAdd_core (A : ByteArray) (a m k : Nat) (w : World) (hA : A.size ≤ 6000) (h0 : 0 < A.size) (hg : M.goodB A.data.toList = true) (hn : M.isNeg A.data.toList = false) (hd : M.allD 10 A.data.toList = true) (hv : M.val 10 A.data.toList = a) (hm : m ≤ 1099511627776) (hk : k ≤ 1099511627776) :
    Calls Tryz.prog 96 #[.string A, .int .i64 m, .int .i64 k] w fun r w' => r = .returned (.string (tx ((a * m + k : Nat) : Int))) ∧ Below w.heap.size w w' := by
  have c1 := good_any A w (by omega)
  rw [hg] at c1
  have h2 := head_not A h0 hn
  have c2 := isStep_any m w
  have c3 := isStep_any k w
  rw [show stepB (m : Int) = true from decide_eq_true (by omega)] at c2
  rw [show stepB (k : Int) = true from decide_eq_true (by omega)] at c3
  have c4 := read_any A w (by omega) hd
  unfold ReadPost at c4
  rw [hv] at c4
  clear hg hn hd hv
  go_enter Tryz.func96, Tryz.ntmps96
  go_wp2_with fail
  refine c1.mono ?_
  rintro r w' ⟨rfl, rfl⟩
  go_wp2_with fail
  refine c2.mono ?_
  rintro r w' ⟨rfl, rfl⟩
  go_wp2_with fail
  refine c3.mono ?_
  rintro r w' ⟨rfl, rfl⟩
  go_wp2_with fail
  refine c4.mono ?_
  rintro r w1 ⟨⟨v, ps, rfl, ho, hsm, hpv, hl⟩, hb1⟩
  have HPV := Lib.hid hpv
  clear hpv c1 c2 c3 c4
  go_wp2_with fail
  refine (mulAdd_any v ps m k w.heap.size _ ho hsm hb1.size (by omega) hm hk).mono ?_
  rintro r w2 ⟨⟨v2, ps2, rfl, ho2, hsm2, hpv2, hl2⟩, hb2⟩
  rw [HPV.out] at hpv2
  have HPV2 := Lib.hid hpv2
  clear hpv2 ho
  go_wp2_with fail
  refine (written_any v2 ps2 w.heap.size _ ho2 hsm2 (by omega)).mono ?_
  rintro r w3 ⟨rfl, hb3⟩
  go_wp2_with fail
  refine (ends_any false ps2 _ hsm2 (by omega)).mono ?_
  rintro r w4 ⟨rfl, hb4⟩
  clear ho2
  go_wp2
  go_ret
  have hz : w.heap.size ≤ w2.heap.size := Nat.le_trans hb1.size hb2.size
  exact ⟨by rw [HPV2.out]; rfl, ((hb1.trans hb2).trans (hb3.mono hz)).trans (hb4.mono (Nat.le_trans hz hb3.size))⟩
theorem mulAdd_yes (a m k : Nat) (w : World) (ha : (M.txt (a : Int)).length ≤ 6000) (hm : m ≤ 1099511627776) (hk : k ≤ 1099511627776) :
    Calls Tryz.prog 96 #[.string (tx a), .int .i64 m, .int .i64 k] w fun r w' => r = .returned (.string (tx ((a * m + k : Nat) : Int))) ∧ Below w.heap.size w w' := by
  refine mulAdd_core (tx a) a m k w (by rw [tx_size]; exact ha) (tx_pos _) (tx_good _) ?_ ?_ ?_ hm hk
  · rw [tx_list, M.txt_isNeg]; simp
  · rw [tx_list, M.txt_nat]; exact M.dg_all a
  · rw [tx_list, M.txt_nat, M.dg_val]
/-- MulAdd where nothing is told. -/
def mulNo (A : ByteArray) (m k : Int) : Prop := M.goodB A.data.toList = false ∨ M.isNeg A.data.toList = true ∨ stepB m = false ∨ stepB k = false
set_option maxRecDepth 100000 in
set_option maxHeartbeats 2000000 in
theorem mulAdd_no (A : ByteArray) (m k : Int) (w : World) (hA : A.size ≤ 6000) (h : mulNo A m k) :
    Calls Tryz.prog 96 #[.string A, .int .i64 m, .int .i64 k] w fun r w' => r = .returned (.string ⟨#[]⟩) ∧ w = w' := by
  have c1 := good_any A w (by omega)
  have c2 := isStep_any m w
  have c3 := isStep_any k w
  by_cases hg : M.goodB A.data.toList = true
  · rw [hg] at c1
    obtain ⟨z, hz⟩ := M.txt_of_good hg
    have h0 : 0 < A.size := by rw [sz_list, hz]; exact List.length_pos_iff.2 (M.txt_ne z)
    clear hz z
    by_cases hn : M.isNeg A.data.toList = true
    · have h2 := head_is A h0 hn
      have h3 : ((A[0].toNat : Int) == 45) = true := by rw [h2]; rfl
      clear hn hg h h2
      go_enter Tryz.func96, Tryz.ntmps96
      go_wp2_with fail
      refine c1.mono ?_
      rintro r w' ⟨rfl, rfl⟩
      go_wp2
      go_ret
      exact ⟨rfl, rfl⟩
    · have h2 := head_not A h0 (by simpa using hn)
      by_cases hm : stepB m = true
      · have hk : stepB k = false := by
          rcases h with h | h | h | h
          · rw [hg] at h; cases h
          · exact absurd h hn
          · rw [hm] at h; cases h
          · exact h
        rw [hm] at c2
        rw [hk] at c3
        clear hm hk hn hg h
        go_enter Tryz.func96, Tryz.ntmps96
        go_wp2_with fail
        refine c1.mono ?_
        rintro r w' ⟨rfl, rfl⟩
        go_wp2_with fail
        refine c2.mono ?_
        rintro r w' ⟨rfl, rfl⟩
        go_wp2_with fail
        refine c3.mono ?_
        rintro r w' ⟨rfl, rfl⟩
        go_wp2
        go_ret
        exact ⟨rfl, rfl⟩
      · rw [show stepB m = false by simpa using hm] at c2
        clear hm hn hg h
        go_enter Tryz.func96, Tryz.ntmps96
        go_wp2_with fail
        refine c1.mono ?_
        rintro r w' ⟨rfl, rfl⟩
        go_wp2_with fail
        refine c2.mono ?_
        rintro r w' ⟨rfl, rfl⟩
        go_wp2
        go_ret
        exact ⟨rfl, rfl⟩
  · rw [show M.goodB A.data.toList = false by simpa using hg] at c1
    clear hg h
    go_enter Tryz.func96, Tryz.ntmps96
    go_wp2_with fail
    refine c1.mono ?_
    rintro r w' ⟨rfl, rfl⟩
    go_wp2
    go_ret
    exact ⟨rfl, rfl⟩
end Go.Proofs.YtipgipgehnhgkaaGreatDoor

namespace Go.Proofs.YtipgipgehnhgkaaGreatDoor
open Go.RowKit

theorem lit_pos (l : List UInt8) (h1 : M.okD 10 l = true) (h2 : l ≠ [] ∧ l.head? ≠ some 48) (n : Nat) (hn : M.val 10 l = n) : tx (n : Int) = bA l := by
  obtain ⟨_, he⟩ := M.dg_of l h1 h2
  unfold tx
  rw [M.txt_nat, ← hn, ← he]
theorem lit_neg (l : List UInt8) (h1 : M.okD 10 l = true) (h2 : l ≠ [] ∧ l.head? ≠ some 48) (n : Nat) (hn : M.val 10 l = n) : tx (-(n : Int)) = bA (45 :: l) := by
  obtain ⟨hp, he⟩ := M.dg_of l h1 h2
  unfold tx
  rw [M.txt_neg _ (by omega), ← hn, ← he]
theorem tx0 : tx 0 = ⟨#[48]⟩ := by unfold tx; rw [M.txt_zero]; rfl
theorem tx1 : tx 1 = ⟨#[49]⟩ := lit_pos [49] (by decide) (by decide) 1 (by decide)
theorem txm1 : tx (-1) = ⟨#[45, 49]⟩ := lit_neg [49] (by decide) (by decide) 1 (by decide)
theorem txm2 : tx (-2) = ⟨#[45, 50]⟩ := lit_neg [50] (by decide) (by decide) 2 (by decide)
end Go.Proofs.YtipgipgehnhgkaaGreatDoor

namespace Go.Proofs.YtipgipgehnhgkaaGreatDoor
open Go.RowKit

theorem norm_list (neg : Bool) (l : List UInt8) (w : World) (h : M.okD 10 l = true) (hl : l.length ≤ 1000) :
    Calls Tryz.prog 44 #[.bool neg, .string (bA l)] w fun e w' => e = .returned (.string (tx (M.sgn neg (M.val 10 l)))) ∧ Below w.heap.size w w' := by
  have := norm_yes neg (bA l) w (by rw [bA_size]; omega) (by rw [bA_toList]; exact h)
  rwa [bA_toList] at this
theorem val_zeros (k : Nat) (l : List UInt8) : M.val 10 (List.replicate k 48 ++ l) = M.val 10 l := by
  rw [M.val_append]
  have : M.val 10 (List.replicate k 48) = 0 := by
    induction k with
    | zero => rfl
    | succ k ih => rw [List.replicate_succ', M.val_snoc, ih]; decide
  rw [this, Nat.zero_mul, Nat.zero_add]
theorem ok_zeros (k : Nat) (l : List UInt8) (h : M.okD 10 l = true) : M.okD 10 (List.replicate k 48 ++ l) = true := by
  rw [M.okD_iff] at h ⊢
  refine ⟨by simp [h.1], ?_⟩
  rw [M.allD_append, h.2, Bool.and_true, M.allD_iff]
  intro c hc
  rw [(List.mem_replicate.1 hc).2]; decide
theorem tx_len (z : Int) (k : Nat) (hk : 0 < k) (h : z.natAbs < 10 ^ k) : (tx z).size ≤ k + 1 := by
  rw [tx_size]; exact M.txt_len z k hk h
theorem tx_inj {a b : Int} (h : tx a = tx b) : a = b := by
  unfold tx at h
  exact M.txt_inj (bA_inj.1 h)
theorem tx_beq (a b : Int) : ((tx a).toList == (tx b).toList) = decide (a = b) := by
  rw [Bool.eq_iff_iff, decide_eq_true_eq, beq_iff_eq, ByteArray.toList_eq, ByteArray.toList_eq]
  constructor
  · intro h
    apply M.txt_inj
    rwa [tx_list, tx_list] at h
  · intro h; rw [h]
theorem sgn_not (neg : Bool) (n : Nat) : M.sgn (!neg) n = -M.sgn neg n := by cases neg <;> simp [M.sgn]
theorem sgn_abs (neg : Bool) (n : Nat) : (M.sgn neg n).natAbs = n := by cases neg <;> simp [M.sgn]
theorem allD_cons {c : UInt8} {r : List UInt8} {k : Nat} (h : M.dv c = k) (hk : k < 10) (hr : M.allD 10 r = true) : M.allD 10 (c :: r) = true := by
  have := M.allD_append 10 [c] r
  rw [hr, Bool.and_true] at this
  rw [show c :: r = [c] ++ r from rfl, this]
  simp [M.allD, h, hk]
end Go.Proofs.YtipgipgehnhgkaaGreatDoor

namespace Go.Proofs.YtipgipgehnhgkaaGreatDoor
open Go.RowKit

/-- A byte alone, as a text. -/
theorem one_conv (w : World) (z : Int) (c : UInt8) (h : (c.toNat : Int) = z) :
    (convert 22 9 (.slice (some ⟨w.heap.size, 0, none⟩) 1 1)).run Tryz.prog (w.alloc (.cells #[.int .u8 z] 5)) = .ok (.string (bA [c])) (w.alloc (.cells #[.int .u8 z] 5)) := by
  have hr : Row (w.alloc (.cells #[.int .u8 z] 5)) w.heap.size [c] := by
    unfold Row
    subst h
    show (w.heap.push (.cells #[.int .u8 (c.toNat : Int)] 5))[w.heap.size]? = _
    simp [Lib.byteCells]
  exact hr.conv0 1
end Go.Proofs.YtipgipgehnhgkaaGreatDoor

namespace Go.Proofs.YtipgipgehnhgkaaGreatDoor
open Go.RowKit

theorem nanI_any (x : Int) (w : World) : Calls Tryz.prog 196 #[.int .i64 x] w fun e w' => e = .returned (.bool false) ∧ w = w' := by
  go_enter Tryz.func196, Tryz.ntmps196
  go_wp2
  go_ret
  exact ⟨ret_bool (by simp), rfl⟩
theorem nanS_any (s : ByteArray) (w : World) : Calls Tryz.prog 197 #[.string s] w fun e w' => e = .returned (.bool false) ∧ w = w' := by
  go_enter Tryz.func197, Tryz.ntmps197
  go_wp2
  go_ret
  exact ⟨ret_bool (by simp), rfl⟩
set_option maxRecDepth 100000 in
theorem cmpI_any (x y : Int) (w : World) : Calls Tryz.prog 191 #[.int .i64 x, .int .i64 y] w fun e w' => e = .returned (.int .i64 (M.cmpZ x y)) ∧ w = w' := by
  have c1 := nanI_any x w
  have c2 := nanI_any y w
  unfold M.cmpZ
  by_cases h1 : x < y
  · rw [if_pos h1]
    have hd : decide (x < y) = true := decide_eq_true h1
    clear h1
    go_enter Tryz.func191, Tryz.ntmps191
    go_wp2_with fail
    refine c1.mono ?_
    rintro r w' ⟨rfl, rfl⟩
    go_wp2_with fail
    refine c2.mono ?_
    rintro r w' ⟨rfl, rfl⟩
    go_wp2
    go_ret
    exact ⟨rfl, rfl⟩
  · rw [if_neg h1]
    have hd : decide (x < y) = false := decide_eq_false h1
    by_cases h2 : y < x
    · rw [if_pos h2]
      have hd2 : decide (y < x) = true := decide_eq_true h2
      clear h1 h2
      go_enter Tryz.func191, Tryz.ntmps191
      go_wp2_with fail
      refine c1.mono ?_
      rintro r w' ⟨rfl, rfl⟩
      go_wp2_with fail
      refine c2.mono ?_
      rintro r w' ⟨rfl, rfl⟩
      go_wp2
      go_ret
      exact ⟨rfl, rfl⟩
    · rw [if_neg h2]
      have hd2 : decide (y < x) = false := decide_eq_false h2
      clear h1 h2
      go_enter Tryz.func191, Tryz.ntmps191
      go_wp2_with fail
      refine c1.mono ?_
      rintro r w' ⟨rfl, rfl⟩
      go_wp2_with fail
      refine c2.mono ?_
      rintro r w' ⟨rfl, rfl⟩
      go_wp2
      go_ret
      exact ⟨rfl, rfl⟩
def cmpL (l m : List UInt8) : Int := if l < m then -1 else if m < l then 1 else 0
theorem less_is (a b : ByteArray) : Op.bytesLess a.toList b.toList = decide (a.data.toList < b.data.toList) := by
  rw [bytesLess_eq, ByteArray.toList_eq, ByteArray.toList_eq]
theorem gtr_is (a b : ByteArray) : (!(Op.bytesLess a.toList b.toList || a.toList == b.toList)) = decide (b.data.toList < a.data.toList) := by
  rw [bytesLess_eq, ByteArray.toList_eq, ByteArray.toList_eq]
  rw [Bool.eq_iff_iff]
  simp
  constructor
  · rintro ⟨h1, h2⟩
    exact Std.lt_of_le_of_ne h1 (Ne.symm h2)
  · intro h
    exact ⟨Std.le_of_lt h, fun e => by rw [e] at h; exact absurd h (List.lt_irrefl _)⟩
set_option maxRecDepth 100000 in
theorem cmpT_any (x y : ByteArray) (w : World) : Calls Tryz.prog 192 #[.string x, .string y] w fun e w' => e = .returned (.int .i64 (cmpL x.data.toList y.data.toList)) ∧ w = w' := by
  have c1 := nanS_any x w
  have c2 := nanS_any y w
  have e1 := less_is x y
  have e2 := gtr_is x y
  unfold cmpL
  obtain ⟨p, hp⟩ : ∃ p, Op.bytesLess x.toList y.toList = p := ⟨_, rfl⟩
  obtain ⟨q, hq⟩ : ∃ q, (x.toList == y.toList) = q := ⟨_, rfl⟩
  rw [hp] at e1
  rw [hp, hq] at e2
  by_cases h1 : x.data.toList < y.data.toList
  · rw [if_pos h1]
    rw [decide_eq_true h1] at e1
    subst e1
    clear e2 h1 hq
    go_enter Tryz.func192, Tryz.ntmps192
    go_wp2_with fail
    refine c1.mono ?_
    rintro r w' ⟨rfl, rfl⟩
    go_wp2_with fail
    refine c2.mono ?_
    rintro r w' ⟨rfl, rfl⟩
    go_wp2
    go_ret
    exact ⟨rfl, rfl⟩
  · rw [if_neg h1]
    rw [decide_eq_false h1] at e1
    subst e1
    rw [Bool.false_or] at e2
    by_cases h2 : y.data.toList < x.data.toList
    · rw [if_pos h2]
      rw [decide_eq_true h2] at e2
      have e3 : q = false := by simpa using e2
      subst e3
      clear e2 h1 h2
      go_enter Tryz.func192, Tryz.ntmps192
      go_wp2_with fail
      refine c1.mono ?_
      rintro r w' ⟨rfl, rfl⟩
      go_wp2_with fail
      refine c2.mono ?_
      rintro r w' ⟨rfl, rfl⟩
      go_wp2
      go_ret
      exact ⟨rfl, rfl⟩
    · rw [if_neg h2]
      rw [decide_eq_false h2] at e2
      have e3 : q = true := by simpa using e2
      subst e3
      clear e2 h1 h2
      go_enter Tryz.func192, Tryz.ntmps192
      go_wp2_with fail
      refine c1.mono ?_
      rintro r w' ⟨rfl, rfl⟩
      go_wp2_with fail
      refine c2.mono ?_
      rintro r w' ⟨rfl, rfl⟩
      go_wp2
      go_ret
      exact ⟨rfl, rfl⟩
set_option maxRecDepth 100000 in
theorem or_any (x y : Int) (g : Nat) (w : World) (h0 : w.cell? ⟨g, 0, none⟩ = some (.int .i64 x)) (h1 : w.cell? ⟨g, 1, none⟩ = some (.int .i64 y)) :
    Calls Tryz.prog 190 #[.slice (some ⟨g, 0, none⟩) 2 2] w fun e w' => e = .returned (.int .i64 (if x = 0 then y else x)) ∧ w = w' := by
  obtain ⟨R, hR⟩ : ∃ R, (if x = 0 then y else x) = R := ⟨_, rfl⟩
  rw [hR]
  have HR := Lib.hid hR
  clear hR
  go_enter Tryz.func190, Tryz.ntmps190
  go_wp2
  go_loop [8] (fun i => ∃ k : Nat, i = .int .i64 k ∧ Hid (k = 0 ∨ (k = 1 ∧ x = 0) ∨ (k = 2 ∧ x = 0 ∧ y = 0))) (fun i => 2 - (intOf i).toNat)
  case atStart => exact ⟨0, rfl, Or.inl rfl⟩
  case round =>
    obtain ⟨k, rfl, hk⟩ := hrel
    rcases hk.out with rfl | ⟨rfl, hx⟩ | ⟨rfl, hx, hy⟩
    · clear hk
      by_cases hx : x = 0
      · have hb : (x != 0) = false := by simpa using hx
        have HX := Lib.hid hx
        clear hx
        go_wp2
        go_round
        case rel => exact ⟨1, rfl, Or.inr (Or.inl ⟨rfl, HX.out⟩)⟩
        case measure => simp [intOf]
      · have hb : (x != 0) = true := by simpa using hx
        have HX := Lib.hid hx
        clear hx
        go_wp2
        go_ret
        exact ⟨ret_int (by rw [← HR.out, if_neg HX.out]), rfl⟩
    · have HX := Lib.hid hx
      clear hk hx
      by_cases hy : y = 0
      · have hb : (y != 0) = false := by simpa using hy
        have HY := Lib.hid hy
        clear hy
        go_wp2
        go_round
        case rel => exact ⟨2, rfl, Or.inr (Or.inr ⟨rfl, HX.out, HY.out⟩)⟩
        case measure => simp [intOf]
      · have hb : (y != 0) = true := by simpa using hy
        clear hy
        go_wp2
        go_ret
        exact ⟨ret_int (by rw [← HR.out, if_pos HX.out]), rfl⟩
    · have HX := Lib.hid hx
      have HY := Lib.hid hy
      clear hk hx hy
      go_wp2
      go_ret
      exact ⟨ret_int (by rw [← HR.out, if_pos HX.out, HY.out]), rfl⟩
theorem cmpS_or (a b : ByteArray) : M.cmpS a.data.toList b.data.toList = if M.cmpZ (a.size : Int) (b.size : Int) = 0 then cmpL a.data.toList b.data.toList else M.cmpZ (a.size : Int) (b.size : Int) := by
  rw [sz_list, sz_list]
  generalize a.data.toList = l
  generalize b.data.toList = m
  unfold M.cmpS cmpL
  by_cases h1 : l.length < m.length
  · have e : M.cmpZ (l.length : Int) (m.length : Int) = -1 := by unfold M.cmpZ; rw [if_pos (by omega)]
    rw [if_pos h1, e]; rfl
  · by_cases h2 : m.length < l.length
    · have e : M.cmpZ (l.length : Int) (m.length : Int) = 1 := by unfold M.cmpZ; rw [if_neg (by omega), if_pos (by omega)]
      rw [if_neg h1, if_pos h2, e]; rfl
    · have e : M.cmpZ (l.length : Int) (m.length : Int) = 0 := by unfold M.cmpZ; rw [if_neg (by omega), if_neg (by omega)]
      rw [if_neg h1, if_neg h2, e, if_pos rfl]
set_option maxRecDepth 100000 in
theorem compareDigits_any (a b : ByteArray) (w : World) (ha : a.size ≤ 1000000) (hb : b.size ≤ 1000000) :
    Calls Tryz.prog 181 #[.string a, .string b] w fun e w' => e = .returned (.int .i64 (M.cmpS a.data.toList b.data.toList)) ∧ Below w.heap.size w w' := by
  rw [cmpS_or]
  have c1 := cmpI_any (a.size : Int) (b.size : Int)
  have c2 := cmpT_any a b
  generalize M.cmpZ (a.size : Int) (b.size : Int) = p at *
  generalize cmpL a.data.toList b.data.toList = q at *
  have c3 := or_any p q w.heap.size (w.alloc (Obj.cells #[Value.int IntKind.i64 p, Value.int IntKind.i64 q] 3)) (by simp) (by simp)
  generalize (if p = 0 then q else p) = R at *
  go_enter Tryz.func181, Tryz.ntmps181
  go_wp2_with fail
  refine (c1 _).mono ?_
  rintro r w' ⟨rfl, rfl⟩
  go_wp2_with fail
  refine (c2 _).mono ?_
  rintro r w' ⟨rfl, rfl⟩
  go_wp2_with fail
  refine c3.mono ?_
  rintro r w' ⟨rfl, rfl⟩
  go_wp2
  go_ret
  exact ⟨rfl, (Below.refl _ _).alloc (Nat.le_refl _) _⟩
end Go.Proofs.YtipgipgehnhgkaaGreatDoor

namespace Go.Proofs.YtipgipgehnhgkaaGreatDoor
open Go.RowKit

theorem split_tx (x : Int) (w : World) (hx : (tx x).size ≤ 100000) :
    Calls Tryz.prog 147 #[.string (tx x)] w fun e w' => e = .returned (.tuple #[.bool (decide (x < 0)), .string (bA (M.dg x.natAbs))]) ∧ w = w' := by
  have := split_any (tx x) w (by omega)
  rwa [tx_list, M.txt_isNeg, M.txt_unsign] at this
theorem cmpD_any (x y : Nat) (w : World) (hx : (bA (M.dg x)).size ≤ 1000000) (hy : (bA (M.dg y)).size ≤ 1000000) :
    Calls Tryz.prog 181 #[.string (bA (M.dg x)), .string (bA (M.dg y))] w fun e w' => e = .returned (.int .i64 (M.cmpZ x y)) ∧ Below w.heap.size w w' := by
  have := compareDigits_any (bA (M.dg x)) (bA (M.dg y)) w hx hy
  rwa [bA_toList, bA_toList, M.cmpS_dg] at this
theorem dg_tx_size (x : Int) : (bA (M.dg x.natAbs)).size ≤ (tx x).size := by
  rw [bA_size, tx_size]
  unfold M.txt
  split
  · simp
  · rw [show x.toNat = x.natAbs by omega]; omega
theorem cmp_sides (x y : Int) : M.cmpZ x y = if x < 0 then (if y < 0 then M.cmpZ (y.natAbs : Nat) (x.natAbs : Nat) else -1) else (if y < 0 then 1 else M.cmpZ (x.natAbs : Nat) (y.natAbs : Nat)) := by
  have := M.cmp_txt x y
  rwa [M.cmpS_dg, M.cmpS_dg] at this
end Go.Proofs.YtipgipgehnhgkaaGreatDoor
