/- Plain mathematics: moments read sign by sign; the days of a month; a moment's text. Plain mathematics: texts put together of two digits each are read as they were put together. Small things that all walks of this seat use. Blocks of memory that hold what a text says, or a day. A scope of many labels. Walks: stamp's at, isDigit, isBlank, number, Days, isLong; targumref10's Days. Walks: stamp's and targumref10's Days. -/
import Derived.Test.YtipgipgehnhgkaaGreatDoorRows
import Derived.WalkKit
import Derived.WalkSpells
import Derived.WalkLawsBesides
import Derived.WalkMore
import Derived.Scope
import Derived.Deep.QuietTactic
import Derived.BigQuiet
import Derived.Lib.Hide
import Derived.Deep.Light
import Derived.LoopTactic
import Derived.Laws.Rows
import Derived.Laws.Tables
import Derived.Laws.CopyOwn
import Derived.Laws.ResultCell
import Derived.Deep.WholeRow
import Derived.IntWalk
import Derived.Deep.RegionHeld3
set_option linter.unusedVariables false
namespace Go.Proofs.YtipgipgehnhgkaaGreatDoor.S10
namespace M

/-- A digit. -/
def dB (c : UInt8) : Bool := decide (48 ≤ c.toNat) && decide (c.toNat ≤ 57)
/-- A blank. -/
def bB (c : UInt8) : Bool := decide (c.toNat = 32) || decide (c.toNat = 9)
/-- How many digits stand ahead, so many at most. -/
def cnt : Nat → List UInt8 → Nat
  | 0, _ => 0
  | _ + 1, [] => 0
  | k + 1, c :: r => if dB c then cnt k r + 1 else 0
/-- What they say, behind what was read. -/
def nv : Nat → Nat → List UInt8 → Nat
  | 0, a, _ => a
  | _ + 1, a, [] => a
  | k + 1, a, c :: r => if dB c then nv k (a * 10 + (c.toNat - 48)) r else a

/-- What a text says. -/
structure Mo where
  y : Nat
  m : Nat
  d : Nat
  td : Bool
  h : Nat
  mi : Nat
  se : Nat
  fr : List UInt8
  bh : Bool
  zh : Nat
  zm : Nat

def M0 : Mo := ⟨0, 0, 0, false, 0, 0, 0, [], false, 0, 0⟩

def cLast (M : Mo) (l : List UInt8) : Option Mo := if l = [] then some M else none
def cMin (M : Mo) (l : List UInt8) : Option Mo := if cnt 2 l = 2 then cLast { M with zm := nv 2 0 l } (l.drop 2) else none
def cHour (M : Mo) (l : List UInt8) : Option Mo :=
  if cnt 2 l = 0 then none
  else if (l.drop (cnt 2 l)).head? = some 58 then cMin { M with zh := nv 2 0 l } (l.drop (cnt 2 l + 1))
  else cLast { M with zh := nv 2 0 l } (l.drop (cnt 2 l))
def cBl (M : Mo) : List UInt8 → Option Mo
  | [] => none
  | c :: r => if bB c then cBl M r else if c = 90 then cLast M r else if c = 43 then cHour { M with bh := false } r else if c = 45 then cHour { M with bh := true } r else none
def cClk (M : Mo) (l : List UInt8) : Option Mo := if l = [] then some M else cBl M l

def aPl (M : Mo) (f : List UInt8) : List UInt8 → Option Mo
  | [] => cClk { M with fr := f } []
  | c :: r => if dB c then aPl M (f ++ [c]) r else cClk { M with fr := f } (c :: r)
def aSec (M : Mo) (l : List UInt8) : Option Mo :=
  if cnt 2 l = 2 then (if (l.drop 2).head? = some 46 then aPl { M with se := nv 2 0 l } [] (l.drop 3) else cClk { M with se := nv 2 0 l } (l.drop 2)) else none
def aMin (M : Mo) (l : List UInt8) : Option Mo :=
  if cnt 2 l = 2 then (if (l.drop 2).head? = some 58 then aSec { M with mi := nv 2 0 l } (l.drop 3) else none) else none
def aDay (M : Mo) (l : List UInt8) : Option Mo :=
  if cnt 2 l = 0 then none
  else if (l.drop (cnt 2 l)).head? = some 58 then aMin { M with td := true, h := nv 2 0 l } (l.drop (cnt 2 l + 1)) else none

def rBl (M : Mo) : List UInt8 → Option Mo
  | [] => aDay M []
  | c :: r => if bB c then rBl M r else aDay M (c :: r)
def rTail (n : Nat) (M : Mo) : List UInt8 → Option Mo
  | [] => if n = 10 then some M else none
  | c :: r => if c = 84 then aDay M r else if c = 116 then aDay M r else if bB c then rBl M r else none
def rDay (n : Nat) (M : Mo) (l : List UInt8) : Option Mo := if cnt 2 l = 0 then none else rTail n { M with d := nv 2 0 l } (l.drop (cnt 2 l))
def rMon (n : Nat) (M : Mo) (l : List UInt8) : Option Mo :=
  if cnt 2 l = 0 then none
  else if (l.drop (cnt 2 l)).head? = some 45 then rDay n { M with m := nv 2 0 l } (l.drop (cnt 2 l + 1)) else none
/-- What a text says, if it has a moment's form. -/
def rd (l : List UInt8) : Option Mo :=
  if cnt 4 l = 4 then (if (l.drop 4).head? = some 45 then rMon l.length { M0 with y := nv 4 0 l } (l.drop 5) else none) else none

def lng (y : Nat) : Bool := decide (y % 4 = 0) && (decide (y % 100 ≠ 0) || decide (y % 400 = 0))
def days (y m : Nat) : Nat :=
  if m = 2 then (if lng y then 29 else 28) else if m = 4 ∨ m = 6 ∨ m = 9 ∨ m = 11 then 30 else if m = 0 ∨ 12 < m then 0 else 31
/-- Each part is one that there is. -/
def mayD (M : Mo) : Bool := decide (1 ≤ M.d) && decide (M.d ≤ days M.y M.m)
def mayC (M : Mo) : Bool := decide (M.h < 24) && (decide (M.mi < 60) && decide (M.se < 60))
def mayZ (M : Mo) : Bool := decide (M.zh < 24) && decide (M.zm < 60)
def may (M : Mo) : Bool := mayD M && (mayC M && mayZ M)

/-- A digit's sign. -/
def dch (a : Nat) : UInt8 := UInt8.ofNat (48 + a)
def d2 (n : Nat) : List UInt8 := [dch (n / 10), dch (n % 10)]
def d4 (n : Nat) : List UInt8 := d2 (n / 100) ++ d2 (n % 100)
/-- Without noughts at the end. -/
def tz (l : List UInt8) : List UInt8 := (l.reverse.dropWhile (· == 48)).reverse
def dot (l : List UInt8) : List UInt8 := if l = [] then [] else 46 :: l
/-- The text of a time in the zone Z. -/
def ttx (y m d n se : Nat) (fr : List UInt8) : List UInt8 :=
  d4 y ++ (45 :: (d2 m ++ (45 :: (d2 d ++ (84 :: (d2 (n / 60) ++ (58 :: (d2 (n % 60) ++ (58 :: (d2 se ++ (dot (tz fr) ++ [90])))))))))))
/-- The day behind, the day ahead; none: there is no year 0 less one. -/
def aft (y m d : Nat) : Nat × Nat × Nat := if d < days y m then (y, m, d + 1) else if m < 12 then (y, m + 1, 1) else (y + 1, 1, 1)
def bef (y m d : Nat) : Nat × Nat × Nat := if 1 < d then (y, m, d - 1) else if 1 < m then (y, m - 1, days y (m - 1)) else (y - 1, 12, 31)
/-- The minutes in the zone Z, behind noon of no day: some below 0, some above a day's. -/
def off (M : Mo) : Int := if M.bh then -((60 * M.zh + M.zm : Nat) : Int) else ((60 * M.zh + M.zm : Nat) : Int)
def mins (M : Mo) : Int := ((60 * M.h + M.mi : Nat) : Int) - off M
/-- The year, the month, the day, the minutes in the zone Z. -/
def zy (M : Mo) : Nat × Nat × Nat × Nat :=
  if mins M < 0 then (let p := bef M.y M.m M.d; (p.1, p.2.1, p.2.2, (mins M + 1440).toNat))
  else if 1440 ≤ mins M then (let p := aft M.y M.m M.d; (p.1, p.2.1, p.2.2, (mins M - 1440).toNat))
  else (M.y, M.m, M.d, (mins M).toNat)
/-- Is the moment ahead of the year 0? -/
def early (M : Mo) : Bool := decide (mins M < 0) && (decide (M.y = 0) && (decide (M.m ≤ 1) && decide (M.d ≤ 1)))
def zt (M : Mo) : Option (List UInt8) :=
  if early M then none else if 9999 < (zy M).1 then none else some (ttx (zy M).1 (zy M).2.1 (zy M).2.2.1 (zy M).2.2.2 M.se M.fr)
/-- The text of the moment that a text says. -/
def ofS (l : List UInt8) : Option (List UInt8) :=
  match rd l with
  | none => none
  | some M => if may M then (if M.td then zt M else some l) else none

theorem dch_nat {a : Nat} (h : a < 10) : (dch a).toNat = 48 + a := by unfold dch; simp; omega
theorem cnt_le (k : Nat) (l : List UInt8) : cnt k l ≤ k := by
  induction k generalizing l with
  | zero => simp [cnt]
  | succ k ih =>
    cases l with
    | nil => simp [cnt]
    | cons c r => simp only [cnt]; split; have := ih r; omega; omega
theorem cnt_len (k : Nat) (l : List UInt8) : cnt k l ≤ l.length := by
  induction k generalizing l with
  | zero => simp [cnt]
  | succ k ih =>
    cases l with
    | nil => simp [cnt]
    | cons c r => simp only [cnt, List.length_cons]; split; have := ih r; omega; omega
theorem nv_lt (k a : Nat) (l : List UInt8) : nv k a l < (a + 1) * 10 ^ k := by
  induction k generalizing l a with
  | zero => simp [nv]
  | succ k ih =>
    have hp : 0 < 10 ^ k := Nat.pow_pos (by omega)
    have h1 : (a + 1) * 10 ^ (k + 1) = (a + 1) * 10 ^ k * 10 := by rw [Nat.pow_succ, Nat.mul_assoc]
    cases l with
    | nil => simp only [nv]; have := Nat.mul_le_mul_left (a + 1) hp; omega
    | cons c r =>
      simp only [nv]
      split
      · rename_i hd
        have := ih (a * 10 + (c.toNat - 48)) r
        simp [dB] at hd
        have h2 : (a * 10 + (c.toNat - 48) + 1) * 10 ^ k ≤ ((a + 1) * 10) * 10 ^ k := Nat.mul_le_mul_right _ (by omega)
        have h3 : ((a + 1) * 10) * 10 ^ k = (a + 1) * 10 ^ k * 10 := by rw [Nat.mul_assoc, Nat.mul_comm 10, Nat.mul_assoc]
        omega
      · have := Nat.mul_le_mul_left (a + 1) hp; omega
theorem nv2_lt (l : List UInt8) : nv 2 0 l < 100 := nv_lt 2 0 l
theorem nv4_lt (l : List UInt8) : nv 4 0 l < 10000 := nv_lt 4 0 l
end M
end Go.Proofs.YtipgipgehnhgkaaGreatDoor.S10

namespace Go.Proofs.YtipgipgehnhgkaaGreatDoor.S10
namespace M

theorem dB_dig {a : Nat} (h : a < 10) : dB (dch a) = true := by
  simp [dB, dch_nat h]; omega
theorem sub_dig {a : Nat} (h : a < 10) : (dch a).toNat - 48 = a := by
  rw [dch_nat h]; omega
theorem cnt2 {n : Nat} (h : n < 100) (r : List UInt8) : cnt 2 (d2 n ++ r) = 2 := by
  simp [d2, cnt, dB_dig (show n / 10 < 10 by omega), dB_dig (show n % 10 < 10 by omega)]
theorem nv2 {n : Nat} (h : n < 100) (r : List UInt8) : nv 2 0 (d2 n ++ r) = n := by
  simp only [d2, List.cons_append, List.nil_append, nv, dB_dig (show n / 10 < 10 by omega), dB_dig (show n % 10 < 10 by omega), if_true, sub_dig (show n / 10 < 10 by omega), sub_dig (show n % 10 < 10 by omega)]
  omega
theorem dr2 (n : Nat) (r : List UInt8) : (d2 n ++ r).drop 2 = r := rfl
theorem dr3 (n : Nat) (c : UInt8) (r : List UInt8) : (d2 n ++ (c :: r)).drop 3 = r := rfl
theorem cnt4 {n : Nat} (h : n < 10000) (r : List UInt8) : cnt 4 (d4 n ++ r) = 4 := by
  simp [d4, d2, cnt, dB_dig (show n / 100 / 10 < 10 by omega), dB_dig (show n / 100 % 10 < 10 by omega), dB_dig (show n % 100 / 10 < 10 by omega), dB_dig (show n % 10 < 10 by omega)]
theorem nv4 {n : Nat} (h : n < 10000) (r : List UInt8) : nv 4 0 (d4 n ++ r) = n := by
  simp only [d4, d2, List.cons_append, List.nil_append, nv, dB_dig (show n / 100 / 10 < 10 by omega), dB_dig (show n / 100 % 10 < 10 by omega), dB_dig (show n % 100 / 10 < 10 by omega), dB_dig (show n % 100 % 10 < 10 by omega), if_true,
    sub_dig (show n / 100 / 10 < 10 by omega), sub_dig (show n / 100 % 10 < 10 by omega), sub_dig (show n % 100 / 10 < 10 by omega), sub_dig (show n % 100 % 10 < 10 by omega)]
  omega
theorem dr4 (n : Nat) (r : List UInt8) : (d4 n ++ r).drop 4 = r := rfl
theorem dr5 (n : Nat) (c : UInt8) (r : List UInt8) : (d4 n ++ (c :: r)).drop 5 = r := rfl
theorem len_d2 (n : Nat) : (d2 n).length = 2 := rfl
theorem len_d4 (n : Nat) : (d4 n).length = 4 := rfl
theorem cnt1 {n : Nat} (h : n < 10) (r : List UInt8) : cnt 2 (dch n :: 58 :: r) = 1 := by
  have h58 : dB 58 = false := by decide
  simp [cnt, dB_dig h, h58]
theorem nv1 {n : Nat} (h : n < 10) (r : List UInt8) : nv 2 0 (dch n :: 58 :: r) = n := by
  have h58 : dB 58 = false := by decide
  simp only [nv, dB_dig h, h58, if_true, sub_dig h]
  simp

theorem rd_of {y m d : Nat} (hy : y < 10000) (hm : m < 100) (hd : d < 100) (r : List UInt8) :
    rd (d4 y ++ (45 :: (d2 m ++ (45 :: (d2 d ++ r))))) = rTail (10 + r.length) { M0 with y := y, m := m, d := d } r := by
  have hl : (d4 y ++ (45 :: (d2 m ++ (45 :: (d2 d ++ r))))).length = 10 + r.length := by
    simp only [List.length_append, List.length_cons, len_d2, len_d4]; omega
  unfold rd
  rw [if_pos (cnt4 hy _), dr4, List.head?_cons, if_pos rfl, hl, dr5, nv4 hy]
  unfold rMon
  rw [cnt2 hm, if_neg (by decide), dr2, List.head?_cons, if_pos rfl, dr3, nv2 hm]
  unfold rDay
  rw [cnt2 hd, if_neg (by decide), dr2, nv2 hd]
/-- Behind the seconds. -/
def aRest (M : Mo) (r : List UInt8) : Option Mo := if r.head? = some 46 then aPl M [] (r.drop 1) else cClk M r
theorem aDay_of (M : Mo) {h mi se : Nat} (h1 : h < 100) (h2 : mi < 100) (h3 : se < 100) (r : List UInt8) :
    aDay M (d2 h ++ (58 :: (d2 mi ++ (58 :: (d2 se ++ r))))) = aRest { M with td := true, h := h, mi := mi, se := se } r := by
  unfold aDay
  rw [cnt2 h1, if_neg (by decide), dr2, List.head?_cons, if_pos rfl, dr3, nv2 h1]
  unfold aMin
  rw [cnt2 h2, if_pos rfl, dr2, List.head?_cons, if_pos rfl, dr3, nv2 h2]
  unfold aSec
  rw [cnt2 h3, if_pos rfl, dr2, nv2 h3]
  unfold aRest
  rfl
theorem aPl_of (M : Mo) (g f r : List UInt8) (hf : ∀ c ∈ f, dB c = true) (hr : ∀ c, r.head? = some c → dB c = false) :
    aPl M g (f ++ r) = cClk { M with fr := g ++ f } r := by
  induction f generalizing g with
  | nil =>
    rw [List.nil_append, List.append_nil]
    cases r with
    | nil => rfl
    | cons c r => rw [aPl, if_neg (by rw [hr c rfl]; decide)]
  | cons c f ih =>
    rw [List.cons_append, aPl, if_pos (hf c (by simp)), ih _ (fun x hx => hf x (by simp [hx])), List.append_assoc]; rfl
theorem aRest_none (M : Mo) : aRest M [] = some M := rfl
theorem aRest_Z (M : Mo) : aRest M [90] = some M := rfl
theorem aRest_dot (M : Mo) (f r : List UInt8) (hf : ∀ c ∈ f, dB c = true) (hr : ∀ c, r.head? = some c → dB c = false) : aRest M (46 :: (f ++ r)) = cClk { M with fr := f } r := by
  unfold aRest
  rw [List.head?_cons, if_pos rfl]
  exact aPl_of M [] f r hf hr
theorem cBl_blank (M : Mo) {c : UInt8} (h : bB c = true) (r : List UInt8) : cBl M (c :: r) = cBl M r := by rw [cBl, if_pos h]
theorem cBl_blanks (M : Mo) (b r : List UInt8) (h : ∀ c ∈ b, bB c = true) : cBl M (b ++ r) = cBl M r := by
  induction b with
  | nil => rfl
  | cons c b ih => rw [List.cons_append, cBl_blank M (h c (by simp)), ih fun x hx => h x (by simp [hx])]
theorem rBl_blanks (M : Mo) (b r : List UInt8) (h : ∀ c ∈ b, bB c = true) (hr : ∀ c, r.head? = some c → bB c = false) : rBl M (b ++ r) = aDay M r := by
  induction b with
  | nil =>
    rw [List.nil_append]
    cases r with
    | nil => rfl
    | cons c r => rw [rBl, if_neg (by rw [hr c rfl]; decide)]
  | cons c b ih => rw [List.cons_append, rBl, if_pos (h c (by simp)), ih fun x hx => h x (by simp [hx])]
theorem bB_dig {a : Nat} (h : a < 10) : bB (dch a) = false := by
  simp [bB, dch_nat h]; omega
theorem bB_head (n : Nat) (h : n < 100) (r : List UInt8) : ∀ c, (d2 n ++ r).head? = some c → bB c = false := by
  intro c hc
  simp [d2] at hc
  rw [← hc]
  have := bB_dig (show n / 10 < 10 by omega)
  simpa using this
theorem rTail_T (n : Nat) (M : Mo) (r : List UInt8) : rTail n M (84 :: r) = aDay M r := rfl
theorem rTail_t (n : Nat) (M : Mo) (r : List UInt8) : rTail n M (116 :: r) = aDay M r := rfl
theorem rTail_blanks (n : Nat) (M : Mo) (b r : List UInt8) (hb : b ≠ []) (h : ∀ c ∈ b, bB c = true) (hr : ∀ c, r.head? = some c → bB c = false) : rTail n M (b ++ r) = aDay M r := by
  cases b with
  | nil => exact absurd rfl hb
  | cons c b =>
    have hc := h c (by simp)
    rw [List.cons_append, rTail, if_neg (by rintro rfl; revert hc; decide), if_neg (by rintro rfl; revert hc; decide), if_pos hc]
    exact rBl_blanks M b r (fun x hx => h x (by simp [hx])) hr
/-- A zone's text behind the blanks. -/
theorem cBl_zone (M : Mo) {c : UInt8} (b : Bool) (hc : c = if b then 45 else 43) {h m : Nat} (h1 : h < 100) (h2 : m < 100) : cBl M (c :: (d2 h ++ (58 :: d2 m))) = some { M with bh := b, zh := h, zm := m } := by
  have key : ∀ M : Mo, cHour M (d2 h ++ (58 :: d2 m)) = some { M with zh := h, zm := m } := by
    intro M
    unfold cHour
    rw [cnt2 h1, if_neg (by decide), dr2, List.head?_cons, if_pos rfl, dr3, nv2 h1]
    unfold cMin
    have := cnt2 h2 []
    rw [List.append_nil] at this
    have v := nv2 h2 []
    rw [List.append_nil] at v
    rw [this, if_pos rfl, v]; rfl
  cases b
  · subst hc
    rw [cBl, if_neg (by decide), if_neg (by decide), if_pos (by decide), key]
  · subst hc
    rw [cBl, if_neg (by decide), if_neg (by decide), if_neg (by decide), if_pos (by decide), key]
theorem cBl_zone1 (M : Mo) {c : UInt8} (b : Bool) (hc : c = if b then 45 else 43) {h m : Nat} (h1 : h < 10) (h2 : m < 100) : cBl M (c :: dch h :: (58 :: d2 m)) = some { M with bh := b, zh := h, zm := m } := by
  have key : ∀ M : Mo, cHour M (dch h :: (58 :: d2 m)) = some { M with zh := h, zm := m } := by
    intro M
    unfold cHour
    rw [cnt1 h1, if_neg (by decide), nv1 h1]
    show (if (List.head? (58 :: d2 m)) = some 58 then _ else _) = _
    rw [List.head?_cons, if_pos rfl]
    show cMin _ (d2 m) = _
    unfold cMin
    have := cnt2 h2 []
    rw [List.append_nil] at this
    have v := nv2 h2 []
    rw [List.append_nil] at v
    rw [this, if_pos rfl, v]; rfl
  cases b
  · subst hc
    rw [cBl, if_neg (by decide), if_neg (by decide), if_pos (by decide), key]
  · subst hc
    rw [cBl, if_neg (by decide), if_neg (by decide), if_neg (by decide), if_pos (by decide), key]

theorem days_le (y m : Nat) : days y m ≤ 31 := by unfold days; split; split <;> omega; split; omega; split <;> omega
theorem days_pos {y m : Nat} (h1 : 1 ≤ m) (h2 : m ≤ 12) : 28 ≤ days y m := by unfold days; split; split <;> omega; split; omega; split <;> omega
theorem days_zero {y m : Nat} (h : m = 0 ∨ 12 < m) : days y m = 0 := by
  unfold days; rw [if_neg (by omega), if_neg (by omega), if_pos h]
theorem days_dec (y : Nat) : days y 12 = 31 := rfl
theorem days_jan (y : Nat) : days y 1 = 31 := rfl
theorem may_iff (M : Mo) : may M = true ↔ (1 ≤ M.d ∧ M.d ≤ days M.y M.m) ∧ (M.h < 24 ∧ M.mi < 60 ∧ M.se < 60) ∧ M.zh < 24 ∧ M.zm < 60 := by
  simp [may, mayD, mayC, mayZ]
theorem month_of {M : Mo} (h : 1 ≤ M.d ∧ M.d ≤ days M.y M.m) : 1 ≤ M.m ∧ M.m ≤ 12 := by
  by_cases hz : M.m = 0 ∨ 12 < M.m
  · rw [days_zero hz] at h; omega
  · omega
/-- The parts in the zone Z are parts that there are. -/
theorem zy_ok {M : Mo} (h : may M = true) (he : early M = false) (hy : (zy M).1 ≤ 9999) :
    1 ≤ (zy M).2.1 ∧ (zy M).2.1 ≤ 12 ∧ 1 ≤ (zy M).2.2.1 ∧ (zy M).2.2.1 ≤ days (zy M).1 (zy M).2.1 ∧ (zy M).2.2.2 < 1440 := by
  obtain ⟨hd, ⟨h1, h2, h3⟩, h4, h5⟩ := (may_iff M).1 h
  obtain ⟨m1, m2⟩ := month_of hd
  have ho : off M < 1440 ∧ -1440 < off M := by unfold off; split <;> omega
  have hm : mins M = ((60 * M.h + M.mi : Nat) : Int) - off M := rfl
  generalize mins M = z at *
  have e : zy M = if z < 0 then (let p := bef M.y M.m M.d; (p.1, p.2.1, p.2.2, (z + 1440).toNat))
      else if 1440 ≤ z then (let p := aft M.y M.m M.d; (p.1, p.2.1, p.2.2, (z - 1440).toNat)) else (M.y, M.m, M.d, z.toNat) := by
    unfold zy mins
    rw [← hm]
  rw [e] at hy ⊢
  clear e
  by_cases hz : z < 0
  · rw [if_pos hz] at hy ⊢
    unfold bef at hy ⊢
    by_cases hd1 : 1 < M.d
    · rw [if_pos hd1] at hy ⊢
      dsimp only at hy ⊢
      exact ⟨m1, m2, by omega, by omega, by omega⟩
    · rw [if_neg hd1] at hy ⊢
      by_cases hm1 : 1 < M.m
      · rw [if_pos hm1] at hy ⊢
        dsimp only at hy ⊢
        have := days_pos (y := M.y) (m := M.m - 1) (by omega) (by omega)
        exact ⟨by omega, by omega, by omega, Nat.le_refl _, by omega⟩
      · rw [if_neg hm1] at hy ⊢
        dsimp only at hy ⊢
        rw [days_dec]
        exact ⟨by omega, by omega, by omega, by omega, by omega⟩
  · rw [if_neg hz] at hy ⊢
    by_cases hz2 : 1440 ≤ z
    · rw [if_pos hz2] at hy ⊢
      unfold aft at hy ⊢
      by_cases hd1 : M.d < days M.y M.m
      · rw [if_pos hd1] at hy ⊢
        dsimp only at hy ⊢
        exact ⟨m1, m2, by omega, by omega, by omega⟩
      · rw [if_neg hd1] at hy ⊢
        by_cases hm1 : M.m < 12
        · rw [if_pos hm1] at hy ⊢
          dsimp only at hy ⊢
          have := days_pos (y := M.y) (m := M.m + 1) (by omega) (by omega)
          exact ⟨by omega, by omega, by omega, by omega, by omega⟩
        · rw [if_neg hm1] at hy ⊢
          dsimp only at hy ⊢
          rw [days_jan]
          exact ⟨by omega, by omega, by omega, by omega, by omega⟩
    · rw [if_neg hz2] at hy ⊢
      exact ⟨m1, m2, hd.1, hd.2, by show z.toNat < 1440; omega⟩
/-- Within a day. -/
theorem zt_same {M : Mo} {n : Nat} (h : mins M = (n : Int)) (hn : n < 1440) (hy : M.y ≤ 9999) : zt M = some (ttx M.y M.m M.d n M.se M.fr) := by
  have e : zy M = (M.y, M.m, M.d, n) := by
    unfold zy
    rw [if_neg (by omega), if_neg (by omega), h]; rfl
  have he : early M = false := by unfold early; rw [decide_eq_false (by omega)]; rfl
  unfold zt
  rw [he, e, if_neg (by decide), if_neg (by show ¬ 9999 < M.y; omega)]

theorem tz_sub (l : List UInt8) : ∀ c ∈ tz l, c ∈ l := by
  intro c hc
  unfold tz at hc
  rw [List.mem_reverse] at hc
  have := (List.dropWhile_sublist (fun x : UInt8 => x == 48) (l := l.reverse)).subset hc
  rwa [List.mem_reverse] at this
theorem dW_idem (l : List UInt8) : (l.dropWhile (· == 48)).dropWhile (· == 48) = l.dropWhile (· == 48) := by
  induction l with
  | nil => rfl
  | cons c l ih =>
    by_cases h : (c == 48) = true
    · rw [List.dropWhile_cons_of_pos (by simpa using h)]; exact ih
    · rw [List.dropWhile_cons_of_neg (by simpa using h), List.dropWhile_cons_of_neg (by simpa using h)]
theorem tz_tz (l : List UInt8) : tz (tz l) = tz l := by
  unfold tz
  rw [List.reverse_reverse, dW_idem]
/-- A moment's own text is read as it is. -/
theorem rd_ttx {y m d n se : Nat} {f : List UInt8} (hy : y < 10000) (hm : m < 100) (hd : d < 100) (hn : n < 1440) (hs : se < 60) (hf : ∀ c ∈ f, dB c = true) :
    rd (ttx y m d n se f) = some ⟨y, m, d, true, n / 60, n % 60, se, tz f, false, 0, 0⟩ := by
  unfold ttx
  rw [rd_of hy hm hd, rTail_T, aDay_of _ (by omega) (by omega) (by omega)]
  unfold dot
  split
  · rename_i h; rw [h, List.nil_append, aRest_Z]; rfl
  · rw [List.cons_append, aRest_dot _ _ _ (fun c hc => hf c (tz_sub f c hc)) (by intro c hc; simp at hc; subst hc; decide)]; rfl
theorem of_ttx {y m d n se : Nat} {f : List UInt8} (hy : y < 10000) (h1 : 1 ≤ d) (h2 : d ≤ days y m) (hn : n < 1440) (hs : se < 60) (hf : ∀ c ∈ f, dB c = true) :
    ofS (ttx y m d n se f) = some (ttx y m d n se f) := by
  have hd := days_le y m
  have hm : 1 ≤ m ∧ m ≤ 12 := by
    by_cases hz : m = 0 ∨ 12 < m
    · rw [days_zero hz] at h2; omega
    · omega
  unfold ofS
  rw [rd_ttx hy (by omega) (by omega) hn hs hf]
  have hmay : may ⟨y, m, d, true, n / 60, n % 60, se, tz f, false, 0, 0⟩ = true := (may_iff _).2 ⟨⟨h1, h2⟩, ⟨by show n / 60 < 24; omega, by show n % 60 < 60; omega, hs⟩, by show 0 < 24; omega, by show 0 < 60; omega⟩
  show (if may _ = true then _ else none) = _
  rw [if_pos hmay]
  have hmin : mins ⟨y, m, d, true, n / 60, n % 60, se, tz f, false, 0, 0⟩ = (n : Int) := by
    simp only [mins, off]
    show ((60 * (n / 60) + n % 60 : Nat) : Int) - 0 = _
    omega
  show (if true = true then zt _ else _) = _
  rw [if_pos rfl, zt_same hmin hn (by show y ≤ 9999; omega)]
  show some (ttx y m d n se (tz f)) = _
  unfold ttx
  rw [tz_tz]

theorem fr_cLast {M X : Mo} {l : List UInt8} (h : cLast M l = some X) : X = M := by
  unfold cLast at h; split at h
  · exact (Option.some.inj h).symm
  · cases h
theorem fr_cHour {M X : Mo} {l : List UInt8} (h : cHour M l = some X) : X.fr = M.fr := by
  unfold cHour at h; split at h
  · cases h
  · split at h
    · unfold cMin at h; split at h
      · rw [fr_cLast h]
      · cases h
    · rw [fr_cLast h]
theorem fr_cBl {M X : Mo} {l : List UInt8} (h : cBl M l = some X) : X.fr = M.fr := by
  induction l with
  | nil => cases h
  | cons c r ih =>
    rw [cBl] at h
    split at h
    · exact ih h
    · split at h
      · rw [fr_cLast h]
      · split at h
        · rw [fr_cHour h]
        · split at h
          · rw [fr_cHour h]
          · cases h
theorem fr_cClk {M X : Mo} {l : List UInt8} (h : cClk M l = some X) : X.fr = M.fr := by
  unfold cClk at h; split at h
  · rw [← Option.some.inj h]
  · exact fr_cBl h
theorem fr_aPl {M X : Mo} {g l : List UInt8} (hg : ∀ c ∈ g, dB c = true) (h : aPl M g l = some X) : ∀ c ∈ X.fr, dB c = true := by
  induction l generalizing g with
  | nil => rw [aPl] at h; rw [fr_cClk h]; exact hg
  | cons c r ih =>
    rw [aPl] at h
    split at h
    · rename_i hc
      refine ih (fun x hx => ?_) h
      rcases List.mem_append.1 hx with k | k
      · exact hg x k
      · rw [List.mem_singleton.1 k]; exact hc
    · rw [fr_cClk h]; exact hg
theorem fr_aDay {M X : Mo} {l : List UInt8} (h0 : M.fr = []) (h : aDay M l = some X) : ∀ c ∈ X.fr, dB c = true := by
  have nil : ∀ Y : Mo, Y.fr = [] → ∀ c ∈ Y.fr, dB c = true := fun Y e c hc => by rw [e] at hc; cases hc
  unfold aDay at h; split at h
  · cases h
  · split at h
    · unfold aMin at h; split at h
      · split at h
        · unfold aSec at h; split at h
          · split at h
            · exact fr_aPl (by intro c hc; cases hc) h
            · exact nil X (by rw [fr_cClk h]; exact h0)
          · cases h
        · cases h
      · cases h
    · cases h
theorem fr_rBl {M X : Mo} {l : List UInt8} (h0 : M.fr = []) (h : rBl M l = some X) : ∀ c ∈ X.fr, dB c = true := by
  induction l with
  | nil => exact fr_aDay h0 h
  | cons c r ih =>
    rw [rBl] at h; split at h
    · exact ih h
    · exact fr_aDay h0 h
theorem fr_rd {X : Mo} {l : List UInt8} (h : rd l = some X) : ∀ c ∈ X.fr, dB c = true := by
  unfold rd at h; split at h
  · split at h
    · unfold rMon at h; split at h
      · cases h
      · split at h
        · unfold rDay at h; split at h
          · cases h
          · unfold rTail at h; split at h
            · split at h
              · rw [← Option.some.inj h]; intro c hc; cases hc
              · cases h
            · split at h
              · exact fr_aDay rfl h
              · split at h
                · exact fr_aDay rfl h
                · split at h
                  · exact fr_rBl rfl h
                  · cases h
        · cases h
    · cases h
  · cases h
/-- A text that is told is its own text. -/
theorem of_of {l a : List UInt8} (h : ofS l = some a) : ofS a = some a := by
  have h' := h
  unfold ofS at h'
  split at h'
  · cases h'
  · rename_i M hM
    split at h'
    · rename_i hmay
      split at h'
      · unfold zt at h'
        split at h'
        · cases h'
        · rename_i he
          split at h'
          · cases h'
          · rename_i hy
            have he' : early M = false := by simpa using he
            obtain ⟨m1, m2, d1, d2', n1⟩ := zy_ok hmay he' (by omega)
            obtain ⟨_, ⟨_, _, h3⟩, _, _⟩ := (may_iff M).1 hmay
            rw [← Option.some.inj h']
            exact of_ttx (by omega) d1 d2' n1 h3 (fr_rd hM)
      · rw [← Option.some.inj h']
        have e : a = l := (Option.some.inj h').symm
        rw [e] at h
        exact h
    · cases h'
/-- A date with all its digits. -/
theorem of_date {y m d : Nat} (hy : y < 10000) (hm : m < 100) (hd : d < 100) :
    ofS (d4 y ++ (45 :: (d2 m ++ (45 :: d2 d)))) = if 1 ≤ d ∧ d ≤ days y m then some (d4 y ++ (45 :: (d2 m ++ (45 :: d2 d)))) else none := by
  have e := rd_of hy hm hd []
  rw [List.append_nil] at e
  unfold ofS
  rw [e]
  show (if may { M0 with y := y, m := m, d := d } = true then some _ else none) = _
  congr 1
  rw [may_iff]
  show ((1 ≤ d ∧ d ≤ days y m) ∧ _) = _
  simp [M0]
/-- The same without its last digit. -/
theorem of_short {y m d : Nat} (hy : y < 10000) (hm : m < 100) (hd : d < 10) :
    ofS (d4 y ++ (45 :: (d2 m ++ (45 :: [dch d])))) = none := by
  have e : rd (d4 y ++ (45 :: (d2 m ++ (45 :: [dch d])))) = none := by
    unfold rd
    rw [if_pos (cnt4 hy _), dr4, List.head?_cons, if_pos rfl, dr5, nv4 hy]
    unfold rMon
    rw [cnt2 hm, if_neg (by decide), dr2, List.head?_cons, if_pos rfl, dr3, nv2 hm]
    unfold rDay
    have hc : cnt 2 [dch d] = 1 := by simp [cnt, dB_dig hd]
    rw [hc, if_neg (by decide)]
    rfl
  unfold ofS
  rw [e]
end M
end Go.Proofs.YtipgipgehnhgkaaGreatDoor.S10

namespace Go
/-- As Q; by a goto to label l: J l. -/
def Exit.jumpsT (J : Nat → Act → World → Prop) (Q : Exit → Act → World → Prop) : Exit → Act → World → Prop
  | .goto l, a, w => J l a w
  | e, a, w => Q e a w
theorem wp_scope_labelsT {P : Program} {a : Act} {w : World} {Q : Exit → Act → World → Prop} {c : Code} (J : Nat → Act → World → Prop) (μ : Nat → Act → World → Nat)
    (first : c.wp P (Exit.jumpsT J Q) a w)
    (pass : ∀ l a w, J l a w → ∃ rest, findLabel c l = some rest ∧ rest.wp P (Exit.jumpsT (fun l' a' w' => J l' a' w' ∧ μ l' a' w' < μ l a w) Q) a w) : (Code.scope c).wp P Q a w := by
  intro b k cs
  have key : ∀ n l a w, μ l a w = n → J l a w → ∃ rest, findLabel c l = some rest ∧ ∃ e a' w', Q e a' w' ∧ Arrives P (lone (b.at a (.code rest :: .inScope c :: k)) cs w) b k cs e a' w' := by
    intro n
    induction n using Nat.strongRecOn with
    | _ n ih =>
      intro l a w hn hJ
      obtain ⟨rest, hf, hp⟩ := pass l a w hJ
      refine ⟨rest, hf, ?_⟩
      obtain ⟨e, a₁, w₁, hq, harr⟩ := hp b (.inScope c :: k) cs
      cases e with
      | normal => exact ⟨.normal, a₁, w₁, hq, Steps.trans harr (.one step_inScope)⟩
      | exit id => exact ⟨.exit id, a₁, w₁, hq, fun k' hk => harr k' (by simp [exitTo, hk])⟩
      | goto l' =>
        obtain ⟨hJ', hlt⟩ := hq
        obtain ⟨rest', hf', e₂, a₂, w₂, hq₂, harr₂⟩ := ih _ (by omega) l' a₁ w₁ rfl hJ'
        have hg : gotoIn l' (.inScope c :: k) = some (.code rest' :: .inScope c :: k) := by simp [gotoIn, hf']
        exact ⟨e₂, a₂, w₂, hq₂, .of_steps (harr _ hg) harr₂⟩
      | ret => exact ⟨_, a₁, w₁, hq, harr⟩
      | panic ch => exact ⟨_, a₁, w₁, hq, harr⟩
      | outgrown => exact ⟨_, a₁, w₁, hq, harr⟩
  obtain ⟨e, a₁, w₁, hq, harr⟩ := first b (.inScope c :: k) cs
  cases e with
  | normal => exact ⟨.normal, a₁, w₁, hq, .head step_scope (Steps.trans harr (.one step_inScope))⟩
  | exit id => exact ⟨.exit id, a₁, w₁, hq, fun k' hk => .head step_scope (harr k' (by simp [exitTo, hk]))⟩
  | goto l' =>
    obtain ⟨rest', hf', e₂, a₂, w₂, hq₂, harr₂⟩ := key _ l' a₁ w₁ rfl hq
    have hg : gotoIn l' (.inScope c :: k) = some (.code rest' :: .inScope c :: k) := by simp [gotoIn, hf']
    exact ⟨e₂, a₂, w₂, hq₂, .of_steps (.head step_scope (harr _ hg)) harr₂⟩
  | ret => exact ⟨_, a₁, w₁, hq, .of_steps (.one step_scope) harr⟩
  | panic ch => exact ⟨_, a₁, w₁, hq, .of_steps (.one step_scope) harr⟩
  | outgrown => exact ⟨_, a₁, w₁, hq, .of_steps (.one step_scope) harr⟩
theorem wp_scope_runT {P : Program} {a : Act} {w : World} {Q : Exit → Act → World → Prop} {c : Code} (J : Nat → Act → World → Prop) (μ : Nat → Act → World → Nat)
    (pass : ∀ l a w, J l a w → ∃ rest, findLabel c l = some (.seq .skip rest) ∧ rest.wp P (Exit.jumpsT (fun l' a' w' => J l' a' w' ∧ μ l' a' w' < μ l a w) Q) a w)
    (first : (∀ l rest, findLabel c l = some (.seq .skip rest) → ∀ a w, J l a w → rest.wp P (Exit.jumpsT J Q) a w) → c.wp P (Exit.jumpsT J Q) a w) : (Code.scope c).wp P Q a w := by
  refine wp_scope_labelsT J μ (first fun l rest hf a w hJ => ?_) fun l a w hJ => by
    obtain ⟨rest, hf, hp⟩ := pass l a w hJ
    exact ⟨_, hf, wp_seq (wp_skip hp)⟩
  obtain ⟨rest', hf', hp⟩ := pass l a w hJ
  obtain rfl : rest' = rest := by
    have := Option.some.inj (hf'.symm.trans hf)
    exact (Code.seq.inj this).2
  intro b k cs
  obtain ⟨e, a', w', hq, ha⟩ := hp b k cs
  refine ⟨e, a', w', ?_, ha⟩
  cases e with
  | goto l' => exact hq.1
  | normal => exact hq
  | exit id => exact hq
  | ret => exact hq
  | panic ch => exact hq
  | outgrown => exact hq
end Go
namespace Go.Proofs.YtipgipgehnhgkaaGreatDoor.S10
open Go.RowKit
open Go

theorem takeH {P : Program} {md : Region.Mode} {ops : Array Oper} {Q : Exit → Act → World → Prop} {S : World → Prop} {i : Nat} {oi : Oper} {v : Value} {fuel : Nat} {listed : Array Bool} {a : Act} {w : World} (d : Option Tmp) (hd : oi.dst = d) (hi : ops[i]? = some oi)
    (hs : Region.noSelect ops = true) (hf : Region.free md ops listed i = true) (hr : (Region.ready md ops listed).contains i = true)
    (hQ : ∀ c a w, Q (.panic c) (a.put oi.dst v) w → Q (.panic c) a w) (hy : YieldsIf P ops S oi v a) (hS : S w)
    (h : wpAnyH P md ops Q S fuel (listed.setIfInBounds i true) (a.put d v) w) : wpAnyH P md ops Q S (fuel + 1) listed a w := by
  subst hd
  exact wpAnyH_take hi hs hf hr hQ hy hS h

/-- Ten slots of which nothing is known. -/
structure V10 where
  a : Value
  b : Value
  c : Value
  d : Value
  e : Value
  f : Value
  g : Value
  h : Value
  i : Value
  j : Value
theorem ret_int {k : IntKind} {a b : Int} (h : a = b) : Ending.returned (.int k a) = .returned (.int k b) := by rw [h]
theorem ret_bool {a b : Bool} (h : a = b) : Ending.returned (.bool a) = .returned (.bool b) := by rw [h]
theorem ret_str {a b : ByteArray} (h : a = b) : Ending.returned (.string a) = .returned (.string b) := by rw [h]
theorem sz_list (s : ByteArray) : s.size = s.data.toList.length := by cases s; simp [ByteArray.size]
theorem append_list (s t : ByteArray) : (s ++ t).data.toList = s.data.toList ++ t.data.toList := by simp
theorem append_sz (s t : ByteArray) : (s ++ t).size = s.size + t.size := by rw [sz_list, append_list, List.length_append, ← sz_list, ← sz_list]
def bA (l : List UInt8) : ByteArray := ⟨l.toArray⟩
theorem bA_size (l : List UInt8) : (bA l).size = l.length := by simp [bA, ByteArray.size]
theorem bA_toList (l : List UInt8) : (bA l).data.toList = l := by simp [bA]
theorem bA_of (s : ByteArray) : bA s.data.toList = s := by cases s; simp [bA]
theorem eq_bA {s : ByteArray} {l : List UInt8} (h : s.data.toList = l) : s = bA l := by rw [← h, bA_of]
theorem bA_append (l m : List UInt8) : bA l ++ bA m = bA (l ++ m) := by
  apply eq_bA; rw [append_list, bA_toList, bA_toList]
theorem bA_inj {l m : List UInt8} : bA l = bA m ↔ l = m := ⟨fun h => by rw [← bA_toList l, h, bA_toList], fun h => by rw [h]⟩
theorem get_list (s : ByteArray) (i : Nat) (h : i < s.size) : s.data.toList[i]? = some s[i] := by
  rw [List.getElem?_eq_getElem (by rw [← sz_list]; exact h)]; rfl
theorem take_snoc (s : ByteArray) (k : Nat) (h : k < s.size) : s.data.toList.take (k + 1) = s.data.toList.take k ++ [s[k]] := by
  rw [List.take_succ_eq_append_getElem (by simpa using h)]; rfl
theorem take_all (s : ByteArray) : s.data.toList.take s.size = s.data.toList := List.take_of_length_le (by rw [← sz_list]; exact Nat.le_refl _)
theorem drop_cons (s : ByteArray) (k : Nat) (h : k < s.size) : s.data.toList.drop k = s[k] :: s.data.toList.drop (k + 1) := by
  rw [List.drop_eq_getElem_cons (by rw [← sz_list]; exact h)]; rfl
theorem drop_nil (s : ByteArray) (k : Nat) (h : s.size ≤ k) : s.data.toList.drop k = [] := List.drop_of_length_le (by rw [← sz_list]; exact h)
theorem below_dN {B : Nat} {a w : World} (h : Below B a w) (n : Nat) : Below B a (w.drewN n) := h.trans ⟨rfl, rfl, rfl, Nat.le_refl _, fun _ _ => rfl⟩
def intOf : Value → Int | .int _ q => q | _ => 0
theorem neC {c : UInt8} {k : Nat} (hk : k < 256) (h : ¬ c = UInt8.ofNat k) : ((c.toNat : Int) == (k : Int)) = false := by
  refine beq_eq_false_iff_ne.2 fun e => h (UInt8.toNat_inj.1 ?_)
  have : c.toNat = k := by omega
  rw [this]; simp; omega

/-- The cells of what a text says, the year a whole number. -/
def vcs (y : Int) (X : M.Mo) : Array Value := #[.int .i64 y, .int .i64 X.m, .int .i64 X.d, .bool X.td, .int .i64 X.h, .int .i64 X.mi, .int .i64 X.se, .string (bA X.fr), .bool X.bh, .int .i64 X.zh, .int .i64 X.zm]
/-- The cells of a day. -/
def dcs (y m d : Int) : Array Value := #[.int .i64 y, .int .i64 m, .int .i64 d]
def mcs (X : M.Mo) : Array Value := vcs X.y X
theorem vcs_size (y : Int) (X : M.Mo) : (vcs y X).size = 11 := rfl
theorem vcs_one (y : Int) (X : M.Mo) : (vcs y X).all (·.oneCell') = true := by simp [vcs, Value.oneCell']
/-- The block g holds what a text says. -/
def VB (w : World) (g : Nat) (y : Int) (X : M.Mo) : Prop := w.heap[g]? = some (.cells (vcs y X) 70 (0, 0))
def MB (w : World) (g : Nat) (X : M.Mo) : Prop := VB w g X.y X
/-- The block g holds something such. -/
def AB (w : World) (g : Nat) : Prop := ∃ y X, VB w g y X
theorem info_mo : (Tryz.prog.info? 70).map (·.size) = some 11 := by kernel_rfl
theorem info_da : (Tryz.prog.info? 68).map (·.size) = some 3 := by kernel_rfl
theorem VB.lt {w : World} {g : Nat} {y : Int} {X : M.Mo} (h : VB w g y X) : g < w.heap.size := (Array.getElem?_eq_some_iff.1 h).1
theorem VB.below {w w' : World} {g B : Nat} {y : Int} {X : M.Mo} (h : VB w g y X) (hb : Below B w w') (hg : g < B) : VB w' g y X := (hb.block g hg).trans h
theorem VB.next {w w' : World} {g : Nat} {y : Int} {X : M.Mo} (h : VB w g y X) (hb : Below w.heap.size w w') : VB w' g y X := h.below hb h.lt
theorem VB.any {w : World} {g : Nat} {y : Int} {X : M.Mo} (h : VB w g y X) : AB w g := ⟨y, X, h⟩
theorem VB.cells {w : World} {g : Nat} {y : Int} {X : M.Mo} (h : VB w g y X) :
    w.cell? ⟨g, 0, none⟩ = some (.int .i64 y) ∧ w.cell? ⟨g, 1, none⟩ = some (.int .i64 X.m) ∧ w.cell? ⟨g, 2, none⟩ = some (.int .i64 X.d) ∧ w.cell? ⟨g, 3, none⟩ = some (.bool X.td) ∧
    w.cell? ⟨g, 4, none⟩ = some (.int .i64 X.h) ∧ w.cell? ⟨g, 5, none⟩ = some (.int .i64 X.mi) ∧ w.cell? ⟨g, 6, none⟩ = some (.int .i64 X.se) ∧ w.cell? ⟨g, 7, none⟩ = some (.string (bA X.fr)) ∧
    w.cell? ⟨g, 8, none⟩ = some (.bool X.bh) ∧ w.cell? ⟨g, 9, none⟩ = some (.int .i64 X.zh) ∧ w.cell? ⟨g, 10, none⟩ = some (.int .i64 X.zm) := by
  unfold VB at h
  refine ⟨?_, ?_, ?_, ?_, ?_, ?_, ?_, ?_, ?_, ?_, ?_⟩ <;> simp [World.cell?, h, vcs]
theorem VB.frozen {w : World} {g : Nat} {y : Int} {X : M.Mo} (h : VB w g y X) (j : Nat) : w.frozen? ⟨g, j, none⟩ = false := frozen_of_row w g j _ 70 h
theorem VB.put {w : World} {g : Nat} {y y' : Int} {X N : M.Mo} (h : VB w g y X) (j : Nat) (v : Value) (e : (vcs y X).setIfInBounds j v = vcs y' N) : VB (w.setCell ⟨g, j, none⟩ v) g y' N := by
  unfold VB at h ⊢
  rw [Go.heap_setCell_same w g j _ 70 v h, e]
theorem VB.row {w : World} {g : Nat} {y : Int} {X : M.Mo} (h : VB w g y X) (y' : Int) (N : M.Mo) : VB (w.setRow g (vcs y' N)) g y' N := setRow_heap w g _ _ 70 (0, 0) h
theorem MB.cells {w : World} {g : Nat} {X : M.Mo} (h : MB w g X) :
    w.cell? ⟨g, 0, none⟩ = some (.int .i64 X.y) ∧ w.cell? ⟨g, 1, none⟩ = some (.int .i64 X.m) ∧ w.cell? ⟨g, 2, none⟩ = some (.int .i64 X.d) ∧ w.cell? ⟨g, 3, none⟩ = some (.bool X.td) ∧
    w.cell? ⟨g, 4, none⟩ = some (.int .i64 X.h) ∧ w.cell? ⟨g, 5, none⟩ = some (.int .i64 X.mi) ∧ w.cell? ⟨g, 6, none⟩ = some (.int .i64 X.se) ∧ w.cell? ⟨g, 7, none⟩ = some (.string (bA X.fr)) ∧
    w.cell? ⟨g, 8, none⟩ = some (.bool X.bh) ∧ w.cell? ⟨g, 9, none⟩ = some (.int .i64 X.zh) ∧ w.cell? ⟨g, 10, none⟩ = some (.int .i64 X.zm) := VB.cells h
theorem MB.next {w w' : World} {g : Nat} {X : M.Mo} (h : MB w g X) (hb : Below w.heap.size w w') : MB w' g X := VB.next h hb
theorem MB.lt {w : World} {g : Nat} {X : M.Mo} (h : MB w g X) : g < w.heap.size := VB.lt h
theorem AB.next {w w' : World} {g : Nat} (h : AB w g) (hb : Below w.heap.size w w') : AB w' g := h.elim fun y h => h.elim fun X h => ⟨y, X, h.next hb⟩
theorem AB.lt {w : World} {g : Nat} (h : AB w g) : g < w.heap.size := h.elim fun y h => h.elim fun X h => h.lt
theorem VB.other {w : World} {g k : Nat} {y : Int} {X : M.Mo} (h : VB w g y X) (hk : k ≠ g) (j : Nat) (v : Value) : VB (w.setCell ⟨k, j, none⟩ v) g y X := by
  unfold VB at h ⊢
  rw [← h]
  exact Go.heap_setCell_other w ⟨k, j, none⟩ g v (fun e => hk e.symm)
theorem VB.otherRow {w : World} {g k : Nat} {y : Int} {X : M.Mo} (h : VB w g y X) (hk : k ≠ g) (cs : Array Value) : VB (w.setRow k cs) g y X := by
  unfold VB at h ⊢
  rw [← h]
  simp only [World.setRow]
  rw [Array.getElem?_modify, if_neg hk]
theorem ret_mo {fn : Func} {p u : Tmp} {g : Nat} {b : Bool} {y : Int} {X : M.Mo} {w : World} (h : fn.results = #[.cell p 70, .tmp u]) (tmps : Array Value) (hp : tmps.getD p undef = .pointer (some ⟨g, 0, none⟩)) (hu : tmps.getD u undef = .bool b)
    (hB : VB w g y X) : (results fn tmps).run Tryz.prog w = .ok (.tuple #[.agg (vcs y X), .bool b]) w := by
  rw [results_cell_tmp h, hp, hu]
  have := run_loadVar_row (P := Tryz.prog) w g 70 70 (vcs y X) (0, 0) _ hB Tryz.underlying70 rfl (by rw [info_mo]; rfl)
  simp [asAddr, Result.andThen, this]
end Go.Proofs.YtipgipgehnhgkaaGreatDoor.S10

namespace Go.Proofs.YtipgipgehnhgkaaGreatDoor.S10
open Go.RowKit

set_option maxRecDepth 100000 in
theorem at_in (s : ByteArray) (i : Nat) (w : World) (h : i < s.size) (hs : s.size ≤ 1000000) :
    Calls Tryz.prog 101 #[.string s, .int .i64 i] w fun e w' => e = .returned (.int .i64 (s[i].toNat : Nat)) ∧ w = w' := by
  have hd : decide (i < s.size) = true := by simpa using h
  have hc : s[i].toNat < 256 := s[i].toNat_lt
  go_enter Tryz.func101, Tryz.ntmps101
  go_wp2
  go_ret
  exact ⟨ret_int (by first | rfl | (unfold wrap64; omega)), rfl⟩
set_option maxRecDepth 100000 in
theorem at_out (s : ByteArray) (i : Nat) (w : World) (h : ¬ i < s.size) (hs : s.size ≤ 1000000) :
    Calls Tryz.prog 101 #[.string s, .int .i64 i] w fun e w' => e = .returned (.int .i64 (-1)) ∧ w = w' := by
  have hd : decide (i < s.size) = false := by simpa using h
  go_enter Tryz.func101, Tryz.ntmps101
  go_wp2
  go_ret
  exact ⟨rfl, rfl⟩
set_option maxRecDepth 100000 in
theorem dig_end (w : World) : Calls Tryz.prog 152 #[.int .i64 (-1)] w fun e w' => e = .returned (.bool false) ∧ w = w' := by
  go_enter Tryz.func152, Tryz.ntmps152
  go_wp2
  go_ret
  exact ⟨rfl, rfl⟩
set_option maxRecDepth 100000 in
theorem dig_any (c : UInt8) (w : World) : Calls Tryz.prog 152 #[.int .i64 (c.toNat : Nat)] w fun e w' => e = .returned (.bool (M.dB c)) ∧ w = w' := by
  have hc : c.toNat < 256 := c.toNat_lt
  unfold M.dB
  generalize c.toNat = n at *
  by_cases h1 : 48 ≤ n
  · by_cases h2 : n ≤ 57
    · rw [decide_eq_true h1, decide_eq_true h2]
      have e1 : decide ((48 : Int) ≤ (n : Int)) = true := decide_eq_true (by omega)
      have e2 : decide ((n : Int) ≤ 57) = true := decide_eq_true (by omega)
      go_enter Tryz.func152, Tryz.ntmps152
      go_wp2
      go_ret
      exact ⟨rfl, rfl⟩
    · rw [decide_eq_true h1, decide_eq_false h2]
      have e1 : decide ((48 : Int) ≤ (n : Int)) = true := decide_eq_true (by omega)
      have e2 : decide ((n : Int) ≤ 57) = false := decide_eq_false (by omega)
      go_enter Tryz.func152, Tryz.ntmps152
      go_wp2
      go_ret
      exact ⟨rfl, rfl⟩
  · rw [decide_eq_false h1]
    have e1 : decide ((48 : Int) ≤ (n : Int)) = false := decide_eq_false (by omega)
    go_enter Tryz.func152, Tryz.ntmps152
    go_wp2
    go_ret
    exact ⟨rfl, rfl⟩
set_option maxRecDepth 100000 in
theorem bl_end (w : World) : Calls Tryz.prog 103 #[.int .i64 (-1)] w fun e w' => e = .returned (.bool false) ∧ w = w' := by
  go_enter Tryz.func103, Tryz.ntmps103
  go_wp2
  go_ret
  exact ⟨rfl, rfl⟩
set_option maxRecDepth 100000 in
theorem bl_any (c : UInt8) (w : World) : Calls Tryz.prog 103 #[.int .i64 (c.toNat : Nat)] w fun e w' => e = .returned (.bool (M.bB c)) ∧ w = w' := by
  have hc : c.toNat < 256 := c.toNat_lt
  unfold M.bB
  generalize c.toNat = n at *
  by_cases h1 : n = 32
  · subst h1
    go_enter Tryz.func103, Tryz.ntmps103
    go_wp2
    go_ret
    exact ⟨rfl, rfl⟩
  · have e1 : ((n : Int) == 32) = false := beq_eq_false_iff_ne.2 (by omega)
    rw [decide_eq_false h1]
    by_cases h2 : n = 9
    · subst h2
      go_enter Tryz.func103, Tryz.ntmps103
      go_wp2
      go_ret
      exact ⟨rfl, rfl⟩
    · have e2 : ((n : Int) == 9) = false := beq_eq_false_iff_ne.2 (by omega)
      rw [decide_eq_false h2]
      clear h1 h2
      go_enter Tryz.func103, Tryz.ntmps103
      go_wp2
      go_ret
      exact ⟨rfl, rfl⟩

theorem pow_le4 {n : Nat} (h : n ≤ 4) : 10 ^ n ≤ 10000 := Nat.pow_le_pow_right (n := 10) (by omega) h
set_option maxRecDepth 100000 in
set_option maxHeartbeats 1000000 in
theorem number_any (s : ByteArray) (i most : Nat) (w : World) (hs : s.size ≤ 100000) (hi : i ≤ s.size) (hm : most ≤ 4) :
    Calls Tryz.prog 100 #[.string s, .int .i64 i, .int .i64 most] w fun e w' => e = .returned (.tuple #[.int .i64 (M.nv most 0 (s.data.toList.drop i) : Nat), .int .i64 (M.cnt most (s.data.toList.drop i) : Nat)]) ∧ w = w' := by
  obtain ⟨V, hV⟩ : ∃ V, M.nv most 0 (s.data.toList.drop i) = V := ⟨_, rfl⟩
  obtain ⟨C, hC⟩ : ∃ C, M.cnt most (s.data.toList.drop i) = C := ⟨_, rfl⟩
  rw [hV, hC]
  have HV := Lib.hid hV
  have HC := Lib.hid hC
  clear hV hC
  go_enter Tryz.func100, Tryz.ntmps100
  go_wp2_with fail
  go_loop [8, 9] (fun a b => ∃ v n : Nat, a = .int .i64 v ∧ b = .int .i64 n ∧ n ≤ most ∧ i + n ≤ s.size ∧ Hid (v < 10 ^ n) ∧ Hid (M.cnt (most - n) (s.data.toList.drop (i + n)) + n = C) ∧ Hid (M.nv (most - n) v (s.data.toList.drop (i + n)) = V)) (fun _ b => most - (intOf b).toNat)
  case atStart => exact ⟨0, 0, rfl, rfl, Nat.zero_le _, hi, by show 0 < 10 ^ 0; decide, HC.out, HV.out⟩
  case round =>
    obtain ⟨v, n, rfl, rfl, hn, hin, hv, hst, hsv⟩ := hrel
    clear HV HC
    by_cases hlt : n < most
    · have hltd : decide (n < most) = true := decide_eq_true hlt
      have hltd2 : decide ((n : Int) < (most : Int)) = true := decide_eq_true (by omega)
      obtain ⟨k, hk⟩ : ∃ k, most - n = k + 1 := ⟨most - n - 1, by omega⟩
      have e1 := hst.out
      have e2 := hsv.out
      rw [hk] at e1 e2
      by_cases hl : i + n < s.size
      · have c1 := fun W => at_in s (i + n) W hl (by omega)
        have c2 := fun W => dig_any s[i + n] W
        rw [drop_cons s (i + n) hl, M.cnt] at e1
        rw [drop_cons s (i + n) hl, M.nv] at e2
        have hc := s[i + n].toNat_lt
        by_cases hd : M.dB s[i + n] = true
        · rw [if_pos hd] at e1 e2
          rw [hd] at c2
          have hdd : 48 ≤ s[i + n].toNat ∧ s[i + n].toNat ≤ 57 := by simpa [M.dB] using hd
          generalize s[i + n].toNat = x at *
          have hv9 : v ≤ 999 := by
            have h1 := hv.out
            have h2 := Nat.pow_le_pow_right (n := 10) (by omega) (show n ≤ 3 by omega)
            omega
          have hk2 : most - (n + 1) = k := by omega
          have E1 : Hid (M.cnt (most - (n + 1)) (s.data.toList.drop (i + (n + 1))) + (n + 1) = C) := by show _ = _; rw [hk2, ← Nat.add_assoc i n 1]; omega
          have E2 : Hid (M.nv (most - (n + 1)) (v * 10 + (x - 48)) (s.data.toList.drop (i + (n + 1))) = V) := by show _ = _; rw [hk2, ← Nat.add_assoc i n 1]; exact e2
          have E3 : Hid (v * 10 + (x - 48) < 10 ^ (n + 1)) := by
            show _ < _
            have h1 := hv.out
            rw [Nat.pow_succ]; omega
          obtain ⟨hd1, hd2⟩ := hdd
          have E4 : Hid (((v * 10 + (x - 48) : Nat) : Int) = (v : Int) * 10 + (x : Int) - 48) := by show _ = _; omega
          clear e1 e2 hst hsv hv hk hk2 hd
          go_wp2_with fail
          refine (c1 _).mono ?_
          rintro r w' ⟨rfl, rfl⟩
          go_wp2_with fail
          refine (c2 _).mono ?_
          rintro r w' ⟨rfl, rfl⟩
          go_wp2_with fail
          refine (c1 _).mono ?_
          rintro r w' ⟨rfl, rfl⟩
          go_wp2_with fail
          go_round
          case rel => exact ⟨v * 10 + (x - 48), n + 1, by rw [E4.out], by go_num, by omega, by omega, E3, E1, E2⟩
          case measure => simp [intOf]; omega
        · have hd' : M.dB s[i + n] = false := by simpa using hd
          rw [if_neg hd] at e1 e2
          rw [hd'] at c2
          generalize s[i + n].toNat = x at *
          obtain rfl : n = C := by omega
          subst e2
          clear hst hsv hv hk hd hd' e1
          go_wp2_with fail
          refine (c1 _).mono ?_
          rintro r w' ⟨rfl, rfl⟩
          go_wp2_with fail
          refine (c2 _).mono ?_
          rintro r w' ⟨rfl, rfl⟩
          go_wp2
          go_ret2
          exact ⟨rfl, rfl⟩
      · have c1 := fun W => at_out s (i + n) W hl (by omega)
        have c2 := fun W => dig_end W
        rw [drop_nil s (i + n) (by omega), M.cnt] at e1
        rw [drop_nil s (i + n) (by omega), M.nv] at e2
        obtain rfl : n = C := by omega
        subst e2
        clear hst hsv hv hk e1
        go_wp2_with fail
        refine (c1 _).mono ?_
        rintro r w' ⟨rfl, rfl⟩
        go_wp2_with fail
        refine (c2 _).mono ?_
        rintro r w' ⟨rfl, rfl⟩
        go_wp2
        go_ret2
        exact ⟨rfl, rfl⟩
    · obtain rfl : n = most := by omega
      have e1 := hst.out
      have e2 := hsv.out
      rw [Nat.sub_self, M.cnt] at e1
      rw [Nat.sub_self, M.nv] at e2
      obtain rfl : n = C := by omega
      subst e2
      have hltd : decide (n < n) = false := decide_eq_false (by omega)
      clear hst hsv hv e1 hlt
      go_wp2
      go_ret2
      exact ⟨rfl, rfl⟩

theorem tm {y k : Nat} (h : 0 < k) : Int.tmod (y : Int) (k : Int) = ((y % k : Nat) : Int) := by
  rw [← Int.ofNat_tmod]
set_option maxRecDepth 100000 in
set_option maxHeartbeats 1000000 in
theorem long_any (y : Nat) (w : World) (hy : y ≤ 9223372036854775807) : Calls Tryz.prog 154 #[.int .i64 y] w fun e w' => e = .returned (.bool (M.lng y)) ∧ w = w' := by
  unfold M.lng
  obtain ⟨a, ha⟩ : ∃ a, y % 4 = a := ⟨_, rfl⟩
  obtain ⟨b, hb⟩ : ∃ b, y % 100 = b := ⟨_, rfl⟩
  obtain ⟨c, hc⟩ : ∃ c, y % 400 = c := ⟨_, rfl⟩
  have e1 : Int.tmod (y : Int) 4 = (a : Int) := by rw [← ha]; exact tm (k := 4) (by omega)
  have e2 : Int.tmod (y : Int) 100 = (b : Int) := by rw [← hb]; exact tm (k := 100) (by omega)
  have e3 : Int.tmod (y : Int) 400 = (c : Int) := by rw [← hc]; exact tm (k := 400) (by omega)
  have f1 : (y : Int) % 4 = (a : Int) := by rw [← ha]; rfl
  have f2 : (y : Int) % 100 = (b : Int) := by rw [← hb]; rfl
  have f3 : (y : Int) % 400 = (c : Int) := by rw [← hc]; rfl
  rw [ha, hb, hc]
  clear ha hb hc
  by_cases h1 : a = 0
  · subst h1
    by_cases h2 : b = 0
    · subst h2
      by_cases h3 : c = 0
      · subst h3
        go_enter Tryz.func154, Tryz.ntmps154
        go_wp2
        go_ret
        exact ⟨rfl, rfl⟩
      · have g3 : ((c : Int) == 0) = false := beq_eq_false_iff_ne.2 (by omega)
        rw [decide_eq_false h3]
        clear h3
        go_enter Tryz.func154, Tryz.ntmps154
        go_wp2
        go_ret
        exact ⟨rfl, rfl⟩
    · have g2 : ((b : Int) != 0) = true := by simp; omega
      have g2' : ((b : Int) == 0) = false := beq_eq_false_iff_ne.2 (by omega)
      rw [decide_eq_true h2]
      clear h2
      go_enter Tryz.func154, Tryz.ntmps154
      go_wp2
      go_ret
      exact ⟨rfl, rfl⟩
  · have g1 : ((a : Int) == 0) = false := beq_eq_false_iff_ne.2 (by omega)
    rw [decide_eq_false h1]
    clear h1
    go_enter Tryz.func154, Tryz.ntmps154
    go_wp2
    go_ret
    exact ⟨rfl, rfl⟩
end Go.Proofs.YtipgipgehnhgkaaGreatDoor.S10

namespace Go.Proofs.YtipgipgehnhgkaaGreatDoor.S10
open Go.RowKit

/-- The days of any month of any year. -/
def daysI (y m : Int) : Nat := if y < 0 ∨ m < 1 ∨ 12 < m then 0 else M.days y.toNat m.toNat
theorem daysI_nat (y m : Nat) : daysI (y : Int) (m : Int) = M.days y m := by
  unfold daysI
  by_cases h : m = 0 ∨ 12 < m
  · rw [if_pos (by omega), M.days_zero h]
  · rw [if_neg (by omega)]; rfl
theorem months (m : Int) : m = 1 ∨ m = 2 ∨ m = 3 ∨ m = 4 ∨ m = 5 ∨ m = 6 ∨ m = 7 ∨ m = 8 ∨ m = 9 ∨ m = 10 ∨ m = 11 ∨ m = 12 ∨ (m < 1 ∨ 12 < m) := by omega
theorem none_of {m : Int} (h : m < 1 ∨ 12 < m) : (m == 1) = false ∧ (m == 2) = false ∧ (m == 3) = false ∧ (m == 4) = false ∧ (m == 5) = false ∧ (m == 6) = false ∧ (m == 7) = false ∧ (m == 8) = false ∧ (m == 9) = false ∧ (m == 10) = false ∧ (m == 11) = false ∧ (m == 12) = false := by
  refine ⟨?_, ?_, ?_, ?_, ?_, ?_, ?_, ?_, ?_, ?_, ?_, ?_⟩ <;> exact beq_eq_false_iff_ne.2 (by omega)
set_option maxRecDepth 100000 in
set_option maxHeartbeats 1000000 in
theorem days_any (y m : Int) (w : World) (hy : y ≤ 9223372036854775807) :
    Calls Tryz.prog 104 #[.int .i64 y, .int .i64 m] w fun e w' => e = .returned (.int .i64 (daysI y m : Nat)) ∧ w = w' := by
  by_cases h : y < 0
  · have e : daysI y m = 0 := by unfold daysI; rw [if_pos (Or.inl h)]
    rw [e]
    have hd : decide (y < 0) = true := decide_eq_true h
    go_enter Tryz.func104, Tryz.ntmps104
    go_wp2
    go_ret
    exact ⟨rfl, rfl⟩
  · obtain ⟨Y, rfl⟩ := Int.eq_ofNat_of_zero_le (show 0 ≤ y by omega)
    have hd : decide ((Y : Int) < 0) = false := decide_eq_false h
    have c1 := fun W => long_any Y W (by omega)
    rcases months m with rfl | rfl | rfl | rfl | rfl | rfl | rfl | rfl | rfl | rfl | rfl | rfl | hm
    case inr.inl =>
      have e : daysI (Y : Int) 2 = if M.lng Y then 29 else 28 := daysI_nat Y 2
      rw [e]
      clear e h
      cases hl : M.lng Y
      · rw [hl] at c1
        go_enter Tryz.func104, Tryz.ntmps104
        go_wp2_with fail
        refine (c1 _).mono ?_
        rintro r w' ⟨rfl, rfl⟩
        go_wp2
        go_ret
        exact ⟨rfl, rfl⟩
      · rw [hl] at c1
        go_enter Tryz.func104, Tryz.ntmps104
        go_wp2_with fail
        refine (c1 _).mono ?_
        rintro r w' ⟨rfl, rfl⟩
        go_wp2
        go_ret
        exact ⟨rfl, rfl⟩
    case inr.inr.inr.inr.inr.inr.inr.inr.inr.inr.inr.inr =>
      have e : daysI (Y : Int) m = 0 := by unfold daysI; rw [if_pos (Or.inr hm)]
      rw [e]
      obtain ⟨n1, n2, n3, n4, n5, n6, n7, n8, n9, n10, n11, n12⟩ := none_of hm
      clear e h hm
      go_enter Tryz.func104, Tryz.ntmps104
      go_wp2
      go_ret
      exact ⟨rfl, rfl⟩
    all_goals
      clear h c1
      go_enter Tryz.func104, Tryz.ntmps104
      go_wp2
      go_ret
      exact ⟨by first | exact congrArg (fun n : Nat => Ending.returned (.int .i64 (n : Int))) (daysI_nat Y 1).symm | exact congrArg (fun n : Nat => Ending.returned (.int .i64 (n : Int))) (daysI_nat Y 3).symm | exact congrArg (fun n : Nat => Ending.returned (.int .i64 (n : Int))) (daysI_nat Y 4).symm | exact congrArg (fun n : Nat => Ending.returned (.int .i64 (n : Int))) (daysI_nat Y 5).symm | exact congrArg (fun n : Nat => Ending.returned (.int .i64 (n : Int))) (daysI_nat Y 6).symm | exact congrArg (fun n : Nat => Ending.returned (.int .i64 (n : Int))) (daysI_nat Y 7).symm | exact congrArg (fun n : Nat => Ending.returned (.int .i64 (n : Int))) (daysI_nat Y 8).symm | exact congrArg (fun n : Nat => Ending.returned (.int .i64 (n : Int))) (daysI_nat Y 9).symm | exact congrArg (fun n : Nat => Ending.returned (.int .i64 (n : Int))) (daysI_nat Y 10).symm | exact congrArg (fun n : Nat => Ending.returned (.int .i64 (n : Int))) (daysI_nat Y 11).symm | exact congrArg (fun n : Nat => Ending.returned (.int .i64 (n : Int))) (daysI_nat Y 12).symm, rfl⟩

set_option maxRecDepth 100000 in
set_option maxHeartbeats 2000000 in
theorem rdays_any (y m : Int) (w : World) (hy : y ≤ 9223372036854775807) :
    Calls Tryz.prog 77 #[.int .i64 y, .int .i64 m] w fun e w' => e = .returned (.int .i64 (daysI y m : Nat)) ∧ w = w' := by
  by_cases h : y < 0
  · have e : daysI y m = 0 := by unfold daysI; rw [if_pos (Or.inl h)]
    rw [e]
    have hd : decide (y < 0) = true := decide_eq_true h
    go_enter Tryz.func77, Tryz.ntmps77
    go_wp2
    go_ret
    exact ⟨rfl, rfl⟩
  · obtain ⟨Y, rfl⟩ := Int.eq_ofNat_of_zero_le (show 0 ≤ y by omega)
    have hd : decide ((Y : Int) < 0) = false := decide_eq_false h
    rcases months m with rfl | rfl | rfl | rfl | rfl | rfl | rfl | rfl | rfl | rfl | rfl | rfl | hm
    case inr.inl =>
      have e : daysI (Y : Int) 2 = if M.lng Y then 29 else 28 := daysI_nat Y 2
      rw [e]
      unfold M.lng
      obtain ⟨a, ha⟩ : ∃ a, Y % 4 = a := ⟨_, rfl⟩
      obtain ⟨b, hb⟩ : ∃ b, Y % 100 = b := ⟨_, rfl⟩
      obtain ⟨c, hc⟩ : ∃ c, Y % 400 = c := ⟨_, rfl⟩
      have e1 : Int.tmod (Y : Int) 4 = (a : Int) := by rw [← ha]; exact tm (k := 4) (by omega)
      have e2 : Int.tmod (Y : Int) 100 = (b : Int) := by rw [← hb]; exact tm (k := 100) (by omega)
      have e3 : Int.tmod (Y : Int) 400 = (c : Int) := by rw [← hc]; exact tm (k := 400) (by omega)
      have f1 : (Y : Int) % 4 = (a : Int) := by rw [← ha]; rfl
      have f2 : (Y : Int) % 100 = (b : Int) := by rw [← hb]; rfl
      have f3 : (Y : Int) % 400 = (c : Int) := by rw [← hc]; rfl
      rw [ha, hb, hc]
      clear ha hb hc e h
      by_cases h1 : a = 0
      · subst h1
        by_cases h2 : b = 0
        · subst h2
          by_cases h3 : c = 0
          · subst h3
            go_enter Tryz.func77, Tryz.ntmps77
            go_wp2
            go_ret
            exact ⟨rfl, rfl⟩
          · have g3 : ((c : Int) == 0) = false := beq_eq_false_iff_ne.2 (by omega)
            rw [decide_eq_false h3]
            clear h3
            go_enter Tryz.func77, Tryz.ntmps77
            go_wp2
            go_ret
            exact ⟨rfl, rfl⟩
        · have g2 : ((b : Int) != 0) = true := by simp; omega
          have g2' : ((b : Int) == 0) = false := beq_eq_false_iff_ne.2 (by omega)
          rw [decide_eq_true h2]
          clear h2
          go_enter Tryz.func77, Tryz.ntmps77
          go_wp2
          go_ret
          exact ⟨rfl, rfl⟩
      · have g1 : ((a : Int) == 0) = false := beq_eq_false_iff_ne.2 (by omega)
        rw [decide_eq_false h1]
        clear h1
        go_enter Tryz.func77, Tryz.ntmps77
        go_wp2
        go_ret
        exact ⟨rfl, rfl⟩
    case inr.inr.inr.inr.inr.inr.inr.inr.inr.inr.inr.inr =>
      have e : daysI (Y : Int) m = 0 := by unfold daysI; rw [if_pos (Or.inr hm)]
      rw [e]
      clear e h
      rcases hm with hm | hm
      · have d1 : decide (m < 1) = true := decide_eq_true hm
        clear hm
        go_enter Tryz.func77, Tryz.ntmps77
        go_wp2
        go_ret
        exact ⟨rfl, rfl⟩
      · have d1 : decide (m < 1) = false := decide_eq_false (by omega)
        have d2 : decide (12 < m) = true := decide_eq_true hm
        clear hm
        go_enter Tryz.func77, Tryz.ntmps77
        go_wp2
        go_ret
        exact ⟨rfl, rfl⟩
    all_goals
      clear h
      go_enter Tryz.func77, Tryz.ntmps77
      go_wp2
      go_ret
      exact ⟨by first | exact congrArg (fun n : Nat => Ending.returned (.int .i64 (n : Int))) (daysI_nat Y 1).symm | exact congrArg (fun n : Nat => Ending.returned (.int .i64 (n : Int))) (daysI_nat Y 3).symm | exact congrArg (fun n : Nat => Ending.returned (.int .i64 (n : Int))) (daysI_nat Y 4).symm | exact congrArg (fun n : Nat => Ending.returned (.int .i64 (n : Int))) (daysI_nat Y 5).symm | exact congrArg (fun n : Nat => Ending.returned (.int .i64 (n : Int))) (daysI_nat Y 6).symm | exact congrArg (fun n : Nat => Ending.returned (.int .i64 (n : Int))) (daysI_nat Y 7).symm | exact congrArg (fun n : Nat => Ending.returned (.int .i64 (n : Int))) (daysI_nat Y 8).symm | exact congrArg (fun n : Nat => Ending.returned (.int .i64 (n : Int))) (daysI_nat Y 9).symm | exact congrArg (fun n : Nat => Ending.returned (.int .i64 (n : Int))) (daysI_nat Y 10).symm | exact congrArg (fun n : Nat => Ending.returned (.int .i64 (n : Int))) (daysI_nat Y 11).symm | exact congrArg (fun n : Nat => Ending.returned (.int .i64 (n : Int))) (daysI_nat Y 12).symm, rfl⟩
theorem days_nat (y m : Nat) (w : World) (hy : y ≤ 9223372036854775807) : Calls Tryz.prog 104 #[.int .i64 y, .int .i64 m] w fun e w' => e = .returned (.int .i64 (M.days y m : Nat)) ∧ w = w' := by
  have h := days_any y m w (by omega)
  rwa [daysI_nat] at h
theorem rdays_nat (y m : Nat) (w : World) (hy : y ≤ 9223372036854775807) : Calls Tryz.prog 77 #[.int .i64 y, .int .i64 m] w fun e w' => e = .returned (.int .i64 (M.days y m : Nat)) ∧ w = w' := by
  have h := rdays_any y m w (by omega)
  rwa [daysI_nat] at h
end Go.Proofs.YtipgipgehnhgkaaGreatDoor.S10
