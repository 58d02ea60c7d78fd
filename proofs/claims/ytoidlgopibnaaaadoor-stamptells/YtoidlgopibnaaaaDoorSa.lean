/- Plain mathematics: moments read sign by sign; the days of a month; a moment's text. -/
set_option linter.unusedVariables false
namespace Go.Proofs.YtoidlgopibnaaaaDoor
namespace M

/-- A digit. -/
def dB (c : UInt8) : Bool := decide (48 ≤ c.toNat) && decide (c.toNat ≤ 57)
/-- A blank. -/
def bB (c : UInt8) : Bool := decide (c.toNat = 32) || decide (c.toNat = 9)
/-- How many digits stand ahead, so many at most. -/
def cnt : Nat → List UInt8 → Nat
  | 0, _ => 0
  | _ + 1, [] => 0
  | k + 1, c :: r => if dB c then cnt k r + 1 else 0
/-- What they say, behind what was read. -/
def nv : Nat → Nat → List UInt8 → Nat
  | 0, a, _ => a
  | _ + 1, a, [] => a
  | k + 1, a, c :: r => if dB c then nv k (a * 10 + (c.toNat - 48)) r else a

/-- What a text says. -/
structure Mo where
  y : Nat
  m : Nat
  d : Nat
  td : Bool
  h : Nat
  mi : Nat
  se : Nat
  fr : List UInt8
  bh : Bool
  zh : Nat
  zm : Nat

def M0 : Mo := ⟨0, 0, 0, false, 0, 0, 0, [], false, 0, 0⟩

def cLast (M : Mo) (l : List UInt8) : Option Mo := if l = [] then some M else none
def cMin (M : Mo) (l : List UInt8) : Option Mo := if cnt 2 l = 2 then cLast { M with zm := nv 2 0 l } (l.drop 2) else none
def cHour (M : Mo) (l : List UInt8) : Option Mo :=
  if cnt 2 l = 0 then none
  else if (l.drop (cnt 2 l)).head? = some 58 then cMin { M with zh := nv 2 0 l } (l.drop (cnt 2 l + 1))
  else cLast { M with zh := nv 2 0 l } (l.drop (cnt 2 l))
def cBl (M : Mo) : List UInt8 → Option Mo
  | [] => none
  | c :: r => if bB c then cBl M r else if c = 90 then cLast M r else if c = 43 then cHour { M with bh := false } r else if c = 45 then cHour { M with bh := true } r else none
def cClk (M : Mo) (l : List UInt8) : Option Mo := if l = [] then some M else cBl M l

def aPl (M : Mo) (f : List UInt8) : List UInt8 → Option Mo
  | [] => cClk { M with fr := f } []
  | c :: r => if dB c then aPl M (f ++ [c]) r else cClk { M with fr := f } (c :: r)
def aSec (M : Mo) (l : List UInt8) : Option Mo :=
  if cnt 2 l = 2 then (if (l.drop 2).head? = some 46 then aPl { M with se := nv 2 0 l } [] (l.drop 3) else cClk { M with se := nv 2 0 l } (l.drop 2)) else none
def aMin (M : Mo) (l : List UInt8) : Option Mo :=
  if cnt 2 l = 2 then (if (l.drop 2).head? = some 58 then aSec { M with mi := nv 2 0 l } (l.drop 3) else none) else none
def aDay (M : Mo) (l : List UInt8) : Option Mo :=
  if cnt 2 l = 0 then none
  else if (l.drop (cnt 2 l)).head? = some 58 then aMin { M with td := true, h := nv 2 0 l } (l.drop (cnt 2 l + 1)) else none

def rBl (M : Mo) : List UInt8 → Option Mo
  | [] => aDay M []
  | c :: r => if bB c then rBl M r else aDay M (c :: r)
def rTail (n : Nat) (M : Mo) : List UInt8 → Option Mo
  | [] => if n = 10 then some M else none
  | c :: r => if c = 84 then aDay M r else if c = 116 then aDay M r else if bB c then rBl M r else none
def rDay (n : Nat) (M : Mo) (l : List UInt8) : Option Mo := if cnt 2 l = 0 then none else rTail n { M with d := nv 2 0 l } (l.drop (cnt 2 l))
def rMon (n : Nat) (M : Mo) (l : List UInt8) : Option Mo :=
  if cnt 2 l = 0 then none
  else if (l.drop (cnt 2 l)).head? = some 45 then rDay n { M with m := nv 2 0 l } (l.drop (cnt 2 l + 1)) else none
/-- What a text says, if it has a moment's form. -/
def rd (l : List UInt8) : Option Mo :=
  if cnt 4 l = 4 then (if (l.drop 4).head? = some 45 then rMon l.length { M0 with y := nv 4 0 l } (l.drop 5) else none) else none

def lng (y : Nat) : Bool := decide (y % 4 = 0) && (decide (y % 100 ≠ 0) || decide (y % 400 = 0))
def days (y m : Nat) : Nat :=
  if m = 2 then (if lng y then 29 else 28) else if m = 4 ∨ m = 6 ∨ m = 9 ∨ m = 11 then 30 else if m = 0 ∨ 12 < m then 0 else 31
/-- Each part is one that there is. -/
def mayD (M : Mo) : Bool := decide (1 ≤ M.d) && decide (M.d ≤ days M.y M.m)
def mayC (M : Mo) : Bool := decide (M.h < 24) && (decide (M.mi < 60) && decide (M.se < 60))
def mayZ (M : Mo) : Bool := decide (M.zh < 24) && decide (M.zm < 60)
def may (M : Mo) : Bool := mayD M && (mayC M && mayZ M)

/-- A digit's sign. -/
def dch (a : Nat) : UInt8 := UInt8.ofNat (48 + a)
def d2 (n : Nat) : List UInt8 := [dch (n / 10), dch (n % 10)]
def d4 (n : Nat) : List UInt8 := d2 (n / 100) ++ d2 (n % 100)
/-- Without noughts at the end. -/
def tz (l : List UInt8) : List UInt8 := (l.reverse.dropWhile (· == 48)).reverse
def dot (l : List UInt8) : List UInt8 := if l = [] then [] else 46 :: l
/-- The text of a time in the zone Z. -/
def ttx (y m d n se : Nat) (fr : List UInt8) : List UInt8 :=
  d4 y ++ (45 :: (d2 m ++ (45 :: (d2 d ++ (84 :: (d2 (n / 60) ++ (58 :: (d2 (n % 60) ++ (58 :: (d2 se ++ (dot (tz fr) ++ [90])))))))))))
/-- The day behind, the day ahead; none: there is no year 0 less one. -/
def aft (y m d : Nat) : Nat × Nat × Nat := if d < days y m then (y, m, d + 1) else if m < 12 then (y, m + 1, 1) else (y + 1, 1, 1)
def bef (y m d : Nat) : Nat × Nat × Nat := if 1 < d then (y, m, d - 1) else if 1 < m then (y, m - 1, days y (m - 1)) else (y - 1, 12, 31)
/-- The minutes in the zone Z, behind noon of no day: some below 0, some above a day's. -/
def off (M : Mo) : Int := if M.bh then -((60 * M.zh + M.zm : Nat) : Int) else ((60 * M.zh + M.zm : Nat) : Int)
def mins (M : Mo) : Int := ((60 * M.h + M.mi : Nat) : Int) - off M
/-- The year, the month, the day, the minutes in the zone Z. -/
def zy (M : Mo) : Nat × Nat × Nat × Nat :=
  if mins M < 0 then (let p := bef M.y M.m M.d; (p.1, p.2.1, p.2.2, (mins M + 1440).toNat))
  else if 1440 ≤ mins M then (let p := aft M.y M.m M.d; (p.1, p.2.1, p.2.2, (mins M - 1440).toNat))
  else (M.y, M.m, M.d, (mins M).toNat)
/-- Is the moment ahead of the year 0? -/
def early (M : Mo) : Bool := decide (mins M < 0) && (decide (M.y = 0) && (decide (M.m ≤ 1) && decide (M.d ≤ 1)))
def zt (M : Mo) : Option (List UInt8) :=
  if early M then none else if 9999 < (zy M).1 then none else some (ttx (zy M).1 (zy M).2.1 (zy M).2.2.1 (zy M).2.2.2 M.se M.fr)
/-- The text of the moment that a text says. -/
def ofS (l : List UInt8) : Option (List UInt8) :=
  match rd l with
  | none => none
  | some M => if may M then (if M.td then zt M else some l) else none

theorem dch_nat {a : Nat} (h : a < 10) : (dch a).toNat = 48 + a := by unfold dch; simp; omega
theorem cnt_le (k : Nat) (l : List UInt8) : cnt k l ≤ k := by
  induction k generalizing l with
  | zero => simp [cnt]
  | succ k ih =>
    cases l with
    | nil => simp [cnt]
    | cons c r => simp only [cnt]; split; have := ih r; omega; omega
theorem cnt_len (k : Nat) (l : List UInt8) : cnt k l ≤ l.length := by
  induction k generalizing l with
  | zero => simp [cnt]
  | succ k ih =>
    cases l with
    | nil => simp [cnt]
    | cons c r => simp only [cnt, List.length_cons]; split; have := ih r; omega; omega
theorem nv_lt (k a : Nat) (l : List UInt8) : nv k a l < (a + 1) * 10 ^ k := by
  induction k generalizing l a with
  | zero => simp [nv]
  | succ k ih =>
    have hp : 0 < 10 ^ k := Nat.pow_pos (by omega)
    have h1 : (a + 1) * 10 ^ (k + 1) = (a + 1) * 10 ^ k * 10 := by rw [Nat.pow_succ, Nat.mul_assoc]
    cases l with
    | nil => simp only [nv]; have := Nat.mul_le_mul_left (a + 1) hp; omega
    | cons c r =>
      simp only [nv]
      split
      · rename_i hd
        have := ih (a * 10 + (c.toNat - 48)) r
        simp [dB] at hd
        have h2 : (a * 10 + (c.toNat - 48) + 1) * 10 ^ k ≤ ((a + 1) * 10) * 10 ^ k := Nat.mul_le_mul_right _ (by omega)
        have h3 : ((a + 1) * 10) * 10 ^ k = (a + 1) * 10 ^ k * 10 := by rw [Nat.mul_assoc, Nat.mul_comm 10, Nat.mul_assoc]
        omega
      · have := Nat.mul_le_mul_left (a + 1) hp; omega
theorem nv2_lt (l : List UInt8) : nv 2 0 l < 100 := nv_lt 2 0 l
theorem nv4_lt (l : List UInt8) : nv 4 0 l < 10000 := nv_lt 4 0 l
end M
end Go.Proofs.YtoidlgopibnaaaaDoor
