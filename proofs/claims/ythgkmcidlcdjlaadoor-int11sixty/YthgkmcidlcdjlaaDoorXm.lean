/- Plain mathematics: the forms of the old schema's whole numbers, read sign by sign. -/
import Derived.Test.YthgkmcidlcdjlaaDoorM
namespace Go.Proofs.YthgkmcidlcdjlaaDoor
namespace M

/-- Digits to the base b and gaps, up to the end. -/
def fD (b f : Nat) : List UInt8 → Nat
  | [] => f
  | c :: r => if c = 95 ∨ dv c < b then fD b f r else 0
/-- Gaps, then a digit, then more. -/
def fG (b f : Nat) : List UInt8 → Nat
  | [] => 0
  | c :: r => if c = 95 then fG b f r else if dv c < b then fD b f r else 0
/-- What stands behind a nought. -/
def fN : List UInt8 → Nat
  | [] => 4
  | c :: r => if c = 98 then fG 2 1 r else if c = 120 then fG 16 2 r else fG 8 3 (c :: r)
/-- Base 60: 1 behind a colon, 2 behind a digit below six, 3 where a part is full. -/
def fS : Nat → List UInt8 → Nat
  | k, [] => if k = 1 then 0 else 6
  | k, c :: r => if k = 1 then (if dv c < 6 then fS 2 r else if dv c < 10 then fS 3 r else 0) else if k = 2 ∧ dv c < 10 then fS 3 r else if c = 58 then fS 1 r else 0
/-- What stands behind a first digit that is no nought. -/
def fA : List UInt8 → Nat
  | [] => 5
  | c :: r => if c = 95 ∨ dv c < 10 then fA r else if c = 58 then fS 1 r else 0
def fB : List UInt8 → Nat
  | [] => 0
  | c :: r => if c = 48 then fN r else if dv c < 10 then fA r else 0
def unplus (l : List UInt8) : List UInt8 := if l.head? = some 43 then l.tail else l
theorem unplus_len (l : List UInt8) : (unplus l).length ≤ l.length := by unfold unplus; split <;> simp
/-- Without its sign. -/
def body (l : List UInt8) : List UInt8 := if isNeg l = true then unsign l else unplus l
theorem body_len (l : List UInt8) : (body l).length ≤ l.length := by
  unfold body; split
  · unfold unsign; split <;> simp
  · exact unplus_len l
def form (l : List UInt8) : Nat := fB (body l)
def gone (l : List UInt8) : List UInt8 := l.filter fun c => decide (c ≠ 95)
theorem gone_len (l : List UInt8) : (gone l).length ≤ l.length := List.length_filter_le _ _
theorem gone_append (l m : List UInt8) : gone (l ++ m) = gone l ++ gone m := by simp [gone]
/-- Base 60: n so far, p the part at hand. -/
def sx (n p : Nat) : List UInt8 → Nat
  | [] => n * 60 + p
  | c :: r => if c = 58 then sx (n * 60 + p) 0 r else sx n (p * 10 + dv c) r
/-- What is said once n has been read, and l is behind it. -/
def rd (n : Nat) (l : List UInt8) : Nat := if l = [] then n else sx n 0 l
theorem sx_part (D r : List UInt8) (n p : Nat) (h : ∀ c ∈ D, c ≠ 58) : sx n p (D ++ 58 :: r) = sx (n * 60 + D.foldl (fun n c => n * 10 + dv c) p) 0 r := by
  induction D generalizing p with
  | nil => simp [sx]
  | cons c D ih =>
    have hc : c ≠ 58 := h c (by simp)
    rw [List.cons_append, sx, if_neg hc, ih _ (fun x hx => h x (by simp [hx]))]
    rfl
theorem sx_last (D : List UInt8) (n p : Nat) (h : ∀ c ∈ D, c ≠ 58) : sx n p D = n * 60 + D.foldl (fun n c => n * 10 + dv c) p := by
  induction D generalizing p with
  | nil => simp [sx]
  | cons c D ih =>
    have hc : c ≠ 58 := h c (by simp)
    rw [sx, if_neg hc, ih _ (fun x hx => h x (by simp [hx]))]
    rfl
end M
end Go.Proofs.YthgkmcidlcdjlaaDoor
