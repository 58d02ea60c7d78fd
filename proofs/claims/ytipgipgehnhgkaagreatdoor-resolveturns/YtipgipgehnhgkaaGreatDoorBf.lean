/- Plain mathematics: the forms of the old schema's decimals, read sign by sign, and told by their parts. Walks: float11's at, isDigit. Walks: float11's afterE. Walks: float11's afterColon. -/
import Derived.Test.YtipgipgehnhgkaaGreatDoorBd
set_option linter.unusedVariables false
namespace Go.Proofs.YtipgipgehnhgkaaGreatDoor
namespace M

/-- A digit, or a gap. -/
def du (c : UInt8) : Bool := decide (c = 95) || decide (dv c < 10)
/-- Behind a power's sign, once a digit has been read. -/
def pD (f : Nat) : List UInt8 → Nat
  | [] => f
  | c :: r => if dv c < 10 then pD f r else 0
/-- Behind a power's sign. -/
def pS (f : Nat) : List UInt8 → Nat
  | [] => 0
  | c :: r => if dv c < 10 then pD f r else 0
/-- Behind an e. -/
def pE (f : Nat) : List UInt8 → Nat
  | [] => 0
  | c :: r => if c = 43 ∨ c = 45 then pS f r else 0
/-- Behind the point. -/
def pP (f : Nat) : List UInt8 → Nat
  | [] => f
  | c :: r => if c = 95 ∨ dv c < 10 then pP f r else if c = 101 ∨ c = 69 then pE f r else 0
/-- Behind a point that has no digit ahead. -/
def pG : List UInt8 → Nat
  | [] => 0
  | c :: r => if c = 95 then pG r else if dv c < 10 then pP 2 r else 0
/-- Behind the point of a number to the base 60. -/
def pQ : List UInt8 → Nat
  | [] => 3
  | c :: r => if c = 95 ∨ dv c < 10 then pQ r else 0
/-- Base 60: 1 behind a colon, 2 behind a digit below six, 3 where a part is full. -/
def pC : Nat → List UInt8 → Nat
  | _, [] => 0
  | k, c :: r => if k = 1 then (if dv c < 6 then pC 2 r else if dv c < 10 then pC 3 r else 0) else if k = 2 ∧ dv c < 10 then pC 3 r else if c = 58 then pC 1 r else if c = 46 then pQ r else 0
/-- Behind a first digit. -/
def pW : List UInt8 → Nat
  | [] => 0
  | c :: r => if c = 95 ∨ dv c < 10 then pW r else if c = 46 then pP 1 r else if c = 58 then pC 1 r else 0
/-- A text without its sign. -/
def fl : List UInt8 → Nat
  | [] => 0
  | c :: r => if c = 46 then pG r else if dv c < 10 then pW r else 0
def infs : List (List UInt8) := [[46, 105, 110, 102], [46, 73, 110, 102], [46, 73, 78, 70]]
def nans : List (List UInt8) := [[46, 110, 97, 110], [46, 78, 97, 78], [46, 78, 65, 78]]
/-- The form of a text, with its sign. -/
def flo (l : List UInt8) : Nat := if l ∈ nans then 5 else if body l ∈ infs then 4 else fl (body l)

theorem dv46 : dv 46 = 99 := by decide
theorem dv43 : dv 43 = 99 := by decide
theorem dv45 : dv 45 = 99 := by decide
theorem dv101 : dv 101 = 14 := by decide
theorem dv69 : dv 69 = 14 := by decide
theorem ne46 {c : UInt8} {b : Nat} (h : dv c < b) (hb : b ≤ 99) : c ≠ 46 := by intro e; rw [e, dv46] at h; omega
theorem du_iff (c : UInt8) : du c = true ↔ (c = 95 ∨ dv c < 10) := by simp [du]
theorem pD_eq (f : Nat) (l : List UInt8) : pD f l = if allD 10 l = true then f else 0 := by
  induction l with
  | nil => rfl
  | cons c l ih =>
    rw [pD, allD_cons]
    by_cases hd : dv c < 10
    · rw [if_pos hd, ih, decide_eq_true hd, Bool.true_and]
    · rw [if_neg hd, decide_eq_false hd, Bool.false_and, if_neg (by simp)]
theorem pS_eq (f : Nat) (l : List UInt8) : pS f l = if okD 10 l = true then f else 0 := by
  cases l with
  | nil => rfl
  | cons c l =>
    rw [pS, okD_cons]
    by_cases hd : dv c < 10
    · rw [if_pos hd, pD_eq, decide_eq_true hd, Bool.true_and]
    · rw [if_neg hd, decide_eq_false hd, Bool.false_and, if_neg (by simp)]
/-- The power behind an e. -/
def tlE : List UInt8 → Option Int
  | [] => none
  | g :: ds => if (g = 43 ∨ g = 45) ∧ okD 10 ds = true then some (sgn (decide (g = 45)) (val 10 ds)) else none
/-- What stands behind the digits and gaps behind a point: the power of ten. -/
def tl : List UInt8 → Option Int
  | [] => some 0
  | c :: r => if c = 101 ∨ c = 69 then tlE r else none
theorem tl_cons (c : UInt8) (r : List UInt8) (h : ¬ (c = 101 ∨ c = 69)) : tl (c :: r) = none := by rw [tl, if_neg h]
theorem pE_eq (f : Nat) (c : UInt8) (r : List UInt8) (h : c = 101 ∨ c = 69) : pE f r = if (tl (c :: r)).isSome = true then f else 0 := by
  rw [tl, if_pos h]
  cases r with
  | nil => rfl
  | cons g ds =>
    rw [pE, pS_eq, tlE]
    by_cases hg : g = 43 ∨ g = 45
    · rw [if_pos hg]
      by_cases ho : okD 10 ds = true
      · rw [if_pos ho, if_pos (show (g = 43 ∨ g = 45) ∧ okD 10 ds = true from ⟨hg, ho⟩)]; rfl
      · rw [if_neg ho, if_neg (show ¬ ((g = 43 ∨ g = 45) ∧ okD 10 ds = true) from fun k => ho k.2)]; rfl
    · rw [if_neg hg, if_neg (show ¬ ((g = 43 ∨ g = 45) ∧ okD 10 ds = true) from fun k => hg k.1)]; rfl
/-- Digits and gaps behind the point, and what is behind them. -/
def fr (l : List UInt8) : List UInt8 := l.takeWhile du
def bk (l : List UInt8) : List UInt8 := l.dropWhile du
theorem fr_bk (l : List UInt8) : fr l ++ bk l = l := List.takeWhile_append_dropWhile
theorem fr_yes {c : UInt8} {r : List UInt8} (h : du c = true) : fr (c :: r) = c :: fr r ∧ bk (c :: r) = bk r := by simp [fr, bk, h]
theorem fr_no {c : UInt8} {r : List UInt8} (h : du c = false) : fr (c :: r) = [] ∧ bk (c :: r) = c :: r := by simp [fr, bk, h]
theorem du_no {c : UInt8} (h : ¬ (c = 95 ∨ dv c < 10)) : du c = false := by
  rw [← Bool.not_eq_true, du_iff]; exact h
theorem fr_du (l : List UInt8) : ∀ c ∈ fr l, du c = true := by
  induction l with
  | nil => intro c hc; cases hc
  | cons b l ih =>
    by_cases h : du b = true
    · rw [(fr_yes h).1]
      intro c hc
      rcases List.mem_cons.1 hc with rfl | hc
      · exact h
      · exact ih c hc
    · rw [(fr_no (by simpa using h)).1]; intro c hc; cases hc
theorem gone_du {l : List UInt8} (h : ∀ c ∈ l, du c = true) : allD 10 (gone l) = true := by
  rw [allD_iff]
  intro c hc
  obtain ⟨h1, h2⟩ := mem_gone.1 hc
  rcases (du_iff c).1 (h c h1) with h3 | h3
  · exact absurd h3 h2
  · exact h3
theorem du_gone {l : List UInt8} (h : allD 10 (gone l) = true) : ∀ c ∈ l, du c = true := by
  intro c hc
  rw [du_iff]
  by_cases h95 : c = 95
  · exact Or.inl h95
  · exact Or.inr ((allD_iff _ _).1 h c (mem_gone.2 ⟨hc, h95⟩))
theorem pP_eq (f : Nat) (l : List UInt8) : pP f l = if (tl (bk l)).isSome = true then f else 0 := by
  induction l with
  | nil => rfl
  | cons c l ih =>
    rw [pP]
    by_cases h : c = 95 ∨ dv c < 10
    · rw [if_pos h, ih, (fr_yes ((du_iff c).2 h)).2]
    · rw [if_neg h, (fr_no (du_no h)).2]
      by_cases he : c = 101 ∨ c = 69
      · rw [if_pos he, pE_eq f c l he]
      · rw [if_neg he, tl_cons c l he]; rfl
theorem pQ_eq (l : List UInt8) : pQ l = if bk l = [] then 3 else 0 := by
  induction l with
  | nil => rfl
  | cons c l ih =>
    rw [pQ]
    by_cases h : c = 95 ∨ dv c < 10
    · rw [if_pos h, ih, (fr_yes ((du_iff c).2 h)).2]
    · rw [if_neg h, (fr_no (du_no h)).2, if_neg (by simp)]
theorem pG_eq (l : List UInt8) : pG l = if gone (fr l) = [] then 0 else pP 2 l := by
  induction l with
  | nil => rfl
  | cons c l ih =>
    rw [pG]
    by_cases h95 : c = 95
    · have h : c = 95 ∨ dv c < 10 := Or.inl h95
      rw [if_pos h95, ih, (fr_yes ((du_iff c).2 h)).1, h95, gone_eq, pP, if_pos (Or.inl rfl)]
    · rw [if_neg h95]
      by_cases hd : dv c < 10
      · have h : c = 95 ∨ dv c < 10 := Or.inr hd
        rw [if_pos hd, (fr_yes ((du_iff c).2 h)).1, gone_ne _ h95, if_neg (by simp), pP, if_pos h]
      · rw [if_neg hd, (fr_no (du_no (fun k => k.elim h95 hd))).1]; rfl
theorem pC_no (l : List UInt8) (h : ∀ c ∈ l, c ≠ 46) : ∀ k, pC k l = 0 := by
  induction l with
  | nil => intro k; rfl
  | cons c l ih =>
    have h46 : c ≠ 46 := h c (by simp)
    have ih' := ih fun x hx => h x (by simp [hx])
    intro k
    rw [pC, ih' 1, ih' 2, ih' 3, if_neg h46]
    simp
theorem pC_yes (R l : List UInt8) (h : ∀ c ∈ R, c ≠ 46) : ∀ k, 1 ≤ k → k ≤ 3 → pC k (R ++ 46 :: l) = if fS k R = 6 then pQ l else 0 := by
  induction R with
  | nil =>
    intro k h1 h3
    rw [List.nil_append, pC, dv46, fS]
    by_cases hk : k = 1
    · rw [if_pos hk, if_neg (by omega), if_neg (by omega), if_pos hk, if_neg (by omega)]
    · rw [if_neg hk, if_neg (by omega), if_neg (by decide), if_pos rfl, if_neg hk, if_pos rfl]
  | cons c R ih =>
    have h46 : c ≠ 46 := h c (by simp)
    have ih' := ih fun x hx => h x (by simp [hx])
    intro k h1 h3
    rw [List.cons_append, pC, fS, ih' 1 (by omega) (by omega), ih' 2 (by omega) (by omega), ih' 3 (by omega) (by omega), if_neg h46]
    by_cases hk : k = 1
    · rw [if_pos hk, if_pos hk]
      by_cases h6 : dv c < 6
      · rw [if_pos h6, if_pos h6]
      · rw [if_neg h6, if_neg h6]
        by_cases h10 : dv c < 10
        · rw [if_pos h10, if_pos h10]
        · rw [if_neg h10, if_neg h10]; rfl
    · rw [if_neg hk, if_neg hk]
      by_cases h2 : k = 2 ∧ dv c < 10
      · rw [if_pos h2, if_pos h2]
      · rw [if_neg h2, if_neg h2]
        by_cases h58 : c = 58
        · rw [if_pos h58, if_pos h58]
        · rw [if_neg h58, if_neg h58]; rfl
theorem pW_no (l : List UInt8) (h : ∀ c ∈ l, c ≠ 46) : pW l = 0 := by
  induction l with
  | nil => rfl
  | cons c l ih =>
    have h46 : c ≠ 46 := h c (by simp)
    have h' : ∀ x ∈ l, x ≠ 46 := fun x hx => h x (by simp [hx])
    rw [pW, ih h', if_neg h46, pC_no l h' 1]
    simp
/-- Digits, gaps and parts to the base 60 ahead of the point. -/
theorem pW_yes (P l : List UInt8) (h : ∀ c ∈ P, c ≠ 46) : pW (P ++ 46 :: l) = if fA P = 5 then pP 1 l else if fA P = 6 then pQ l else 0 := by
  induction P with
  | nil => rw [List.nil_append, pW, dv46, if_neg (by decide), if_pos rfl, fA, if_pos rfl]
  | cons c P ih =>
    have h46 : c ≠ 46 := h c (by simp)
    have h' : ∀ x ∈ P, x ≠ 46 := fun x hx => h x (by simp [hx])
    rw [List.cons_append, pW, fA, ih h', if_neg h46]
    by_cases hc : c = 95 ∨ dv c < 10
    · rw [if_pos hc, if_pos hc]
    · rw [if_neg hc, if_neg hc]
      by_cases h58 : c = 58
      · rw [if_pos h58, if_pos h58, pC_yes P l h' 1 (by omega) (by omega)]
        by_cases h6 : fS 1 P = 6
        · rw [if_pos h6, if_neg (by omega)]
        · rw [if_neg h6]
          have key : ∀ (R : List UInt8) k, fS k R ≠ 5 := by
            intro R
            induction R with
            | nil => intro k; rw [fS]; split <;> omega
            | cons b R ih =>
              intro k
              rw [fS]
              split
              · split
                · exact ih _
                · split
                  · exact ih _
                  · omega
              · split
                · exact ih _
                · split
                  · exact ih _
                  · omega
          rw [if_neg (key P 1)]
      · rw [if_neg h58, if_neg h58]; rfl
/-- A text without its sign, told by what stands ahead of its first point and behind it. -/
theorem fl_no (l : List UInt8) (h : ∀ c ∈ l, c ≠ 46) : fl l = 0 := by
  match l, h with
  | [], _ => rfl
  | c :: r, h =>
    rw [fl, if_neg (h c (by simp)), pW_no r (fun x hx => h x (by simp [hx]))]
    simp
theorem fl_two (l : List UInt8) : fl (46 :: l) = if gone (fr l) = [] then 0 else if (tl (bk l)).isSome = true then 2 else 0 := by
  rw [fl, if_pos rfl, pG_eq, pP_eq]
theorem fl_yes (c : UInt8) (P l : List UInt8) (hc : c ≠ 46) (h : ∀ c ∈ P, c ≠ 46) : fl (c :: P ++ 46 :: l) = if dv c < 10 then (if fA P = 5 then (if (tl (bk l)).isSome = true then 1 else 0) else if fA P = 6 then (if bk l = [] then 3 else 0) else 0) else 0 := by
  rw [List.cons_append, fl, if_neg hc, pW_yes P l h, pP_eq, pQ_eq]
theorem fA_cases (P : List UInt8) : (fA P = 5 ∧ allD 10 (gone P) = true) ∨ (fA P = 6 ∧ allD 10 (gone P) = false ∧ ∃ D R, P = D ++ 58 :: R ∧ (∀ c ∈ D, c ≠ 58) ∧ allD 10 (gone D) = true ∧ fS 1 R = 6) ∨ (fA P = 0 ∧ allD 10 (gone P) = false) := by
  rcases split_at 58 P with hn | ⟨D, R, rfl, hD⟩
  · rw [fA_no P hn]
    by_cases h : allD 10 (gone P) = true
    · left; rw [if_pos h]; exact ⟨rfl, h⟩
    · right; right; rw [if_neg h]; exact ⟨rfl, by simpa using h⟩
  · have hb : allD 10 (gone (D ++ 58 :: R)) = false := by
      rw [gone_append, gone_ne R (by decide), allD_append, allD_cons, dv58]; simp
    rw [fA_yes D R hD]
    by_cases h : allD 10 (gone D) = true
    · rw [if_pos h]
      by_cases h6 : fS 1 R = 6
      · right; left; exact ⟨h6, hb, D, R, rfl, hD, h, h6⟩
      · right; right
        refine ⟨?_, hb⟩
        have key : ∀ (R : List UInt8) k, fS k R = 0 ∨ fS k R = 6 := by
          intro R
          induction R with
          | nil => intro k; rw [fS]; split; exact Or.inl rfl; exact Or.inr rfl
          | cons b R ih =>
            intro k
            rw [fS]
            split
            · split
              · exact ih _
              · split
                · exact ih _
                · exact Or.inl rfl
            · split
              · exact ih _
              · split
                · exact ih _
                · exact Or.inl rfl
        rcases key R 1 with h0 | h0
        · exact h0
        · exact absurd h0 h6
    · right; right; rw [if_neg h]; exact ⟨rfl, hb⟩
/-- What a form's text is: ahead of the point, behind it, the power; its digits ahead of the point, those behind it, the power of ten. -/
def Parts (L : List UInt8) (W F : List UInt8) (z : Int) : Prop :=
  (fl L = 1 ∧ ∃ c P l, L = c :: P ++ 46 :: l ∧ c ≠ 46 ∧ (∀ x ∈ P, x ≠ 46) ∧ dv c < 10 ∧ allD 10 (gone P) = true ∧ W = c :: gone P ∧ F = gone (fr l) ∧ tl (bk l) = some z) ∨
  (fl L = 2 ∧ ∃ l, L = 46 :: l ∧ gone (fr l) ≠ [] ∧ W = [] ∧ F = gone (fr l) ∧ tl (bk l) = some z) ∨
  (fl L = 3 ∧ ∃ c D R l, L = c :: (D ++ 58 :: R) ++ 46 :: l ∧ c ≠ 46 ∧ (∀ x ∈ D ++ 58 :: R, x ≠ 46) ∧ dv c < 10 ∧ (∀ x ∈ D, x ≠ 58) ∧ allD 10 (gone D) = true ∧ fS 1 R = 6 ∧ bk l = [] ∧ W = dg (sx (val 10 (c :: gone D)) 0 R) ∧ F = gone (fr l) ∧ z = 0)
theorem isParts (L : List UInt8) (h : fl L ≠ 0) : ∃ W F z, Parts L W F z := by
  rcases split_at 46 L with hn | ⟨P, l, rfl, hP⟩
  · exact absurd (fl_no L hn) h
  · match P, hP with
    | [], _ =>
      rw [List.nil_append, fl_two] at h
      rw [List.nil_append]
      by_cases hg : gone (fr l) = []
      · rw [if_pos hg] at h; exact absurd rfl h
      · rw [if_neg hg] at h
        cases ht : tl (bk l) with
        | none => rw [ht] at h; exact absurd rfl h
        | some z =>
          refine ⟨[], gone (fr l), z, Or.inr (Or.inl ⟨?_, l, rfl, hg, rfl, rfl, ht⟩)⟩
          rw [fl_two, if_neg hg, ht]; rfl
    | c :: P, hP =>
      have hc : c ≠ 46 := hP c (by simp)
      have hP' : ∀ x ∈ P, x ≠ 46 := fun x hx => hP x (by simp [hx])
      have e := fl_yes c P l hc hP'
      rw [e] at h
      by_cases hd : dv c < 10
      · rw [if_pos hd] at h e
        rcases fA_cases P with ⟨h5, ha⟩ | ⟨h6, hb, D, R, rfl, hD, ha, hR⟩ | ⟨h0, hb⟩
        · rw [if_pos h5] at h e
          cases ht : tl (bk l) with
          | none => rw [ht] at h; exact absurd rfl h
          | some z =>
            rw [ht] at e
            exact ⟨c :: gone P, gone (fr l), z, Or.inl ⟨e, c, P, l, rfl, hc, hP', hd, ha, rfl, rfl, ht⟩⟩
        · rw [if_neg (by omega), if_pos h6] at h e
          by_cases hbk : bk l = []
          · rw [if_pos hbk] at e
            exact ⟨_, gone (fr l), 0, Or.inr (Or.inr ⟨e, c, D, R, l, rfl, hc, hP', hd, hD, ha, hR, hbk, rfl, rfl, rfl⟩)⟩
          · rw [if_neg hbk] at h; exact absurd rfl h
        · rw [if_neg (by omega), if_neg (by omega)] at h; exact absurd rfl h
      · rw [if_neg hd] at h; exact absurd rfl h
end M
end Go.Proofs.YtipgipgehnhgkaaGreatDoor

namespace Go.Proofs.YtipgipgehnhgkaaGreatDoor
open Go.RowKit

set_option maxRecDepth 100000 in
theorem fat_in (s : ByteArray) (i : Nat) (w : World) (h : i < s.size) (hs : s.size ≤ 1000000) :
    Calls Tryz.prog 135 #[.string s, .int .i64 i] w fun e w' => e = .returned (.int .i64 (s[i].toNat : Nat)) ∧ w = w' := by
  have hd : decide (i < s.size) = true := by simpa using h
  have hc : s[i].toNat < 256 := s[i].toNat_lt
  go_enter Tryz.func135, Tryz.ntmps135
  go_wp2
  go_ret
  exact ⟨ret_int (by first | rfl | (unfold wrap64; omega)), rfl⟩
set_option maxRecDepth 100000 in
theorem fat_out (s : ByteArray) (i : Nat) (w : World) (h : ¬ i < s.size) (hs : s.size ≤ 1000000) :
    Calls Tryz.prog 135 #[.string s, .int .i64 i] w fun e w' => e = .returned (.int .i64 (-1)) ∧ w = w' := by
  have hd : decide (i < s.size) = false := by simpa using h
  go_enter Tryz.func135, Tryz.ntmps135
  go_wp2
  go_ret
  exact ⟨rfl, rfl⟩
set_option maxRecDepth 100000 in
theorem fdig_end (b : Nat) (w : World) (hb : b ≤ 10) : Calls Tryz.prog 136 #[.int .i64 (-1), .int .i64 b] w fun e w' => e = .returned (.bool false) ∧ w = w' := by
  go_enter Tryz.func136, Tryz.ntmps136
  go_wp2
  go_ret
  exact ⟨rfl, rfl⟩
theorem dv_less {c : UInt8} {b : Nat} (hb : b ≤ 10) : M.dv c < b ↔ 48 ≤ c.toNat ∧ c.toNat < 48 + b := by
  unfold M.dv
  split
  · omega
  · split
    · omega
    · split <;> omega
set_option maxRecDepth 100000 in
theorem fdig_any (c : UInt8) (b : Nat) (w : World) (hb : b ≤ 10) : Calls Tryz.prog 136 #[.int .i64 (c.toNat : Nat), .int .i64 b] w fun e w' => e = .returned (.bool (decide (M.dv c < b))) ∧ w = w' := by
  have hc : c.toNat < 256 := c.toNat_lt
  rw [show decide (M.dv c < b) = decide (48 ≤ c.toNat ∧ c.toNat < 48 + b) from decide_eq_decide.2 (dv_less hb)]
  generalize c.toNat = n at *
  by_cases h1 : 48 ≤ n
  · have hd : decide ((48 : Int) ≤ (n : Int)) = true := by simp; omega
    go_enter Tryz.func136, Tryz.ntmps136
    go_wp2
    go_ret
    refine ⟨ret_bool ?_, rfl⟩
    rw [Bool.eq_iff_iff]
    simp
    omega
  · have hd : decide ((48 : Int) ≤ (n : Int)) = false := by simp; omega
    go_enter Tryz.func136, Tryz.ntmps136
    go_wp2
    go_ret
    refine ⟨ret_bool ?_, rfl⟩
    symm
    simp
    omega
end Go.Proofs.YtipgipgehnhgkaaGreatDoor

namespace Go.Proofs.YtipgipgehnhgkaaGreatDoor
open Go.RowKit

/-- What holds at afterE's labels. -/
def JE (s : ByteArray) (f T : Nat) (w : World) (l : Nat) (a : Act) (w' : World) : Prop :=
  w = w' ∧ ∃ (i : Nat) (u3 u4 u5 u6 u7 u8 u9 u10 u11 u12 u13 u14 u15 u16 u17 u18 u19 u20 u21 u22 u23 u24 u25 u26 u27 u28 u29 u30 u31 u32 u33 : Value), a = { tmps := #[.string s, .int .i64 (i : Nat), .int .i64 (f : Nat), u3, u4, u5, u6, u7, u8, u9, u10, u11, u12, u13, u14, u15, u16, u17, u18, u19, u20, u21, u22, u23, u24, u25, u26, u27, u28, u29, u30, u31, u32, u33], defers := [] } ∧ i ≤ s.size ∧ ((l = 0 ∧ M.pS f (s.data.toList.drop i) = T) ∨ (l = 1 ∧ M.pD f (s.data.toList.drop i) = T))
set_option maxRecDepth 1000000 in
set_option maxHeartbeats 4000000 in
theorem afterE_any (s : ByteArray) (i0 f : Nat) (w : World) (hs : s.size ≤ 1000) (hi0 : i0 ≤ s.size) :
    Calls Tryz.prog 138 #[.string s, .int .i64 (i0 : Nat), .int .i64 (f : Nat)] w fun e w' => e = .returned (.int .i64 (M.pE f (s.data.toList.drop i0) : Nat)) ∧ w = w' := by
  obtain ⟨T, hT⟩ : ∃ T, M.pE f (s.data.toList.drop i0) = T := ⟨_, rfl⟩
  rw [hT]
  go_enter Tryz.func138, Tryz.ntmps138
  go_wp2_with fail
  refine wp_scope_run (JE s f T w) (fun _ a _ => 2000 - (intOf (a.tmps.getD 1 undef)).toNat) ?_ ?_
  · rintro l a w' ⟨rfl, i, u3, u4, u5, u6, u7, u8, u9, u10, u11, u12, u13, u14, u15, u16, u17, u18, u19, u20, u21, u22, u23, u24, u25, u26, u27, u28, u29, u30, u31, u32, u33, rfl, hi, h⟩
    rcases h with ⟨rfl, h⟩ | ⟨rfl, h⟩
    · refine ⟨_, rfl, ?_⟩
      by_cases hl : i < s.size
      · have c1 := fun W => fat_in s i W hl (by omega)
        rw [drop_cons s i hl, M.pS] at h
        have hc := s[i].toNat_lt
        have c2 := fun W => fdig_any s[i] 10 W (by omega)
        by_cases hd : M.dv s[i] < 10
        · rw [if_pos hd] at h
          rw [decide_eq_true hd] at c2
          generalize s[i].toNat = n at *
          clear hd
          go_wp2_with fail
          refine (c1 _).mono ?_
          rintro r w' ⟨rfl, rfl⟩
          go_wp2_with fail
          refine (c2 _).mono ?_
          rintro r w' ⟨rfl, rfl⟩
          go_wp2
          go_step3
          refine ⟨⟨rfl, i + 1, _, _, _, _, _, _, _, _, _, _, _, _, _, _, _, _, _, _, _, _, _, _, _, _, _, _, _, _, _, _, _, rfl, by omega, Or.inr ⟨rfl, h⟩⟩, ?_⟩
          simp [intOf]
          omega
        · rw [if_neg hd] at h
          rw [decide_eq_false hd] at c2
          generalize s[i].toNat = n at *
          clear hd
          subst h
          go_wp2_with fail
          refine (c1 _).mono ?_
          rintro r w' ⟨rfl, rfl⟩
          go_wp2_with fail
          refine (c2 _).mono ?_
          rintro r w' ⟨rfl, rfl⟩
          go_wp2
          simp only [Exit.jumps]
          go_ret
          exact ⟨rfl, rfl⟩
      · have c1 := fun W => fat_out s i W hl (by omega)
        have c2 := fun W => fdig_end 10 W (by omega)
        rw [List.drop_of_length_le (by rw [← sz_list]; omega), M.pS] at h
        subst h
        go_wp2_with fail
        refine (c1 _).mono ?_
        rintro r w' ⟨rfl, rfl⟩
        go_wp2_with fail
        refine (c2 _).mono ?_
        rintro r w' ⟨rfl, rfl⟩
        go_wp2
        simp only [Exit.jumps]
        go_ret
        exact ⟨rfl, rfl⟩
    · refine ⟨_, rfl, ?_⟩
      by_cases hl : i < s.size
      · have c1 := fun W => fat_in s i W hl (by omega)
        rw [drop_cons s i hl, M.pD] at h
        have hc := s[i].toNat_lt
        have c2 := fun W => fdig_any s[i] 10 W (by omega)
        have hm1 : ((s[i].toNat : Int) == -1) = false := beq_eq_false_iff_ne.2 (by omega)
        by_cases hd : M.dv s[i] < 10
        · rw [if_pos hd] at h
          rw [decide_eq_true hd] at c2
          generalize s[i].toNat = n at *
          clear hd
          go_wp2_with fail
          refine (c1 _).mono ?_
          rintro r w' ⟨rfl, rfl⟩
          go_wp2_with fail
          refine (c2 _).mono ?_
          rintro r w' ⟨rfl, rfl⟩
          go_wp2
          go_step3
          refine ⟨⟨rfl, i + 1, _, _, _, _, _, _, _, _, _, _, _, _, _, _, _, _, _, _, _, _, _, _, _, _, _, _, _, _, _, _, _, rfl, by omega, Or.inr ⟨rfl, h⟩⟩, ?_⟩
          simp [intOf]
          omega
        · rw [if_neg hd] at h
          rw [decide_eq_false hd] at c2
          generalize s[i].toNat = n at *
          clear hd
          subst h
          go_wp2_with fail
          refine (c1 _).mono ?_
          rintro r w' ⟨rfl, rfl⟩
          go_wp2_with fail
          refine (c2 _).mono ?_
          rintro r w' ⟨rfl, rfl⟩
          go_wp2
          simp only [Exit.jumps]
          go_ret
          exact ⟨rfl, rfl⟩
      · have c1 := fun W => fat_out s i W hl (by omega)
        have c2 := fun W => fdig_end 10 W (by omega)
        rw [List.drop_of_length_le (by rw [← sz_list]; omega), M.pD] at h
        subst h
        go_wp2_with fail
        refine (c1 _).mono ?_
        rintro r w' ⟨rfl, rfl⟩
        go_wp2_with fail
        refine (c2 _).mono ?_
        rintro r w' ⟨rfl, rfl⟩
        go_wp2
        simp only [Exit.jumps]
        go_ret
        exact ⟨rfl, rfl⟩
  · intro hp
    by_cases hl : i0 < s.size
    · have c1 := fun W => fat_in s i0 W hl (by omega)
      rw [drop_cons s i0 hl, M.pE] at hT
      have hc := s[i0].toNat_lt
      by_cases h43 : s[i0] = 43
      · rw [if_pos (Or.inl h43)] at hT
        rw [h43] at c1
        clear hc h43
        go_wp2_with fail
        refine (c1 _).mono ?_
        rintro r w' ⟨rfl, rfl⟩
        go_wp2
        go_step3
        exact ⟨rfl, i0 + 1, _, _, _, _, _, _, _, _, _, _, _, _, _, _, _, _, _, _, _, _, _, _, _, _, _, _, _, _, _, _, _, rfl, by omega, Or.inl ⟨rfl, hT⟩⟩
      · by_cases h45 : s[i0] = 45
        · rw [if_pos (Or.inr h45)] at hT
          rw [h45] at c1
          clear hc h43 h45
          go_wp2_with fail
          refine (c1 _).mono ?_
          rintro r w' ⟨rfl, rfl⟩
          go_wp2
          go_step3
          exact ⟨rfl, i0 + 1, _, _, _, _, _, _, _, _, _, _, _, _, _, _, _, _, _, _, _, _, _, _, _, _, _, _, _, _, _, _, _, rfl, by omega, Or.inl ⟨rfl, hT⟩⟩
        · rw [if_neg (fun k => k.elim h43 h45)] at hT
          have hx43 : ((s[i0].toNat : Int) == 43) = false := neC (k := 43) (by omega) h43
          have hx45 : ((s[i0].toNat : Int) == 45) = false := neC (k := 45) (by omega) h45
          generalize s[i0].toNat = n at *
          clear h43 h45
          subst hT
          go_wp2_with fail
          refine (c1 _).mono ?_
          rintro r w' ⟨rfl, rfl⟩
          go_wp2
          simp only [Exit.jumps]
          go_ret
          exact ⟨rfl, rfl⟩
    · have c1 := fun W => fat_out s i0 W hl (by omega)
      rw [List.drop_of_length_le (by rw [← sz_list]; omega), M.pE] at hT
      subst hT
      go_wp2_with fail
      refine (c1 _).mono ?_
      rintro r w' ⟨rfl, rfl⟩
      go_wp2
      simp only [Exit.jumps]
      go_ret
      exact ⟨rfl, rfl⟩
end Go.Proofs.YtipgipgehnhgkaaGreatDoor

namespace Go.Proofs.YtipgipgehnhgkaaGreatDoor
open Go.RowKit

theorem pC1_cons (c : UInt8) (r : List UInt8) : M.pC 1 (c :: r) = if M.dv c < 6 then M.pC 2 r else if M.dv c < 10 then M.pC 3 r else 0 := by rw [M.pC, if_pos rfl]
theorem pC2_cons (c : UInt8) (r : List UInt8) : M.pC 2 (c :: r) = if M.dv c < 10 then M.pC 3 r else if c = 58 then M.pC 1 r else if c = 46 then M.pQ r else 0 := by rw [M.pC, if_neg (by omega)]; simp
theorem pC3_cons (c : UInt8) (r : List UInt8) : M.pC 3 (c :: r) = if c = 58 then M.pC 1 r else if c = 46 then M.pQ r else 0 := by rw [M.pC, if_neg (by omega), if_neg (by omega)]
theorem pC_nil (k : Nat) : M.pC k [] = 0 := rfl
/-- What holds at afterColon's labels. -/
def JC (s : ByteArray) (T : Nat) (w : World) (l : Nat) (a : Act) (w' : World) : Prop :=
  w = w' ∧ ∃ (i : Nat) (u2 u3 u4 u5 u6 u7 u8 u9 u10 u11 u12 u13 u14 u15 u16 u17 u18 u19 u20 u21 u22 u23 u24 u25 u26 u27 u28 u29 u30 u31 u32 u33 u34 u35 u36 u37 u38 u39 u40 u41 u42 u43 u44 u45 u46 u47 u48 u49 u50 u51 : Value), a = { tmps := #[.string s, .int .i64 (i : Nat), u2, u3, u4, u5, u6, u7, u8, u9, u10, u11, u12, u13, u14, u15, u16, u17, u18, u19, u20, u21, u22, u23, u24, u25, u26, u27, u28, u29, u30, u31, u32, u33, u34, u35, u36, u37, u38, u39, u40, u41, u42, u43, u44, u45, u46, u47, u48, u49, u50, u51], defers := [] } ∧ i ≤ s.size ∧ ((l = 2 ∧ M.pC 1 (s.data.toList.drop i) = T) ∨ (l = 0 ∧ M.pC 2 (s.data.toList.drop i) = T) ∨ (l = 1 ∧ M.pC 3 (s.data.toList.drop i) = T) ∨ (l = 3 ∧ M.pQ (s.data.toList.drop i) = T))
set_option maxRecDepth 1000000 in
set_option maxHeartbeats 8000000 in
theorem afterC_any (s : ByteArray) (i0 : Nat) (w : World) (hs : s.size ≤ 1000) (hi0 : i0 ≤ s.size) :
    Calls Tryz.prog 137 #[.string s, .int .i64 (i0 : Nat)] w fun e w' => e = .returned (.int .i64 (M.pC 1 (s.data.toList.drop i0) : Nat)) ∧ w = w' := by
  obtain ⟨T, hT⟩ : ∃ T, M.pC 1 (s.data.toList.drop i0) = T := ⟨_, rfl⟩
  rw [hT]
  go_enter Tryz.func137, Tryz.ntmps137
  go_wp2_with fail
  refine wp_scope_run (JC s T w) (fun _ a _ => 2000 - (intOf (a.tmps.getD 1 undef)).toNat) ?_ ?_
  · rintro l a w' ⟨rfl, i, u2, u3, u4, u5, u6, u7, u8, u9, u10, u11, u12, u13, u14, u15, u16, u17, u18, u19, u20, u21, u22, u23, u24, u25, u26, u27, u28, u29, u30, u31, u32, u33, u34, u35, u36, u37, u38, u39, u40, u41, u42, u43, u44, u45, u46, u47, u48, u49, u50, u51, rfl, hi, h⟩
    rcases h with ⟨rfl, h⟩ | ⟨rfl, h⟩ | ⟨rfl, h⟩ | ⟨rfl, h⟩
    · refine ⟨_, rfl, ?_⟩
      by_cases hl : i < s.size
      · have c1 := fun W => fat_in s i W hl (by omega)
        rw [drop_cons s i hl, pC1_cons] at h
        have hc := s[i].toNat_lt
        have c2 := fun W => fdig_any s[i] 6 W (by omega)
        by_cases hd : M.dv s[i] < 6
        · rw [if_pos hd] at h
          rw [decide_eq_true hd] at c2
          generalize s[i].toNat = n at *
          clear hd
          go_wp2_with fail
          refine (c1 _).mono ?_
          rintro r w' ⟨rfl, rfl⟩
          go_wp2_with fail
          refine (c2 _).mono ?_
          rintro r w' ⟨rfl, rfl⟩
          go_wp2
          go_step3
          refine ⟨⟨rfl, i + 1, _, _, _, _, _, _, _, _, _, _, _, _, _, _, _, _, _, _, _, _, _, _, _, _, _, _, _, _, _, _, _, _, _, _, _, _, _, _, _, _, _, _, _, _, _, _, _, _, _, _, rfl, by omega, Or.inr (Or.inl ⟨rfl, h⟩)⟩, ?_⟩
          simp [intOf]
          omega
        · rw [if_neg hd] at h
          rw [decide_eq_false hd] at c2
          have c3 := fun W => fdig_any s[i] 10 W (by omega)
          by_cases he : M.dv s[i] < 10
          · rw [if_pos he] at h
            rw [decide_eq_true he] at c3
            generalize s[i].toNat = n at *
            clear hd he
            go_wp2_with fail
            refine (c1 _).mono ?_
            rintro r w' ⟨rfl, rfl⟩
            go_wp2_with fail
            refine (c2 _).mono ?_
            rintro r w' ⟨rfl, rfl⟩
            go_wp2_with fail
            refine (c3 _).mono ?_
            rintro r w' ⟨rfl, rfl⟩
            go_wp2
            go_step3
            refine ⟨⟨rfl, i + 1, _, _, _, _, _, _, _, _, _, _, _, _, _, _, _, _, _, _, _, _, _, _, _, _, _, _, _, _, _, _, _, _, _, _, _, _, _, _, _, _, _, _, _, _, _, _, _, _, _, _, rfl, by omega, Or.inr (Or.inr (Or.inl ⟨rfl, h⟩))⟩, ?_⟩
            simp [intOf]
            omega
          · rw [if_neg he] at h
            rw [decide_eq_false he] at c3
            generalize s[i].toNat = n at *
            clear hd he
            subst h
            go_wp2_with fail
            refine (c1 _).mono ?_
            rintro r w' ⟨rfl, rfl⟩
            go_wp2_with fail
            refine (c2 _).mono ?_
            rintro r w' ⟨rfl, rfl⟩
            go_wp2_with fail
            refine (c3 _).mono ?_
            rintro r w' ⟨rfl, rfl⟩
            go_wp2
            simp only [Exit.jumps]
            go_ret
            exact ⟨rfl, rfl⟩
      · have c1 := fun W => fat_out s i W hl (by omega)
        have c2 := fun W => fdig_end 6 W (by omega)
        have c3 := fun W => fdig_end 10 W (by omega)
        rw [List.drop_of_length_le (by rw [← sz_list]; omega), pC_nil] at h
        subst h
        go_wp2_with fail
        refine (c1 _).mono ?_
        rintro r w' ⟨rfl, rfl⟩
        go_wp2_with fail
        refine (c2 _).mono ?_
        rintro r w' ⟨rfl, rfl⟩
        go_wp2_with fail
        refine (c3 _).mono ?_
        rintro r w' ⟨rfl, rfl⟩
        go_wp2
        simp only [Exit.jumps]
        go_ret
        exact ⟨rfl, rfl⟩
    · refine ⟨_, rfl, ?_⟩
      by_cases hl : i < s.size
      · have c1 := fun W => fat_in s i W hl (by omega)
        have hc := s[i].toNat_lt
        have c2 := fun W => fdig_any s[i] 10 W (by omega)
        by_cases hd : M.dv s[i] < 10
        · rw [drop_cons s i hl, pC2_cons, if_pos hd] at h
          rw [decide_eq_true hd] at c2
          generalize s[i].toNat = n at *
          clear hd
          by_cases hl3 : i + 1 < s.size
          · have c3 := fun W => fat_in s (i + 1) W hl3 (by omega)
            rw [drop_cons s (i + 1) hl3, pC3_cons] at h
            have hc3 := s[i + 1].toNat_lt
            by_cases h58 : s[i + 1] = 58
            · rw [if_pos h58] at h
              rw [h58] at c3
              clear hc3 h58
              go_wp2_with fail
              refine (c1 _).mono ?_
              rintro r w' ⟨rfl, rfl⟩
              go_wp2_with fail
              refine (c2 _).mono ?_
              rintro r w' ⟨rfl, rfl⟩
              go_wp2_with fail
              go_step3
              rename_i K hK
              refine hK _ _ ?_
              clear hK K
              go_wp2_with fail
              refine (c3 _).mono ?_
              rintro r w' ⟨rfl, rfl⟩
              go_wp2
              go_step3
              refine ⟨⟨rfl, i + 1 + 1, _, _, _, _, _, _, _, _, _, _, _, _, _, _, _, _, _, _, _, _, _, _, _, _, _, _, _, _, _, _, _, _, _, _, _, _, _, _, _, _, _, _, _, _, _, _, _, _, _, _, rfl, by omega, Or.inl ⟨rfl, h⟩⟩, ?_⟩
              simp [intOf]
              omega
            · rw [if_neg h58] at h
              by_cases h46 : s[i + 1] = 46
              · rw [if_pos h46] at h
                rw [h46] at c3
                clear hc3 h58 h46
                go_wp2_with fail
                refine (c1 _).mono ?_
                rintro r w' ⟨rfl, rfl⟩
                go_wp2_with fail
                refine (c2 _).mono ?_
                rintro r w' ⟨rfl, rfl⟩
                go_wp2_with fail
                go_step3
                rename_i K hK
                refine hK _ _ ?_
                clear hK K
                go_wp2_with fail
                refine (c3 _).mono ?_
                rintro r w' ⟨rfl, rfl⟩
                go_wp2
                go_step3
                refine ⟨⟨rfl, i + 1 + 1, _, _, _, _, _, _, _, _, _, _, _, _, _, _, _, _, _, _, _, _, _, _, _, _, _, _, _, _, _, _, _, _, _, _, _, _, _, _, _, _, _, _, _, _, _, _, _, _, _, _, rfl, by omega, Or.inr (Or.inr (Or.inr ⟨rfl, h⟩))⟩, ?_⟩
                simp [intOf]
                omega
              · rw [if_neg h46] at h
                have hx58 : ((s[i + 1].toNat : Int) == 58) = false := neC (k := 58) (by omega) h58
                have hx46 : ((s[i + 1].toNat : Int) == 46) = false := neC (k := 46) (by omega) h46
                generalize s[i + 1].toNat = m at *
                clear h58 h46
                subst h
                go_wp2_with fail
                refine (c1 _).mono ?_
                rintro r w' ⟨rfl, rfl⟩
                go_wp2_with fail
                refine (c2 _).mono ?_
                rintro r w' ⟨rfl, rfl⟩
                go_wp2_with fail
                go_step3
                rename_i K hK
                refine hK _ _ ?_
                clear hK K
                go_wp2_with fail
                refine (c3 _).mono ?_
                rintro r w' ⟨rfl, rfl⟩
                go_wp2
                simp only [Exit.jumps]
                go_ret
                exact ⟨rfl, rfl⟩
          · have c3 := fun W => fat_out s (i + 1) W hl3 (by omega)
            rw [List.drop_of_length_le (by rw [← sz_list]; omega), pC_nil] at h
            subst h
            go_wp2_with fail
            refine (c1 _).mono ?_
            rintro r w' ⟨rfl, rfl⟩
            go_wp2_with fail
            refine (c2 _).mono ?_
            rintro r w' ⟨rfl, rfl⟩
            go_wp2_with fail
            go_step3
            rename_i K hK
            refine hK _ _ ?_
            clear hK K
            go_wp2_with fail
            refine (c3 _).mono ?_
            rintro r w' ⟨rfl, rfl⟩
            go_wp2
            simp only [Exit.jumps]
            go_ret
            exact ⟨rfl, rfl⟩
        · have h2 : M.pC 3 (s.data.toList.drop i) = T := by rw [← h, drop_cons s i hl, pC2_cons, if_neg hd, pC3_cons]
          clear h
          rw [decide_eq_false hd] at c2
          clear hd
          rw [drop_cons s i hl, pC3_cons] at h2
          by_cases h58 : s[i] = 58
          · rw [if_pos h58] at h2
            rw [h58] at c1 c2
            clear hc h58
            go_wp2_with fail
            refine (c1 _).mono ?_
            rintro r w' ⟨rfl, rfl⟩
            go_wp2_with fail
            refine (c2 _).mono ?_
            rintro r w' ⟨rfl, rfl⟩
            go_wp2_with fail
            go_step3
            rename_i K hK
            refine hK _ _ ?_
            clear hK K
            go_wp2_with fail
            refine (c1 _).mono ?_
            rintro r w' ⟨rfl, rfl⟩
            go_wp2
            go_step3
            refine ⟨⟨rfl, i + 1, _, _, _, _, _, _, _, _, _, _, _, _, _, _, _, _, _, _, _, _, _, _, _, _, _, _, _, _, _, _, _, _, _, _, _, _, _, _, _, _, _, _, _, _, _, _, _, _, _, _, rfl, by omega, Or.inl ⟨rfl, h2⟩⟩, ?_⟩
            simp [intOf]
            omega
          · rw [if_neg h58] at h2
            by_cases h46 : s[i] = 46
            · rw [if_pos h46] at h2
              rw [h46] at c1 c2
              clear hc h58 h46
              go_wp2_with fail
              refine (c1 _).mono ?_
              rintro r w' ⟨rfl, rfl⟩
              go_wp2_with fail
              refine (c2 _).mono ?_
              rintro r w' ⟨rfl, rfl⟩
              go_wp2_with fail
              go_step3
              rename_i K hK
              refine hK _ _ ?_
              clear hK K
              go_wp2_with fail
              refine (c1 _).mono ?_
              rintro r w' ⟨rfl, rfl⟩
              go_wp2
              go_step3
              refine ⟨⟨rfl, i + 1, _, _, _, _, _, _, _, _, _, _, _, _, _, _, _, _, _, _, _, _, _, _, _, _, _, _, _, _, _, _, _, _, _, _, _, _, _, _, _, _, _, _, _, _, _, _, _, _, _, _, rfl, by omega, Or.inr (Or.inr (Or.inr ⟨rfl, h2⟩))⟩, ?_⟩
              simp [intOf]
              omega
            · rw [if_neg h46] at h2
              have hx58 : ((s[i].toNat : Int) == 58) = false := neC (k := 58) (by omega) h58
              have hx46 : ((s[i].toNat : Int) == 46) = false := neC (k := 46) (by omega) h46
              generalize s[i].toNat = m at *
              clear h58 h46
              subst h2
              go_wp2_with fail
              refine (c1 _).mono ?_
              rintro r w' ⟨rfl, rfl⟩
              go_wp2_with fail
              refine (c2 _).mono ?_
              rintro r w' ⟨rfl, rfl⟩
              go_wp2_with fail
              go_step3
              rename_i K hK
              refine hK _ _ ?_
              clear hK K
              go_wp2_with fail
              refine (c1 _).mono ?_
              rintro r w' ⟨rfl, rfl⟩
              go_wp2
              simp only [Exit.jumps]
              go_ret
              exact ⟨rfl, rfl⟩
      · have c1 := fun W => fat_out s i W hl (by omega)
        have c2 := fun W => fdig_end 10 W (by omega)
        rw [List.drop_of_length_le (by rw [← sz_list]; omega), pC_nil] at h
        subst h
        go_wp2_with fail
        refine (c1 _).mono ?_
        rintro r w' ⟨rfl, rfl⟩
        go_wp2_with fail
        refine (c2 _).mono ?_
        rintro r w' ⟨rfl, rfl⟩
        go_wp2_with fail
        go_step3
        rename_i K hK
        refine hK _ _ ?_
        clear hK K
        go_wp2_with fail
        refine (c1 _).mono ?_
        rintro r w' ⟨rfl, rfl⟩
        go_wp2
        simp only [Exit.jumps]
        go_ret
        exact ⟨rfl, rfl⟩
    · refine ⟨_, rfl, ?_⟩
      by_cases hl3 : i < s.size
      · have c3 := fun W => fat_in s (i) W hl3 (by omega)
        rw [drop_cons s (i) hl3, pC3_cons] at h
        have hc3 := s[i].toNat_lt
        by_cases h58 : s[i] = 58
        · rw [if_pos h58] at h
          rw [h58] at c3
          clear hc3 h58
          go_wp2_with fail
          refine (c3 _).mono ?_
          rintro r w' ⟨rfl, rfl⟩
          go_wp2
          go_step3
          refine ⟨⟨rfl, i + 1, _, _, _, _, _, _, _, _, _, _, _, _, _, _, _, _, _, _, _, _, _, _, _, _, _, _, _, _, _, _, _, _, _, _, _, _, _, _, _, _, _, _, _, _, _, _, _, _, _, _, rfl, by omega, Or.inl ⟨rfl, h⟩⟩, ?_⟩
          simp [intOf]
          omega
        · rw [if_neg h58] at h
          by_cases h46 : s[i] = 46
          · rw [if_pos h46] at h
            rw [h46] at c3
            clear hc3 h58 h46
            go_wp2_with fail
            refine (c3 _).mono ?_
            rintro r w' ⟨rfl, rfl⟩
            go_wp2
            go_step3
            refine ⟨⟨rfl, i + 1, _, _, _, _, _, _, _, _, _, _, _, _, _, _, _, _, _, _, _, _, _, _, _, _, _, _, _, _, _, _, _, _, _, _, _, _, _, _, _, _, _, _, _, _, _, _, _, _, _, _, rfl, by omega, Or.inr (Or.inr (Or.inr ⟨rfl, h⟩))⟩, ?_⟩
            simp [intOf]
            omega
          · rw [if_neg h46] at h
            have hx58 : ((s[i].toNat : Int) == 58) = false := neC (k := 58) (by omega) h58
            have hx46 : ((s[i].toNat : Int) == 46) = false := neC (k := 46) (by omega) h46
            generalize s[i].toNat = m at *
            clear h58 h46
            subst h
            go_wp2_with fail
            refine (c3 _).mono ?_
            rintro r w' ⟨rfl, rfl⟩
            go_wp2
            simp only [Exit.jumps]
            go_ret
            exact ⟨rfl, rfl⟩
      · have c3 := fun W => fat_out s (i) W hl3 (by omega)
        rw [List.drop_of_length_le (by rw [← sz_list]; omega), pC_nil] at h
        subst h
        go_wp2_with fail
        refine (c3 _).mono ?_
        rintro r w' ⟨rfl, rfl⟩
        go_wp2
        simp only [Exit.jumps]
        go_ret
        exact ⟨rfl, rfl⟩
    · refine ⟨_, rfl, ?_⟩
      by_cases hl : i < s.size
      · have c1 := fun W => fat_in s i W hl (by omega)
        rw [drop_cons s i hl, M.pQ] at h
        have hc := s[i].toNat_lt
        by_cases h95 : s[i] = 95
        · rw [if_pos (Or.inl h95)] at h
          rw [h95] at c1
          clear hc h95
          go_wp2_with fail
          refine (c1 _).mono ?_
          rintro r w' ⟨rfl, rfl⟩
          go_wp2
          go_step3
          refine ⟨⟨rfl, i + 1, _, _, _, _, _, _, _, _, _, _, _, _, _, _, _, _, _, _, _, _, _, _, _, _, _, _, _, _, _, _, _, _, _, _, _, _, _, _, _, _, _, _, _, _, _, _, _, _, _, _, rfl, by omega, Or.inr (Or.inr (Or.inr ⟨rfl, h⟩))⟩, ?_⟩
          simp [intOf]
          omega
        · have c2 := fun W => fdig_any s[i] 10 W (by omega)
          have hx95 : ((s[i].toNat : Int) == 95) = false := neC (k := 95) (by omega) h95
          have hm1 : ((s[i].toNat : Int) == -1) = false := beq_eq_false_iff_ne.2 (by omega)
          by_cases hd : M.dv s[i] < 10
          · rw [if_pos (Or.inr hd)] at h
            rw [decide_eq_true hd] at c2
            generalize s[i].toNat = n at *
            clear hd h95
            go_wp2_with fail
            refine (c1 _).mono ?_
            rintro r w' ⟨rfl, rfl⟩
            go_wp2_with fail
            refine (c2 _).mono ?_
            rintro r w' ⟨rfl, rfl⟩
            go_wp2
            go_step3
            refine ⟨⟨rfl, i + 1, _, _, _, _, _, _, _, _, _, _, _, _, _, _, _, _, _, _, _, _, _, _, _, _, _, _, _, _, _, _, _, _, _, _, _, _, _, _, _, _, _, _, _, _, _, _, _, _, _, _, rfl, by omega, Or.inr (Or.inr (Or.inr ⟨rfl, h⟩))⟩, ?_⟩
            simp [intOf]
            omega
          · rw [if_neg (fun k => k.elim h95 hd)] at h
            rw [decide_eq_false hd] at c2
            generalize s[i].toNat = n at *
            clear hd h95
            subst h
            go_wp2_with fail
            refine (c1 _).mono ?_
            rintro r w' ⟨rfl, rfl⟩
            go_wp2_with fail
            refine (c2 _).mono ?_
            rintro r w' ⟨rfl, rfl⟩
            go_wp2
            simp only [Exit.jumps]
            go_ret
            exact ⟨rfl, rfl⟩
      · have c1 := fun W => fat_out s i W hl (by omega)
        have c2 := fun W => fdig_end 10 W (by omega)
        rw [List.drop_of_length_le (by rw [← sz_list]; omega), M.pQ] at h
        subst h
        go_wp2_with fail
        refine (c1 _).mono ?_
        rintro r w' ⟨rfl, rfl⟩
        go_wp2_with fail
        refine (c2 _).mono ?_
        rintro r w' ⟨rfl, rfl⟩
        go_wp2
        simp only [Exit.jumps]
        go_ret
        exact ⟨rfl, rfl⟩
  · intro hp
    go_wp2_with fail
    go_step3
    rename_i K hK
    exact hK _ _ (hp 2 _ rfl _ _ ⟨rfl, i0, _, _, _, _, _, _, _, _, _, _, _, _, _, _, _, _, _, _, _, _, _, _, _, _, _, _, _, _, _, _, _, _, _, _, _, _, _, _, _, _, _, _, _, _, _, _, _, _, _, _, rfl, by omega, Or.inl ⟨rfl, hT⟩⟩)
end Go.Proofs.YtipgipgehnhgkaaGreatDoor
