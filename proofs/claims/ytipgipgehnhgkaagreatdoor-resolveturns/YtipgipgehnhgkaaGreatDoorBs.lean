/- Plain mathematics: what the new schema's numbers are, read sign by sign, and told by their parts. Walks: num12's at, isDigit, afterBase. Walks: num12's afterE. Walks: num12's ofDigits. -/
import Derived.Test.YtipgipgehnhgkaaGreatDoorBf
import Derived.Test.YtipgipgehnhgkaaGreatDoorBd
set_option linter.unusedVariables false
namespace Go.Proofs.YtipgipgehnhgkaaGreatDoor
namespace M

/-- Digits to a base, up to the end. -/
def gD (b f : Nat) : List UInt8 → Nat
  | [] => f
  | c :: r => if dv c < b then gD b f r else 0
/-- The same, one at least. -/
def gB (b f : Nat) : List UInt8 → Nat
  | [] => 0
  | c :: r => if dv c < b then gD b f r else 0
/-- Behind an e. -/
def gE : List UInt8 → Nat
  | [] => 0
  | c :: r => if c = 43 ∨ c = 45 then gB 10 4 r else gB 10 4 (c :: r)
/-- Behind a point with a digit ahead or behind. -/
def gP : List UInt8 → Nat
  | [] => 4
  | c :: r => if dv c < 10 then gP r else if c = 101 ∨ c = 69 then gE r else 0
/-- Behind a point without a digit ahead. -/
def gG : List UInt8 → Nat
  | [] => 0
  | c :: r => if dv c < 10 then gP r else 0
/-- Behind a digit. -/
def gW : List UInt8 → Nat
  | [] => 3
  | c :: r => if dv c < 10 then gW r else if c = 46 then gP r else if c = 101 ∨ c = 69 then gE r else 0
/-- A text without its sign. -/
def gl : List UInt8 → Nat
  | [] => 0
  | c :: r => if c = 46 then gG r else if dv c < 10 then gW r else 0
/-- The form of a text. -/
def gf (l : List UInt8) : Nat := if l.take 2 = [48, 111] then gB 8 1 (l.drop 2) else if l.take 2 = [48, 120] then gB 16 2 (l.drop 2) else gl (body l)

theorem body_43 (r : List UInt8) : isNeg (43 :: r) = false ∧ body (43 :: r) = r := by
  have h1 : isNeg (43 :: r) = false := by simp [isNeg]
  refine ⟨h1, ?_⟩
  unfold body unplus
  rw [h1]; simp
theorem body_45 (r : List UInt8) : isNeg (45 :: r) = true ∧ body (45 :: r) = r := by
  refine ⟨isNeg_cons r, ?_⟩
  unfold body
  rw [if_pos (isNeg_cons r), unsign_cons]
theorem body_else {c : UInt8} (r : List UInt8) (h1 : c ≠ 43) (h2 : c ≠ 45) : isNeg (c :: r) = false ∧ body (c :: r) = c :: r := by
  have h3 : isNeg (c :: r) = false := by simp [isNeg, h2]
  refine ⟨h3, ?_⟩
  unfold body unplus
  rw [h3]; simp [h1]
theorem body_nil : isNeg [] = false ∧ body [] = [] := by decide
theorem gD_eq (b f : Nat) (l : List UInt8) : gD b f l = if allD b l = true then f else 0 := by
  induction l with
  | nil => rfl
  | cons c l ih =>
    rw [gD, allD_cons]
    by_cases hd : dv c < b
    · rw [if_pos hd, ih, decide_eq_true hd, Bool.true_and]
    · rw [if_neg hd, decide_eq_false hd, Bool.false_and, if_neg (by simp)]
theorem gB_eq (b f : Nat) (l : List UInt8) : gB b f l = if okD b l = true then f else 0 := by
  cases l with
  | nil => rfl
  | cons c l =>
    rw [gB, okD_cons]
    by_cases hd : dv c < b
    · rw [if_pos hd, gD_eq, decide_eq_true hd, Bool.true_and]
    · rw [if_neg hd, decide_eq_false hd, Bool.false_and, if_neg (by simp)]
/-- The power behind an e. -/
def pwE (r : List UInt8) : Option Int := if okD 10 (body r) = true then some (sgn (isNeg r) (val 10 (body r))) else none
/-- What stands behind the digits: the power of ten. -/
def pw : List UInt8 → Option Int
  | [] => some 0
  | c :: r => if c = 101 ∨ c = 69 then pwE r else none
theorem pw_cons (c : UInt8) (r : List UInt8) (h : ¬ (c = 101 ∨ c = 69)) : pw (c :: r) = none := by rw [pw, if_neg h]
theorem gE_eq (r : List UInt8) : gE r = if (pwE r).isSome = true then 4 else 0 := by
  have key : gE r = gB 10 4 (body r) := by
    cases r with
    | nil => rfl
    | cons c r =>
      rw [gE]
      by_cases h1 : c = 43
      · subst h1; rw [if_pos (Or.inl rfl), (body_43 r).2]
      · by_cases h2 : c = 45
        · subst h2; rw [if_pos (Or.inr rfl), (body_45 r).2]
        · rw [if_neg (fun k => k.elim h1 h2), (body_else r h1 h2).2]
  rw [key, gB_eq, pwE]
  by_cases ho : okD 10 (body r) = true
  · rw [if_pos ho, if_pos ho]; rfl
  · rw [if_neg ho, if_neg ho]; rfl
/-- A decimal digit. -/
def d10 (c : UInt8) : Bool := decide (dv c < 10)
/-- Digits ahead, and what is behind them. -/
def hd (l : List UInt8) : List UInt8 := l.takeWhile d10
def rs (l : List UInt8) : List UInt8 := l.dropWhile d10
theorem hd_rs (l : List UInt8) : hd l ++ rs l = l := List.takeWhile_append_dropWhile
theorem hd_yes {c : UInt8} (r : List UInt8) (h : dv c < 10) : hd (c :: r) = c :: hd r ∧ rs (c :: r) = rs r := by simp [hd, rs, d10, h]
theorem hd_no {c : UInt8} (r : List UInt8) (h : ¬ dv c < 10) : hd (c :: r) = [] ∧ rs (c :: r) = c :: r := by simp [hd, rs, d10, h]
theorem hd_nil : hd [] = [] ∧ rs [] = [] := ⟨rfl, rfl⟩
theorem hd_all (l : List UInt8) : allD 10 (hd l) = true := by
  induction l with
  | nil => rfl
  | cons c l ih =>
    by_cases h : dv c < 10
    · rw [(hd_yes l h).1, allD_cons, ih, decide_eq_true h]; rfl
    · rw [(hd_no l h).1]; rfl
theorem rs_head (l : List UInt8) : ∀ x r, rs l = x :: r → ¬ dv x < 10 := by
  induction l with
  | nil => intro x r h; cases h
  | cons c l ih =>
    intro x r h
    by_cases hc : dv c < 10
    · rw [(hd_yes l hc).2] at h; exact ih x r h
    · rw [(hd_no l hc).2] at h; injection h with h1 h2; subst h1; exact hc
theorem rs_nil {l : List UInt8} (h : rs l = []) : hd l = l := by have := hd_rs l; rw [h, List.append_nil] at this; exact this
theorem hd_app (A X : List UInt8) (hA : allD 10 A = true) (hX : ∀ x r, X = x :: r → ¬ dv x < 10) : hd (A ++ X) = A ∧ rs (A ++ X) = X := by
  induction A with
  | nil =>
    cases X with
    | nil => exact ⟨rfl, rfl⟩
    | cons x r => exact hd_no r (hX x r rfl)
  | cons c A ih =>
    rw [allD_cons, Bool.and_eq_true, decide_eq_true_eq] at hA
    rw [List.cons_append, (hd_yes _ hA.1).1, (hd_yes _ hA.1).2, (ih hA.2).1, (ih hA.2).2]
    exact ⟨rfl, rfl⟩
theorem gP_eq (l : List UInt8) : gP l = if (pw (rs l)).isSome = true then 4 else 0 := by
  induction l with
  | nil => rfl
  | cons c l ih =>
    rw [gP]
    by_cases h : dv c < 10
    · rw [if_pos h, ih, (hd_yes l h).2]
    · rw [if_neg h, (hd_no l h).2]
      by_cases he : c = 101 ∨ c = 69
      · rw [if_pos he, gE_eq, pw, if_pos he]
      · rw [if_neg he, pw_cons c l he]; rfl
theorem gG_eq (l : List UInt8) : gG l = if hd l = [] then 0 else gP l := by
  cases l with
  | nil => rfl
  | cons c l =>
    rw [gG]
    by_cases h : dv c < 10
    · rw [if_pos h, (hd_yes l h).1, if_neg (by simp), gP, if_pos h]
    · rw [if_neg h, (hd_no l h).1, if_pos rfl]
/-- Behind the point, if there is one: the digits; what is behind all digits; whether there is a point. -/
def fc (l : List UInt8) : List UInt8 := if (rs l).head? = some 46 then hd (rs l).tail else []
def ex (l : List UInt8) : List UInt8 := if (rs l).head? = some 46 then rs (rs l).tail else rs l
theorem gW_eq (l : List UInt8) : gW l = if rs l = [] then 3 else if (pw (ex l)).isSome = true then 4 else 0 := by
  induction l with
  | nil => rfl
  | cons c l ih =>
    rw [gW]
    by_cases h : dv c < 10
    · rw [if_pos h, ih, (hd_yes l h).2]
      unfold ex
      rw [(hd_yes l h).2]
    · rw [if_neg h, (hd_no l h).2, if_neg (show ¬ c :: l = [] by simp)]
      unfold ex
      rw [(hd_no l h).2]
      by_cases h46 : c = 46
      · subst h46
        rw [if_pos rfl, gP_eq]; rfl
      · have h46' : ¬ (c :: l).head? = some 46 := by simpa using h46
        rw [if_neg h46, if_neg h46']
        by_cases he : c = 101 ∨ c = 69
        · rw [if_pos he, gE_eq, pw, if_pos he]
        · rw [if_neg he, pw_cons c l he]; rfl
/-- A text without its sign: a whole number, a decimal, or neither. -/
theorem gl_eq (l : List UInt8) : gl l = if hd l ++ fc l = [] then 0 else if rs l = [] then 3 else if (pw (ex l)).isSome = true then 4 else 0 := by
  cases l with
  | nil => rfl
  | cons c l =>
    rw [gl]
    by_cases h46 : c = 46
    · subst h46
      have h := hd_no (c := 46) l (by rw [dv46]; omega)
      rw [if_pos rfl, gG_eq, h.1, h.2, List.nil_append]
      unfold fc ex
      rw [h.2, if_pos (show (46 :: l).head? = some 46 from rfl), if_pos (show (46 :: l).head? = some 46 from rfl), List.tail_cons, gP_eq]
      by_cases hn : hd l = []
      · rw [if_pos hn, if_pos hn]
      · rw [if_neg hn, if_neg hn, if_neg (show ¬ (46 : UInt8) :: l = [] by simp)]
    · rw [if_neg h46]
      by_cases h : dv c < 10
      · rw [if_pos h, (hd_yes l h).1, if_neg (by simp), gW_eq, (hd_yes l h).2]
        unfold ex
        rw [(hd_yes l h).2]
      · have h' := hd_no l h
        have h46' : ¬ (c :: l).head? = some 46 := by simpa using h46
        have hf : fc (c :: l) = [] := by unfold fc; rw [h'.2, if_neg h46']
        rw [if_neg h, h'.1, hf, if_pos (show ([] : List UInt8) ++ [] = [] from rfl)]
theorem gl_whole (l : List UInt8) : gl l = 3 ↔ okD 10 l = true := by
  rw [gl_eq, okD_iff]
  constructor
  · intro h
    by_cases h1 : hd l ++ fc l = []
    · rw [if_pos h1] at h; omega
    · rw [if_neg h1] at h
      by_cases h2 : rs l = []
      · have h3 := rs_nil h2
        have h4 := hd_all l
        rw [h3] at h4
        refine ⟨?_, h4⟩
        intro e
        subst e
        exact h1 rfl
      · rw [if_neg h2] at h
        split at h <;> omega
  · rintro ⟨h1, h2⟩
    have h3 := hd_app l [] h2 (by intro x r h; cases h)
    rw [List.append_nil] at h3
    rw [h3.1, h3.2, if_neg (fun k => h1 (List.append_eq_nil_iff.1 k).1), if_pos rfl]
/-- A decimal's text without its sign: digits ahead, a point with digits or none, what says the power. -/
structure Num (L W F Q X : List UInt8) (z : Int) : Prop where
  eq : L = Q ++ X
  q : Q = W ∧ F = [] ∨ Q = W ++ 46 :: F
  w : allD 10 W = true
  f : allD 10 F = true
  ne : W ++ F ≠ []
  pow : pw X = some z
theorem isNum {L : List UInt8} (h : gl L = 4) : ∃ Q z, Num L (hd L) (fc L) Q (ex L) z ∧ pw (ex L) = some z := by
  rw [gl_eq] at h
  by_cases h1 : hd L ++ fc L = []
  · rw [if_pos h1] at h; omega
  · rw [if_neg h1] at h
    by_cases h2 : rs L = []
    · rw [if_pos h2] at h; omega
    · rw [if_neg h2] at h
      cases hp : pw (ex L) with
      | none => rw [hp] at h; simp at h
      | some z =>
        have e := hd_rs L
        by_cases h46 : (rs L).head? = some 46
        · have ht : rs L = 46 :: (rs L).tail := by
            cases hr : rs L with
            | nil => exact absurd hr h2
            | cons x r => rw [hr] at h46; simp at h46; rw [h46]; rfl
          have e2 := hd_rs (rs L).tail
          have hf : fc L = hd (rs L).tail := by unfold fc; rw [if_pos h46]
          have hx : ex L = rs (rs L).tail := by unfold ex; rw [if_pos h46]
          refine ⟨hd L ++ 46 :: fc L, z, ⟨?_, Or.inr rfl, hd_all L, by rw [hf]; exact hd_all _, h1, hp⟩, rfl⟩
          rw [hf, hx]
          conv => lhs; rw [← e, ht, ← e2]
          simp
        · have hf : fc L = [] := by unfold fc; rw [if_neg h46]
          have hx : ex L = rs L := by unfold ex; rw [if_neg h46]
          refine ⟨hd L, z, ⟨by rw [hx, e], Or.inl ⟨rfl, hf⟩, hd_all L, by rw [hf]; rfl, h1, hp⟩, rfl⟩
theorem pw_head {X : List UInt8} {z : Int} (h : pw X = some z) : X = [] ∨ ∃ e r, X = e :: r ∧ (e = 101 ∨ e = 69) ∧ pwE r = some z := by
  cases X with
  | nil => exact Or.inl rfl
  | cons e r =>
    rw [pw] at h
    by_cases he : e = 101 ∨ e = 69
    · rw [if_pos he] at h; exact Or.inr ⟨e, r, rfl, he, h⟩
    · rw [if_neg he] at h; cases h
theorem pw_none_dig {X : List UInt8} {z : Int} (h : pw X = some z) : ∀ x r, X = x :: r → ¬ dv x < 10 := by
  intro x r e
  rcases pw_head h with rfl | ⟨e', r', rfl, he, _⟩
  · cases e
  · injection e with e1 e2
    subst e1
    rcases he with rfl | rfl
    · rw [dv101]; omega
    · rw [dv69]; omega
/-- Put together of its parts: with a point. -/
theorem num_dot (W F X : List UInt8) (z : Int) (hW : allD 10 W = true) (hF : allD 10 F = true) (hne : W ++ F ≠ []) (hX : pw X = some z) : gl (W ++ 46 :: (F ++ X)) = 4 ∧ hd (W ++ 46 :: (F ++ X)) = W ∧ fc (W ++ 46 :: (F ++ X)) = F ∧ ex (W ++ 46 :: (F ++ X)) = X := by
  have h1 := hd_app W (46 :: (F ++ X)) hW (by intro x r e; injection e with e1 e2; subst e1; rw [dv46]; omega)
  have h2 := hd_app F X hF (pw_none_dig hX)
  have h3 : fc (W ++ 46 :: (F ++ X)) = F := by unfold fc; rw [h1.2, if_pos (by rfl), List.tail_cons, h2.1]
  have h4 : ex (W ++ 46 :: (F ++ X)) = X := by unfold ex; rw [h1.2, if_pos (by rfl), List.tail_cons, h2.2]
  refine ⟨?_, h1.1, h3, h4⟩
  rw [gl_eq, h1.1, h3, h4, h1.2, if_neg hne, if_neg (by simp), hX]; rfl
/-- Put together of its parts: without a point, with a power. -/
theorem num_bare (W X : List UInt8) (z : Int) (hW : allD 10 W = true) (hne : W ≠ []) (hX : pw X = some z) (hXn : X ≠ []) : gl (W ++ X) = 4 ∧ hd (W ++ X) = W ∧ fc (W ++ X) = [] ∧ ex (W ++ X) = X := by
  have h1 := hd_app W X hW (pw_none_dig hX)
  have h46 : ¬ X.head? = some 46 := by
    rcases pw_head hX with rfl | ⟨e, r, rfl, he, _⟩
    · simp
    · rcases he with rfl | rfl <;> simp
  have h3 : fc (W ++ X) = [] := by unfold fc; rw [h1.2, if_neg h46]
  have h4 : ex (W ++ X) = X := by unfold ex; rw [h1.2, if_neg h46]
  refine ⟨?_, h1.1, h3, h4⟩
  rw [gl_eq, h1.1, h3, h4, h1.2, if_neg (by simpa using hne), if_neg hXn, hX]; rfl
/-- A base's mark ahead makes no decimal. -/
theorem gl_mark (c : UInt8) (r : List UInt8) (h : c = 111 ∨ c = 120) : gl (48 :: c :: r) = 0 := by
  rw [gl, if_neg (by decide), if_pos (by decide), gW]
  rcases h with rfl | rfl
  · rw [if_neg (by decide), if_neg (by decide), if_neg (by decide)]
  · rw [if_neg (by decide), if_neg (by decide), if_neg (by decide)]
theorem take2 {l : List UInt8} {a b : UInt8} (h : l.take 2 = [a, b]) : l = a :: b :: l.drop 2 := by
  match l, h with
  | [], h => simp at h
  | [x], h => simp at h
  | x :: y :: r, h => simp at h; obtain ⟨rfl, rfl⟩ := h; rfl
theorem gf_four (l : List UInt8) : gf l = 4 ↔ gl (body l) = 4 := by
  unfold gf
  by_cases h1 : l.take 2 = [48, 111]
  · rw [if_pos h1, gB_eq]
    rw [take2 h1, (body_else _ (by decide) (by decide)).2, gl_mark _ _ (Or.inl rfl)]
    split <;> omega
  · rw [if_neg h1]
    by_cases h2 : l.take 2 = [48, 120]
    · rw [if_pos h2, gB_eq]
      rw [take2 h2, (body_else _ (by decide) (by decide)).2, gl_mark _ _ (Or.inr rfl)]
      split <;> omega
    · rw [if_neg h2]
/-- The whole number that a text says. -/
def iv (l : List UInt8) : Option Int :=
  if l.take 2 = [48, 111] then (if okD 8 (l.drop 2) = true then some (val 8 (l.drop 2) : Nat) else none)
  else if l.take 2 = [48, 120] then (if okD 16 (l.drop 2) = true then some (val 16 (l.drop 2) : Nat) else none)
  else if okD 10 (body l) = true then some (sgn (isNeg l) (val 10 (body l))) else none
theorem iv_none_of_four {l : List UInt8} (h : gl (body l) = 4) : iv l = none := by
  unfold iv
  have h3 : ¬ okD 10 (body l) = true := fun k => by rw [(gl_whole _).2 k] at h; omega
  by_cases h1 : l.take 2 = [48, 111]
  · rw [take2 h1, (body_else _ (by decide) (by decide)).2, gl_mark _ _ (Or.inl rfl)] at h; omega
  · rw [if_neg h1]
    by_cases h2 : l.take 2 = [48, 120]
    · rw [take2 h2, (body_else _ (by decide) (by decide)).2, gl_mark _ _ (Or.inr rfl)] at h; omega
    · rw [if_neg h2, if_neg h3]
end M
end Go.Proofs.YtipgipgehnhgkaaGreatDoor

namespace Go.Proofs.YtipgipgehnhgkaaGreatDoor
open Go.RowKit

set_option maxRecDepth 100000 in
theorem nat_in (s : ByteArray) (i : Nat) (w : World) (h : i < s.size) (hs : s.size ≤ 1000000) :
    Calls Tryz.prog 159 #[.string s, .int .i64 i] w fun e w' => e = .returned (.int .i64 (s[i].toNat : Nat)) ∧ w = w' := by
  have hd : decide (i < s.size) = true := by simpa using h
  have hc : s[i].toNat < 256 := s[i].toNat_lt
  go_enter Tryz.func159, Tryz.ntmps159
  go_wp2
  go_ret
  exact ⟨ret_int (by first | rfl | (unfold wrap64; omega)), rfl⟩
set_option maxRecDepth 100000 in
theorem nat_out (s : ByteArray) (i : Nat) (w : World) (h : ¬ i < s.size) (hs : s.size ≤ 1000000) :
    Calls Tryz.prog 159 #[.string s, .int .i64 i] w fun e w' => e = .returned (.int .i64 (-1)) ∧ w = w' := by
  have hd : decide (i < s.size) = false := by simpa using h
  go_enter Tryz.func159, Tryz.ntmps159
  go_wp2
  go_ret
  exact ⟨rfl, rfl⟩
set_option maxRecDepth 100000 in
theorem ndig_end (b : Nat) (w : World) : Calls Tryz.prog 158 #[.int .i64 (-1), .int .i64 b] w fun e w' => e = .returned (.bool false) ∧ w = w' := by
  go_enter Tryz.func158, Tryz.ntmps158
  go_wp2
  go_ret
  exact ⟨rfl, rfl⟩
set_option maxRecDepth 100000 in
theorem ndig_any (c : UInt8) (b : Nat) (w : World) (hb : b ≤ 10 ∨ b = 16) : Calls Tryz.prog 158 #[.int .i64 (c.toNat : Nat), .int .i64 b] w fun e w' => e = .returned (.bool (decide (M.dv c < b))) ∧ w = w' := by
  have hc : c.toNat < 256 := c.toNat_lt
  unfold M.dv
  generalize c.toNat = n at *
  by_cases h1 : 48 ≤ n ∧ n ≤ 57
  · rw [if_pos h1]
    obtain ⟨m, rfl⟩ : ∃ m, n = 48 + m := ⟨n - 48, by omega⟩
    rw [Nat.add_sub_cancel_left]
    obtain ⟨_, h1⟩ := h1
    go_enter Tryz.func158, Tryz.ntmps158
    go_wp2
    all_goals (go_ret; refine ⟨ret_bool ?_, rfl⟩; simp; try omega)
  · rw [if_neg h1]
    by_cases h2 : 97 ≤ n ∧ n ≤ 102
    · rw [if_pos h2]
      have e : ((b : Int) == 16) = decide (n - 87 < b) := by
        rcases hb with h | h
        · rw [decide_eq_false (by omega)]; exact beq_eq_false_iff_ne.2 (by omega)
        · subst h; rw [decide_eq_true (by omega)]; rfl
      obtain ⟨h3, h4⟩ := h2
      go_enter Tryz.func158, Tryz.ntmps158
      go_wp2
      all_goals first | omega | (go_ret; exact ⟨rfl, rfl⟩)
    · rw [if_neg h2]
      by_cases h3 : 65 ≤ n ∧ n ≤ 70
      · rw [if_pos h3]
        have e : ((b : Int) == 16) = decide (n - 55 < b) := by
          rcases hb with h | h
          · rw [decide_eq_false (by omega)]; exact beq_eq_false_iff_ne.2 (by omega)
          · subst h; rw [decide_eq_true (by omega)]; rfl
        obtain ⟨h4, h5⟩ := h3
        go_enter Tryz.func158, Tryz.ntmps158
        go_wp2
        all_goals first | omega | (go_ret; exact ⟨rfl, rfl⟩)
      · rw [if_neg h3, decide_eq_false (by omega)]
        go_enter Tryz.func158, Tryz.ntmps158
        go_wp2
        all_goals first | omega | (go_ret; exact ⟨rfl, rfl⟩)
/-- What holds at afterBase's label. -/
def JB (s : ByteArray) (b f T : Nat) (w : World) (l : Nat) (a : Act) (w' : World) : Prop :=
  w = w' ∧ ∃ (i : Nat) (u3 u4 u5 u6 u8 u9 u10 u11 u12 u13 u14 u15 u16 u17 u18 u19 u20 u21 u22 u23 u24 u25 u26 u27 u28 : Value), a = { tmps := #[.string s, .int .i64 (b : Nat), .int .i64 (f : Nat), u3, u4, u5, u6, .int .i64 (i : Nat), u8, u9, u10, u11, u12, u13, u14, u15, u16, u17, u18, u19, u20, u21, u22, u23, u24, u25, u26, u27, u28], defers := [] } ∧ i ≤ s.size ∧ (l = 0 ∧ M.gD b f (s.data.toList.drop i) = T)
set_option maxRecDepth 1000000 in
set_option maxHeartbeats 4000000 in
theorem afterB_any (s : ByteArray) (b f : Nat) (w : World) (hs : s.size ≤ 1000) (h2 : 2 ≤ s.size) (hb : b ≤ 10 ∨ b = 16) :
    Calls Tryz.prog 109 #[.string s, .int .i64 (b : Nat), .int .i64 (f : Nat)] w fun e w' => e = .returned (.int .i64 (M.gB b f (s.data.toList.drop 2) : Nat)) ∧ w = w' := by
  obtain ⟨T, hT⟩ : ∃ T, M.gB b f (s.data.toList.drop 2) = T := ⟨_, rfl⟩
  rw [hT]
  go_enter Tryz.func109, Tryz.ntmps109
  go_wp2_with fail
  refine wp_scope_run (JB s b f T w) (fun _ a _ => 2000 - (intOf (a.tmps.getD 7 undef)).toNat) ?_ ?_
  · rintro l a w' ⟨rfl, i, u3, u4, u5, u6, u8, u9, u10, u11, u12, u13, u14, u15, u16, u17, u18, u19, u20, u21, u22, u23, u24, u25, u26, u27, u28, rfl, hi, rfl, h⟩
    refine ⟨_, rfl, ?_⟩
    by_cases hl : i < s.size
    · have c1 := fun W => nat_in s (i) W hl (by omega)
      rw [drop_cons s (i) hl, M.gD] at h
      have hc := s[i].toNat_lt
      have c2 := fun W => ndig_any s[i] b W hb
      have hm1 : ((s[i].toNat : Int) == -1) = false := beq_eq_false_iff_ne.2 (by omega)
      by_cases hd : M.dv s[i] < b
      · rw [if_pos hd] at h
        rw [decide_eq_true hd] at c2
        generalize s[i].toNat = n at *
        clear hd
        go_wp2_with fail
        refine (c1 _).mono ?_
        rintro r w' ⟨rfl, rfl⟩
        go_wp2_with fail
        refine (c2 _).mono ?_
        rintro r w' ⟨rfl, rfl⟩
        go_wp2
        go_step3
        refine ⟨⟨rfl, i + 1, _, _, _, _, _, _, _, _, _, _, _, _, _, _, _, _, _, _, _, _, _, _, _, _, _, rfl, by omega, ⟨rfl, h⟩⟩, ?_⟩
        simp [intOf]
        omega
      · rw [if_neg hd] at h
        rw [decide_eq_false hd] at c2
        generalize s[i].toNat = n at *
        clear hd
        subst h
        go_wp2_with fail
        refine (c1 _).mono ?_
        rintro r w' ⟨rfl, rfl⟩
        go_wp2_with fail
        refine (c2 _).mono ?_
        rintro r w' ⟨rfl, rfl⟩
        go_wp2
        simp only [Exit.jumps]
        go_ret
        exact ⟨rfl, rfl⟩
    · have c1 := fun W => nat_out s (i) W hl (by omega)
      have c2 := fun W => ndig_end b W
      rw [List.drop_of_length_le (by rw [← sz_list]; omega), M.gD] at h
      subst h
      go_wp2_with fail
      refine (c1 _).mono ?_
      rintro r w' ⟨rfl, rfl⟩
      go_wp2_with fail
      refine (c2 _).mono ?_
      rintro r w' ⟨rfl, rfl⟩
      go_wp2
      simp only [Exit.jumps]
      go_ret
      exact ⟨rfl, rfl⟩
  · intro hp
    by_cases hl : 2 < s.size
    · have c1 := fun W => nat_in s 2 W hl (by omega)
      rw [drop_cons s 2 hl, M.gB] at hT
      have hc := s[2].toNat_lt
      have c2 := fun W => ndig_any s[2] b W hb
      by_cases hd : M.dv s[2] < b
      · rw [if_pos hd] at hT
        rw [decide_eq_true hd] at c2
        generalize s[2].toNat = n at *
        clear hd
        go_wp2_with fail
        refine (c1 _).mono ?_
        rintro r w' ⟨rfl, rfl⟩
        go_wp2_with fail
        refine (c2 _).mono ?_
        rintro r w' ⟨rfl, rfl⟩
        go_wp2
        go_step3
        exact ⟨rfl, 3, _, _, _, _, _, _, _, _, _, _, _, _, _, _, _, _, _, _, _, _, _, _, _, _, _, rfl, by omega, ⟨rfl, hT⟩⟩
      · rw [if_neg hd] at hT
        rw [decide_eq_false hd] at c2
        generalize s[2].toNat = n at *
        clear hd
        subst hT
        go_wp2_with fail
        refine (c1 _).mono ?_
        rintro r w' ⟨rfl, rfl⟩
        go_wp2_with fail
        refine (c2 _).mono ?_
        rintro r w' ⟨rfl, rfl⟩
        go_wp2
        simp only [Exit.jumps]
        go_ret
        exact ⟨rfl, rfl⟩
    · have c1 := fun W => nat_out s 2 W hl (by omega)
      have c2 := fun W => ndig_end b W
      rw [List.drop_of_length_le (by rw [← sz_list]; omega), M.gB] at hT
      subst hT
      go_wp2_with fail
      refine (c1 _).mono ?_
      rintro r w' ⟨rfl, rfl⟩
      go_wp2_with fail
      refine (c2 _).mono ?_
      rintro r w' ⟨rfl, rfl⟩
      go_wp2
      simp only [Exit.jumps]
      go_ret
      exact ⟨rfl, rfl⟩
end Go.Proofs.YtipgipgehnhgkaaGreatDoor

namespace Go.Proofs.YtipgipgehnhgkaaGreatDoor
open Go.RowKit

theorem ten_ok : (10 : Nat) ≤ 10 ∨ (10 : Nat) = 16 := Or.inl (by omega)
/-- What holds at afterE's label. -/
def JF (s : ByteArray) (T : Nat) (w : World) (l : Nat) (a : Act) (w' : World) : Prop :=
  w = w' ∧ ∃ (i : Nat) (u2 u3 u4 u5 u6 u7 u8 u9 u10 u11 u12 u13 u14 u15 u16 u17 u18 u19 u20 u21 u22 u23 u24 u25 u26 u27 u28 u29 u30 : Value), a = { tmps := #[.string s, .int .i64 (i : Nat), u2, u3, u4, u5, u6, u7, u8, u9, u10, u11, u12, u13, u14, u15, u16, u17, u18, u19, u20, u21, u22, u23, u24, u25, u26, u27, u28, u29, u30], defers := [] } ∧ i ≤ s.size ∧ (l = 0 ∧ M.gD 10 4 (s.data.toList.drop i) = T)
set_option maxRecDepth 1000000 in
set_option maxHeartbeats 4000000 in
theorem nafterE_any (s : ByteArray) (i0 : Nat) (w : World) (hs : s.size ≤ 1000) (hi0 : i0 ≤ s.size) :
    Calls Tryz.prog 160 #[.string s, .int .i64 (i0 : Nat)] w fun e w' => e = .returned (.int .i64 (M.gE (s.data.toList.drop i0) : Nat)) ∧ w = w' := by
  obtain ⟨T, hT⟩ : ∃ T, M.gE (s.data.toList.drop i0) = T := ⟨_, rfl⟩
  rw [hT]
  go_enter Tryz.func160, Tryz.ntmps160
  go_wp2_with fail
  refine wp_scope_run (JF s T w) (fun _ a _ => 2000 - (intOf (a.tmps.getD 1 undef)).toNat) ?_ ?_
  · rintro l a w' ⟨rfl, i, u2, u3, u4, u5, u6, u7, u8, u9, u10, u11, u12, u13, u14, u15, u16, u17, u18, u19, u20, u21, u22, u23, u24, u25, u26, u27, u28, u29, u30, rfl, hi, rfl, h⟩
    refine ⟨_, rfl, ?_⟩
    by_cases hl : i < s.size
    · have c1 := fun W => nat_in s (i) W hl (by omega)
      rw [drop_cons s (i) hl, M.gD] at h
      have hc := s[i].toNat_lt
      have c2 := fun W => ndig_any s[i] 10 W ten_ok
      have hm1 : ((s[i].toNat : Int) == -1) = false := beq_eq_false_iff_ne.2 (by omega)
      by_cases hd : M.dv s[i] < 10
      · rw [if_pos hd] at h
        rw [decide_eq_true hd] at c2
        generalize s[i].toNat = n at *
        clear hd
        go_wp2_with fail
        refine (c1 _).mono ?_
        rintro r w' ⟨rfl, rfl⟩
        go_wp2_with fail
        refine (c2 _).mono ?_
        rintro r w' ⟨rfl, rfl⟩
        go_wp2
        go_step3
        refine ⟨⟨rfl, i + 1, _, _, _, _, _, _, _, _, _, _, _, _, _, _, _, _, _, _, _, _, _, _, _, _, _, _, _, _, _, rfl, by omega, ⟨rfl, h⟩⟩, ?_⟩
        simp [intOf]
        omega
      · rw [if_neg hd] at h
        rw [decide_eq_false hd] at c2
        generalize s[i].toNat = n at *
        clear hd
        subst h
        go_wp2_with fail
        refine (c1 _).mono ?_
        rintro r w' ⟨rfl, rfl⟩
        go_wp2_with fail
        refine (c2 _).mono ?_
        rintro r w' ⟨rfl, rfl⟩
        go_wp2
        simp only [Exit.jumps]
        go_ret
        exact ⟨rfl, rfl⟩
    · have c1 := fun W => nat_out s (i) W hl (by omega)
      have c2 := fun W => ndig_end 10 W
      rw [List.drop_of_length_le (by rw [← sz_list]; omega), M.gD] at h
      subst h
      go_wp2_with fail
      refine (c1 _).mono ?_
      rintro r w' ⟨rfl, rfl⟩
      go_wp2_with fail
      refine (c2 _).mono ?_
      rintro r w' ⟨rfl, rfl⟩
      go_wp2
      simp only [Exit.jumps]
      go_ret
      exact ⟨rfl, rfl⟩
  · intro hp
    by_cases hl : i0 < s.size
    · have c1 := fun W => nat_in s i0 W hl (by omega)
      rw [drop_cons s i0 hl, M.gE] at hT
      have hc := s[i0].toNat_lt
      by_cases h43 : s[i0] = 43
      · rw [if_pos (Or.inl h43)] at hT
        rw [h43] at c1
        clear hc h43
        by_cases hl2 : i0 + 1 < s.size
        · have c3 := fun W => nat_in s (i0 + 1) W hl2 (by omega)
          rw [drop_cons s (i0 + 1) hl2, M.gB] at hT
          have hc2 := s[i0 + 1].toNat_lt
          have c4 := fun W => ndig_any s[i0 + 1] 10 W ten_ok
          by_cases hd : M.dv s[i0 + 1] < 10
          · rw [if_pos hd] at hT
            rw [decide_eq_true hd] at c4
            generalize s[i0 + 1].toNat = n at *
            clear hd
            go_wp2_with fail
            refine (c1 _).mono ?_
            rintro r w' ⟨rfl, rfl⟩
            go_wp2_with fail
            refine (c3 _).mono ?_
            rintro r w' ⟨rfl, rfl⟩
            go_wp2_with fail
            refine (c4 _).mono ?_
            rintro r w' ⟨rfl, rfl⟩
            go_wp2
            go_step3
            exact ⟨rfl, i0 + 1 + 1, _, _, _, _, _, _, _, _, _, _, _, _, _, _, _, _, _, _, _, _, _, _, _, _, _, _, _, _, _, rfl, by omega, ⟨rfl, hT⟩⟩
          · rw [if_neg hd] at hT
            rw [decide_eq_false hd] at c4
            generalize s[i0 + 1].toNat = n at *
            clear hd
            subst hT
            go_wp2_with fail
            refine (c1 _).mono ?_
            rintro r w' ⟨rfl, rfl⟩
            go_wp2_with fail
            refine (c3 _).mono ?_
            rintro r w' ⟨rfl, rfl⟩
            go_wp2_with fail
            refine (c4 _).mono ?_
            rintro r w' ⟨rfl, rfl⟩
            go_wp2
            simp only [Exit.jumps]
            go_ret
            exact ⟨rfl, rfl⟩
        · have c3 := fun W => nat_out s (i0 + 1) W hl2 (by omega)
          have c4 := fun W => ndig_end 10 W
          rw [List.drop_of_length_le (by rw [← sz_list]; omega), M.gB] at hT
          subst hT
          go_wp2_with fail
          refine (c1 _).mono ?_
          rintro r w' ⟨rfl, rfl⟩
          go_wp2_with fail
          refine (c3 _).mono ?_
          rintro r w' ⟨rfl, rfl⟩
          go_wp2_with fail
          refine (c4 _).mono ?_
          rintro r w' ⟨rfl, rfl⟩
          go_wp2
          simp only [Exit.jumps]
          go_ret
          exact ⟨rfl, rfl⟩
      · by_cases h45 : s[i0] = 45
        · rw [if_pos (Or.inr h45)] at hT
          rw [h45] at c1
          clear hc h43 h45
          by_cases hl2 : i0 + 1 < s.size
          · have c3 := fun W => nat_in s (i0 + 1) W hl2 (by omega)
            rw [drop_cons s (i0 + 1) hl2, M.gB] at hT
            have hc2 := s[i0 + 1].toNat_lt
            have c4 := fun W => ndig_any s[i0 + 1] 10 W ten_ok
            by_cases hd : M.dv s[i0 + 1] < 10
            · rw [if_pos hd] at hT
              rw [decide_eq_true hd] at c4
              generalize s[i0 + 1].toNat = n at *
              clear hd
              go_wp2_with fail
              refine (c1 _).mono ?_
              rintro r w' ⟨rfl, rfl⟩
              go_wp2_with fail
              refine (c3 _).mono ?_
              rintro r w' ⟨rfl, rfl⟩
              go_wp2_with fail
              refine (c4 _).mono ?_
              rintro r w' ⟨rfl, rfl⟩
              go_wp2
              go_step3
              exact ⟨rfl, i0 + 1 + 1, _, _, _, _, _, _, _, _, _, _, _, _, _, _, _, _, _, _, _, _, _, _, _, _, _, _, _, _, _, rfl, by omega, ⟨rfl, hT⟩⟩
            · rw [if_neg hd] at hT
              rw [decide_eq_false hd] at c4
              generalize s[i0 + 1].toNat = n at *
              clear hd
              subst hT
              go_wp2_with fail
              refine (c1 _).mono ?_
              rintro r w' ⟨rfl, rfl⟩
              go_wp2_with fail
              refine (c3 _).mono ?_
              rintro r w' ⟨rfl, rfl⟩
              go_wp2_with fail
              refine (c4 _).mono ?_
              rintro r w' ⟨rfl, rfl⟩
              go_wp2
              simp only [Exit.jumps]
              go_ret
              exact ⟨rfl, rfl⟩
          · have c3 := fun W => nat_out s (i0 + 1) W hl2 (by omega)
            have c4 := fun W => ndig_end 10 W
            rw [List.drop_of_length_le (by rw [← sz_list]; omega), M.gB] at hT
            subst hT
            go_wp2_with fail
            refine (c1 _).mono ?_
            rintro r w' ⟨rfl, rfl⟩
            go_wp2_with fail
            refine (c3 _).mono ?_
            rintro r w' ⟨rfl, rfl⟩
            go_wp2_with fail
            refine (c4 _).mono ?_
            rintro r w' ⟨rfl, rfl⟩
            go_wp2
            simp only [Exit.jumps]
            go_ret
            exact ⟨rfl, rfl⟩
        · rw [if_neg (fun k => k.elim h43 h45), M.gB] at hT
          have hx43 : ((s[i0].toNat : Int) == 43) = false := neC (k := 43) (by omega) h43
          have hx45 : ((s[i0].toNat : Int) == 45) = false := neC (k := 45) (by omega) h45
          have c4 := fun W => ndig_any s[i0] 10 W ten_ok
          by_cases hd : M.dv s[i0] < 10
          · rw [if_pos hd] at hT
            rw [decide_eq_true hd] at c4
            generalize s[i0].toNat = n at *
            clear hd h43 h45
            go_wp2_with fail
            refine (c1 _).mono ?_
            rintro r w' ⟨rfl, rfl⟩
            go_wp2_with fail
            refine (c1 _).mono ?_
            rintro r w' ⟨rfl, rfl⟩
            go_wp2_with fail
            refine (c4 _).mono ?_
            rintro r w' ⟨rfl, rfl⟩
            go_wp2
            go_step3
            exact ⟨rfl, i0 + 1, _, _, _, _, _, _, _, _, _, _, _, _, _, _, _, _, _, _, _, _, _, _, _, _, _, _, _, _, _, rfl, by omega, ⟨rfl, hT⟩⟩
          · rw [if_neg hd] at hT
            rw [decide_eq_false hd] at c4
            generalize s[i0].toNat = n at *
            clear hd h43 h45
            subst hT
            go_wp2_with fail
            refine (c1 _).mono ?_
            rintro r w' ⟨rfl, rfl⟩
            go_wp2_with fail
            refine (c1 _).mono ?_
            rintro r w' ⟨rfl, rfl⟩
            go_wp2_with fail
            refine (c4 _).mono ?_
            rintro r w' ⟨rfl, rfl⟩
            go_wp2
            simp only [Exit.jumps]
            go_ret
            exact ⟨rfl, rfl⟩
    · have c1 := fun W => nat_out s i0 W hl (by omega)
      have c4 := fun W => ndig_end 10 W
      rw [List.drop_of_length_le (by rw [← sz_list]; omega), M.gE] at hT
      subst hT
      go_wp2_with fail
      refine (c1 _).mono ?_
      rintro r w' ⟨rfl, rfl⟩
      go_wp2_with fail
      refine (c1 _).mono ?_
      rintro r w' ⟨rfl, rfl⟩
      go_wp2_with fail
      refine (c4 _).mono ?_
      rintro r w' ⟨rfl, rfl⟩
      go_wp2
      simp only [Exit.jumps]
      go_ret
      exact ⟨rfl, rfl⟩
end Go.Proofs.YtipgipgehnhgkaaGreatDoor

namespace Go.Proofs.YtipgipgehnhgkaaGreatDoor
open Go.RowKit

/-- What holds at ofDigits' labels. -/
def JG (s : ByteArray) (T : Nat) (w : World) (l : Nat) (a : Act) (w' : World) : Prop :=
  w = w' ∧ ∃ (i : Nat) (u1 u2 u4 u5 u6 u7 u8 u9 u10 u11 u12 u13 u14 u15 u16 u17 u18 u19 u20 u21 u22 u23 u24 u25 u26 u27 u28 u29 u30 u31 u32 u33 u34 u35 u36 u37 u38 u39 u40 u41 u42 u43 u44 u45 u46 u47 u48 u49 u50 u51 u52 u53 u54 u55 u56 u57 u58 u59 u60 u61 u62 u63 u64 u65 u66 u67 u68 u69 u70 u71 u72 u73 u74 : Value), a = { tmps := #[.string s, u1, u2, .int .i64 (i : Nat), u4, u5, u6, u7, u8, u9, u10, u11, u12, u13, u14, u15, u16, u17, u18, u19, u20, u21, u22, u23, u24, u25, u26, u27, u28, u29, u30, u31, u32, u33, u34, u35, u36, u37, u38, u39, u40, u41, u42, u43, u44, u45, u46, u47, u48, u49, u50, u51, u52, u53, u54, u55, u56, u57, u58, u59, u60, u61, u62, u63, u64, u65, u66, u67, u68, u69, u70, u71, u72, u73, u74], defers := [] } ∧ i ≤ s.size ∧ ((l = 0 ∧ M.gG (s.data.toList.drop i) = T) ∨ (l = 1 ∧ M.gW (s.data.toList.drop i) = T) ∨ (l = 2 ∧ M.gP (s.data.toList.drop i) = T))
set_option maxRecDepth 1000000 in
set_option maxHeartbeats 8000000 in
theorem nofD_any (s : ByteArray) (w : World) (hs : s.size ≤ 1000) :
    Calls Tryz.prog 110 #[.string s] w fun e w' => e = .returned (.int .i64 (M.gl s.data.toList : Nat)) ∧ w = w' := by
  obtain ⟨T, hT⟩ : ∃ T, M.gl s.data.toList = T := ⟨_, rfl⟩
  rw [hT]
  go_enter Tryz.func110, Tryz.ntmps110
  go_wp2_with fail
  refine wp_scope_run (JG s T w) (fun _ a _ => 2000 - (intOf (a.tmps.getD 3 undef)).toNat) ?_ ?_
  · rintro l a w' ⟨rfl, i, u1, u2, u4, u5, u6, u7, u8, u9, u10, u11, u12, u13, u14, u15, u16, u17, u18, u19, u20, u21, u22, u23, u24, u25, u26, u27, u28, u29, u30, u31, u32, u33, u34, u35, u36, u37, u38, u39, u40, u41, u42, u43, u44, u45, u46, u47, u48, u49, u50, u51, u52, u53, u54, u55, u56, u57, u58, u59, u60, u61, u62, u63, u64, u65, u66, u67, u68, u69, u70, u71, u72, u73, u74, rfl, hi, h⟩
    rcases h with ⟨rfl, h⟩ | ⟨rfl, h⟩ | ⟨rfl, h⟩
    · refine ⟨_, rfl, ?_⟩
      by_cases hl : i < s.size
      · have c1 := fun W => nat_in s i W hl (by omega)
        rw [drop_cons s i hl, M.gG] at h
        have hc := s[i].toNat_lt
        have c2 := fun W => ndig_any s[i] 10 W ten_ok
        by_cases hd : M.dv s[i] < 10
        · rw [if_pos hd] at h
          rw [decide_eq_true hd] at c2
          generalize s[i].toNat = n at *
          clear hd
          go_wp2_with fail
          refine (c1 _).mono ?_
          rintro r w' ⟨rfl, rfl⟩
          go_wp2_with fail
          refine (c2 _).mono ?_
          rintro r w' ⟨rfl, rfl⟩
          go_wp2
          go_step3
          refine ⟨⟨rfl, i + 1, _, _, _, _, _, _, _, _, _, _, _, _, _, _, _, _, _, _, _, _, _, _, _, _, _, _, _, _, _, _, _, _, _, _, _, _, _, _, _, _, _, _, _, _, _, _, _, _, _, _, _, _, _, _, _, _, _, _, _, _, _, _, _, _, _, _, _, _, _, _, _, _, _, rfl, by omega, Or.inr (Or.inr ⟨rfl, h⟩)⟩, ?_⟩
          simp [intOf]
          omega
        · rw [if_neg hd] at h
          rw [decide_eq_false hd] at c2
          generalize s[i].toNat = n at *
          clear hd
          subst h
          go_wp2_with fail
          refine (c1 _).mono ?_
          rintro r w' ⟨rfl, rfl⟩
          go_wp2_with fail
          refine (c2 _).mono ?_
          rintro r w' ⟨rfl, rfl⟩
          go_wp2
          simp only [Exit.jumps]
          go_ret
          exact ⟨rfl, rfl⟩
      · have c1 := fun W => nat_out s i W hl (by omega)
        have c2 := fun W => ndig_end 10 W
        rw [List.drop_of_length_le (by rw [← sz_list]; omega), M.gG] at h
        subst h
        go_wp2_with fail
        refine (c1 _).mono ?_
        rintro r w' ⟨rfl, rfl⟩
        go_wp2_with fail
        refine (c2 _).mono ?_
        rintro r w' ⟨rfl, rfl⟩
        go_wp2
        simp only [Exit.jumps]
        go_ret
        exact ⟨rfl, rfl⟩
    · refine ⟨_, rfl, ?_⟩
      by_cases hl : i < s.size
      · have c1 := fun W => nat_in s i W hl (by omega)
        rw [drop_cons s i hl, M.gW] at h
        have hc := s[i].toNat_lt
        have c2 := fun W => ndig_any s[i] 10 W ten_ok
        by_cases hd : M.dv s[i] < 10
        · rw [if_pos hd] at h
          rw [decide_eq_true hd] at c2
          generalize s[i].toNat = n at *
          clear hd
          go_wp2_with fail
          refine (c1 _).mono ?_
          rintro r w' ⟨rfl, rfl⟩
          go_wp2_with fail
          refine (c2 _).mono ?_
          rintro r w' ⟨rfl, rfl⟩
          go_wp2
          go_step3
          refine ⟨⟨rfl, i + 1, _, _, _, _, _, _, _, _, _, _, _, _, _, _, _, _, _, _, _, _, _, _, _, _, _, _, _, _, _, _, _, _, _, _, _, _, _, _, _, _, _, _, _, _, _, _, _, _, _, _, _, _, _, _, _, _, _, _, _, _, _, _, _, _, _, _, _, _, _, _, _, _, _, rfl, by omega, Or.inr (Or.inl ⟨rfl, h⟩)⟩, ?_⟩
          simp [intOf]
          omega
        · rw [if_neg hd] at h
          rw [decide_eq_false hd] at c2
          by_cases h46 : s[i] = 46
          · rw [if_pos h46] at h
            rw [h46] at c1 c2
            clear hc hd h46
            go_wp2_with fail
            refine (c1 _).mono ?_
            rintro r w' ⟨rfl, rfl⟩
            go_wp2_with fail
            refine (c2 _).mono ?_
            rintro r w' ⟨rfl, rfl⟩
            go_wp2
            go_step3
            refine ⟨⟨rfl, i + 1, _, _, _, _, _, _, _, _, _, _, _, _, _, _, _, _, _, _, _, _, _, _, _, _, _, _, _, _, _, _, _, _, _, _, _, _, _, _, _, _, _, _, _, _, _, _, _, _, _, _, _, _, _, _, _, _, _, _, _, _, _, _, _, _, _, _, _, _, _, _, _, _, _, rfl, by omega, Or.inr (Or.inr ⟨rfl, h⟩)⟩, ?_⟩
            simp [intOf]
            omega
          · rw [if_neg h46] at h
            by_cases h101 : s[i] = 101
            · skip
              rw [if_pos (Or.inl h101)] at h
              have c3 := fun W => nafterE_any s (i + 1) W hs (by omega)
              rw [h, show ((i + 1 : Nat) : Int) = (i : Int) + 1 by omega] at c3
              rw [h101] at c1 c2
              clear hc hd h46 h101 h
              go_wp2_with fail
              refine (c1 _).mono ?_
              rintro r w' ⟨rfl, rfl⟩
              go_wp2_with fail
              refine (c2 _).mono ?_
              rintro r w' ⟨rfl, rfl⟩
              go_wp2_with fail
              refine (c3 _).mono ?_
              rintro r w' ⟨rfl, rfl⟩
              go_wp2
              simp only [Exit.jumps]
              go_ret
              exact ⟨rfl, rfl⟩
            · by_cases h69 : s[i] = 69
              · skip
                rw [if_pos (Or.inr h69)] at h
                have c3 := fun W => nafterE_any s (i + 1) W hs (by omega)
                rw [h, show ((i + 1 : Nat) : Int) = (i : Int) + 1 by omega] at c3
                rw [h69] at c1 c2
                clear hc hd h46 h101 h69 h
                go_wp2_with fail
                refine (c1 _).mono ?_
                rintro r w' ⟨rfl, rfl⟩
                go_wp2_with fail
                refine (c2 _).mono ?_
                rintro r w' ⟨rfl, rfl⟩
                go_wp2_with fail
                refine (c3 _).mono ?_
                rintro r w' ⟨rfl, rfl⟩
                go_wp2
                simp only [Exit.jumps]
                go_ret
                exact ⟨rfl, rfl⟩
              · rw [if_neg (fun k => k.elim h101 h69)] at h
                have hx46 : ((s[i].toNat : Int) == 46) = false := neC (k := 46) (by omega) h46
                have hx101 : ((s[i].toNat : Int) == 101) = false := neC (k := 101) (by omega) h101
                have hx69 : ((s[i].toNat : Int) == 69) = false := neC (k := 69) (by omega) h69
                have hm1 : ((s[i].toNat : Int) == -1) = false := beq_eq_false_iff_ne.2 (by omega)
                generalize s[i].toNat = n at *
                clear hd h46 h101 h69
                subst h
                go_wp2_with fail
                refine (c1 _).mono ?_
                rintro r w' ⟨rfl, rfl⟩
                go_wp2_with fail
                refine (c2 _).mono ?_
                rintro r w' ⟨rfl, rfl⟩
                go_wp2
                simp only [Exit.jumps]
                go_ret
                exact ⟨rfl, rfl⟩
      · have c1 := fun W => nat_out s i W hl (by omega)
        have c2 := fun W => ndig_end 10 W
        rw [List.drop_of_length_le (by rw [← sz_list]; omega), M.gW] at h
        subst h
        go_wp2_with fail
        refine (c1 _).mono ?_
        rintro r w' ⟨rfl, rfl⟩
        go_wp2_with fail
        refine (c2 _).mono ?_
        rintro r w' ⟨rfl, rfl⟩
        go_wp2
        simp only [Exit.jumps]
        go_ret
        exact ⟨rfl, rfl⟩
    · refine ⟨_, rfl, ?_⟩
      by_cases hl : i < s.size
      · have c1 := fun W => nat_in s i W hl (by omega)
        rw [drop_cons s i hl, M.gP] at h
        have hc := s[i].toNat_lt
        have c2 := fun W => ndig_any s[i] 10 W ten_ok
        by_cases hd : M.dv s[i] < 10
        · rw [if_pos hd] at h
          rw [decide_eq_true hd] at c2
          generalize s[i].toNat = n at *
          clear hd
          go_wp2_with fail
          refine (c1 _).mono ?_
          rintro r w' ⟨rfl, rfl⟩
          go_wp2_with fail
          refine (c2 _).mono ?_
          rintro r w' ⟨rfl, rfl⟩
          go_wp2
          go_step3
          refine ⟨⟨rfl, i + 1, _, _, _, _, _, _, _, _, _, _, _, _, _, _, _, _, _, _, _, _, _, _, _, _, _, _, _, _, _, _, _, _, _, _, _, _, _, _, _, _, _, _, _, _, _, _, _, _, _, _, _, _, _, _, _, _, _, _, _, _, _, _, _, _, _, _, _, _, _, _, _, _, _, rfl, by omega, Or.inr (Or.inr ⟨rfl, h⟩)⟩, ?_⟩
          simp [intOf]
          omega
        · rw [if_neg hd] at h
          rw [decide_eq_false hd] at c2
          by_cases h101 : s[i] = 101
          · skip
            rw [if_pos (Or.inl h101)] at h
            have c3 := fun W => nafterE_any s (i + 1) W hs (by omega)
            rw [h, show ((i + 1 : Nat) : Int) = (i : Int) + 1 by omega] at c3
            rw [h101] at c1 c2
            clear hc hd h101 h
            go_wp2_with fail
            refine (c1 _).mono ?_
            rintro r w' ⟨rfl, rfl⟩
            go_wp2_with fail
            refine (c2 _).mono ?_
            rintro r w' ⟨rfl, rfl⟩
            go_wp2_with fail
            refine (c3 _).mono ?_
            rintro r w' ⟨rfl, rfl⟩
            go_wp2
            simp only [Exit.jumps]
            go_ret
            exact ⟨rfl, rfl⟩
          · by_cases h69 : s[i] = 69
            · skip
              rw [if_pos (Or.inr h69)] at h
              have c3 := fun W => nafterE_any s (i + 1) W hs (by omega)
              rw [h, show ((i + 1 : Nat) : Int) = (i : Int) + 1 by omega] at c3
              rw [h69] at c1 c2
              clear hc hd h101 h69 h
              go_wp2_with fail
              refine (c1 _).mono ?_
              rintro r w' ⟨rfl, rfl⟩
              go_wp2_with fail
              refine (c2 _).mono ?_
              rintro r w' ⟨rfl, rfl⟩
              go_wp2_with fail
              refine (c3 _).mono ?_
              rintro r w' ⟨rfl, rfl⟩
              go_wp2
              simp only [Exit.jumps]
              go_ret
              exact ⟨rfl, rfl⟩
            · rw [if_neg (fun k => k.elim h101 h69)] at h
              have hx101 : ((s[i].toNat : Int) == 101) = false := neC (k := 101) (by omega) h101
              have hx69 : ((s[i].toNat : Int) == 69) = false := neC (k := 69) (by omega) h69
              have hm1 : ((s[i].toNat : Int) == -1) = false := beq_eq_false_iff_ne.2 (by omega)
              generalize s[i].toNat = n at *
              clear hd h101 h69
              subst h
              go_wp2_with fail
              refine (c1 _).mono ?_
              rintro r w' ⟨rfl, rfl⟩
              go_wp2_with fail
              refine (c2 _).mono ?_
              rintro r w' ⟨rfl, rfl⟩
              go_wp2
              simp only [Exit.jumps]
              go_ret
              exact ⟨rfl, rfl⟩
      · have c1 := fun W => nat_out s i W hl (by omega)
        have c2 := fun W => ndig_end 10 W
        rw [List.drop_of_length_le (by rw [← sz_list]; omega), M.gP] at h
        subst h
        go_wp2_with fail
        refine (c1 _).mono ?_
        rintro r w' ⟨rfl, rfl⟩
        go_wp2_with fail
        refine (c2 _).mono ?_
        rintro r w' ⟨rfl, rfl⟩
        go_wp2
        simp only [Exit.jumps]
        go_ret
        exact ⟨rfl, rfl⟩
  · intro hp
    by_cases hl : 0 < s.size
    · have c1 := fun W => nat_in s 0 W hl (by omega)
      have hh := drop_cons s 0 hl
      rw [List.drop_zero] at hh
      rw [hh, M.gl] at hT
      clear hh
      have hc := s[0].toNat_lt
      by_cases h46 : s[0] = 46
      · rw [if_pos h46] at hT
        rw [h46] at c1
        clear hc h46
        go_wp2_with fail
        refine (c1 _).mono ?_
        rintro r w' ⟨rfl, rfl⟩
        go_wp2
        go_step3
        exact ⟨rfl, 1, _, _, _, _, _, _, _, _, _, _, _, _, _, _, _, _, _, _, _, _, _, _, _, _, _, _, _, _, _, _, _, _, _, _, _, _, _, _, _, _, _, _, _, _, _, _, _, _, _, _, _, _, _, _, _, _, _, _, _, _, _, _, _, _, _, _, _, _, _, _, _, _, _, rfl, by omega, Or.inl ⟨rfl, hT⟩⟩
      · have c2 := fun W => ndig_any s[0] 10 W ten_ok
        have hx46 : ((s[0].toNat : Int) == 46) = false := neC (k := 46) (by omega) h46
        by_cases hd : M.dv s[0] < 10
        · rw [if_neg h46, if_pos hd] at hT
          rw [decide_eq_true hd] at c2
          generalize s[0].toNat = n at *
          clear hd h46
          go_wp2_with fail
          refine (c1 _).mono ?_
          rintro r w' ⟨rfl, rfl⟩
          go_wp2_with fail
          refine (c2 _).mono ?_
          rintro r w' ⟨rfl, rfl⟩
          go_wp2
          go_step3
          exact ⟨rfl, 1, _, _, _, _, _, _, _, _, _, _, _, _, _, _, _, _, _, _, _, _, _, _, _, _, _, _, _, _, _, _, _, _, _, _, _, _, _, _, _, _, _, _, _, _, _, _, _, _, _, _, _, _, _, _, _, _, _, _, _, _, _, _, _, _, _, _, _, _, _, _, _, _, _, rfl, by omega, Or.inr (Or.inl ⟨rfl, hT⟩)⟩
        · rw [if_neg h46, if_neg hd] at hT
          rw [decide_eq_false hd] at c2
          generalize s[0].toNat = n at *
          clear hd h46
          subst hT
          go_wp2_with fail
          refine (c1 _).mono ?_
          rintro r w' ⟨rfl, rfl⟩
          go_wp2_with fail
          refine (c2 _).mono ?_
          rintro r w' ⟨rfl, rfl⟩
          go_wp2
          simp only [Exit.jumps]
          go_ret
          exact ⟨rfl, rfl⟩
    · have c1 := fun W => nat_out s 0 W hl (by omega)
      have c2 := fun W => ndig_end 10 W
      have hz : s.data.toList = [] := List.eq_nil_of_length_eq_zero (by rw [← sz_list]; omega)
      rw [hz, M.gl] at hT
      clear hz
      subst hT
      go_wp2_with fail
      refine (c1 _).mono ?_
      rintro r w' ⟨rfl, rfl⟩
      go_wp2_with fail
      refine (c2 _).mono ?_
      rintro r w' ⟨rfl, rfl⟩
      go_wp2
      simp only [Exit.jumps]
      go_ret
      exact ⟨rfl, rfl⟩
end Go.Proofs.YtipgipgehnhgkaaGreatDoor
