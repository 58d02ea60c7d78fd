/- Plain mathematics: the day behind a month's last one; a year's days. -/
import Derived.Test.YtoidlgopibnaaaaDoorLb
set_option linter.unusedVariables false
namespace Go.Proofs.YtoidlgopibnaaaaDoor
open Go.RowKit
namespace M

theorem lng_400 (y : Nat) : lng (y + 400) = lng y := by
  unfold lng
  rw [show (y + 400) % 4 = y % 4 by omega, show (y + 400) % 100 = y % 100 by omega, show (y + 400) % 400 = y % 400 by omega]
theorem days_400 (y m : Nat) : days (y + 400) m = days y m := by unfold days; rw [lng_400]
/-- The days of the months ahead of month j. -/
def cum (y : Nat) : Nat → Nat
  | 0 => 0
  | 1 => 0
  | j + 2 => cum y (j + 1) + days y (j + 1)
theorem cum_succ (y j : Nat) (h : 1 ≤ j) : cum y (j + 1) = cum y j + days y j := by
  obtain ⟨k, rfl⟩ : ∃ k, j = k + 1 := ⟨j - 1, by omega⟩
  rfl
theorem cum_le (y j : Nat) : cum y j ≤ 31 * j := by
  induction j with
  | zero => simp [cum]
  | succ j ih =>
    cases j with
    | zero => simp [cum]
    | succ j => rw [cum_succ y (j + 1) (by omega)]; have := days_le y (j + 1); omega
theorem cum_all (y : Nat) : cum y 13 = 337 + days y 2 := by
  simp only [cum, days]
  simp
  omega
theorem days_feb (y : Nat) : days y 2 = if lng y then 29 else 28 := rfl
/-- A moment a day on, and a day back. -/
theorem zt_over {X : Mo} {y m d n : Nat} (h : 1440 ≤ mins X) (ha : aft X.y X.m X.d = (y, m, d)) (hn : mins X = (n : Int) + 1440) (hy : y ≤ 9999) : zt X = some (ttx y m d n X.se X.fr) := by
  have e : zy X = (y, m, d, n) := by
    rw [zy_over h, ha]
    have : (mins X - 1440).toNat = n := by omega
    dsimp only; rw [this]
  unfold zt
  rw [early_no (by omega), e, if_neg (by decide), if_neg (by show ¬ 9999 < y; omega)]
theorem zt_neg {X : Mo} {y m d n : Nat} (h : mins X < 0) (he : early X = false) (ha : bef X.y X.m X.d = (y, m, d)) (hn : mins X + 1440 = (n : Int)) (hy : y ≤ 9999) : zt X = some (ttx y m d n X.se X.fr) := by
  have e : zy X = (y, m, d, n) := by
    rw [zy_neg h, ha]
    have : (mins X + 1440).toNat = n := by omega
    dsimp only; rw [this]
  unfold zt
  rw [he, e, if_neg (by decide), if_neg (by show ¬ 9999 < y; omega)]
theorem aft_last (y m : Nat) (h : m ≤ 12) : aft y m (days y m) = (y + m / 12, m % 12 + 1, 1) := by
  unfold aft
  rw [if_neg (by omega)]
  by_cases h1 : m < 12
  · rw [if_pos h1, show m / 12 = 0 by omega, show m % 12 = m by omega]; rfl
  · rw [if_neg h1, show m = 12 by omega]
theorem bef_first (y m : Nat) (h1 : 1 ≤ m) (h : m ≤ 12) : bef (y + m / 12) (m % 12 + 1) 1 = (y, m, days y m) := by
  unfold bef
  rw [if_neg (by omega)]
  by_cases h2 : m < 12
  · rw [if_pos (by omega), show m / 12 = 0 by omega, show m % 12 = m by omega]; rfl
  · rw [if_neg (by omega), show m = 12 by omega]; rfl
/-- The first minutes of the next month, and the last ones of this one. -/
def nxt (y m l : Nat) : List UInt8 := DT (y + m / 12) (m % 12 + 1) 1 ++ (84 :: (AT 0 (l - 1) 0 ++ [90]))
def lst (y m l : Nat) : List UInt8 := DT y m (days y m) ++ (84 :: (AT 23 (60 - l) 0 ++ [90]))
theorem nxt_is (y m l : Nat) (h : l ≤ 59) : nxt y m l = ttx (y + m / 12) (m % 12 + 1) 1 (l - 1) 0 [] := by
  rw [ttx_bare, show (l - 1) / 60 = 0 by omega, show (l - 1) % 60 = l - 1 by omega]; rfl
theorem lst_is (y m l : Nat) (h1 : 1 ≤ l) (h : l ≤ 59) : lst y m l = ttx y m (days y m) (1440 - l) 0 [] := by
  rw [ttx_bare, show (1440 - l) / 60 = 23 by omega, show (1440 - l) % 60 = 60 - l by omega]; rfl
theorem of_nxt (y m l : Nat) (hy : y ≤ 9998) (h1 : 1 ≤ m) (h2 : m ≤ 12) (l1 : 1 ≤ l) (l2 : l ≤ 59) : ofS (nxt y m l) = some (nxt y m l) := by
  rw [nxt_is y m l l2]
  have := days_pos (y := y + m / 12) (m := m % 12 + 1) (by omega) (by omega)
  exact of_ttx (by omega) (by omega) (by omega) (by omega) (by omega) (by intro c hc; cases hc)
theorem of_late (y m l : Nat) (hy : y ≤ 9998) (h1 : 1 ≤ m) (h2 : m ≤ 12) (l1 : 1 ≤ l) (l2 : l ≤ 59) :
    ofS (DT y m (days y m) ++ ([32] ++ (AT 23 59 0 ++ ([32] ++ (sgn true :: (dch 0 :: (58 :: d2 l))))))) = some (nxt y m l) := by
  have hp := days_pos (y := y) h1 h2
  have hl := days_le y m
  have hr := rd_time (y := y) (m := m) (d := days y m) (h := 23) (n := 59) (s := 0) (by omega) (by omega) (by omega) (by omega) (by omega) (by omega) [32] ([32] ++ (sgn true :: (dch 0 :: (58 :: d2 l)))) (Or.inr (Or.inr ⟨by simp, by decide⟩))
  rw [aRest_zone _ [32] _ (by decide) (sgn_no _ _).1 (sgn_no _ _).2, cBl_zone1 (c := sgn true) _ true rfl (by omega) (by omega)] at hr
  have hm : mins ⟨y, m, days y m, true, 23, 59, 0, [], true, 0, l⟩ = ((l - 1 : Nat) : Int) + 1440 := by
    rw [mins_of]; simp; omega
  rw [ofS_time hr ((may_iff _).2 ⟨⟨by show 1 ≤ days y m; omega, Nat.le_refl _⟩, ⟨by show 23 < 24; omega, by show 59 < 60; omega, by show 0 < 60; omega⟩, by show 0 < 24; omega, by show l < 60; omega⟩) rfl,
    zt_over (by omega) (aft_last y m h2) hm (by omega), nxt_is y m l l2]
theorem of_early (y m l : Nat) (hy : y ≤ 9998) (h1 : 1 ≤ m) (h2 : m ≤ 12) (l1 : 1 ≤ l) (l2 : l ≤ 59) :
    ofS (DT (y + m / 12) (m % 12 + 1) 1 ++ ([84] ++ (AT 0 0 0 ++ ([] ++ (sgn false :: (d2 0 ++ (58 :: d2 l))))))) = some (lst y m l) := by
  have hp := days_pos (y := y + m / 12) (m := m % 12 + 1) (by omega) (by omega)
  have hr := rd_time (y := y + m / 12) (m := m % 12 + 1) (d := 1) (h := 0) (n := 0) (s := 0) (by omega) (by omega) (by omega) (by omega) (by omega) (by omega) [84] ([] ++ (sgn false :: (d2 0 ++ (58 :: d2 l)))) (Or.inl rfl)
  rw [aRest_zone _ [] _ (by intro c hc; cases hc) (sgn_no _ _).1 (sgn_no _ _).2, cBl_zone (c := sgn false) _ false rfl (by omega) (by omega)] at hr
  have hm : mins ⟨y + m / 12, m % 12 + 1, 1, true, 0, 0, 0, [], false, 0, l⟩ = -(l : Int) := by
    rw [mins_of]; simp
  have he : early ⟨y + m / 12, m % 12 + 1, 1, true, 0, 0, 0, [], false, 0, l⟩ = false := by
    unfold early
    rw [hm]
    show (_ && (decide (y + m / 12 = 0) && (decide (m % 12 + 1 ≤ 1) && _))) = false
    by_cases h3 : m < 12
    · rw [decide_eq_false (show ¬ m % 12 + 1 ≤ 1 by omega)]; simp
    · rw [decide_eq_false (show ¬ y + m / 12 = 0 by omega)]; simp
  rw [ofS_time hr ((may_iff _).2 ⟨⟨Nat.le_refl 1, Nat.le_trans (show 1 ≤ 28 by omega) hp⟩, ⟨by show 0 < 24; omega, by show 0 < 60; omega, by show 0 < 60; omega⟩, by show 0 < 24; omega, by show l < 60; omega⟩) rfl,
    zt_neg (by rw [hm]; omega) he (bef_first y m h1 h2) (n := 1440 - l) (by rw [hm]; omega) (by show y ≤ 9999; omega), lst_is y m l l1 l2]
end M
end Go.Proofs.YtoidlgopibnaaaaDoor
