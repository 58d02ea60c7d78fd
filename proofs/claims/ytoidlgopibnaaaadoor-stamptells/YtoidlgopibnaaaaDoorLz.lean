/- Plain mathematics: times put together, in any zone, and what is told of them. Walks: two digits, small numbers as texts. -/
import Derived.Test.YtoidlgopibnaaaaDoorLa
set_option linter.unusedVariables false
namespace Go.Proofs.YtoidlgopibnaaaaDoor
open Go.RowKit
namespace M

theorem ofS_same {l : List UInt8} {X : Mo} {n : Nat} (h : rd l = some X) (hm : may X = true) (ht : X.td = true) (hn : mins X = (n : Int)) (hn2 : n < 1440) (hy : X.y ≤ 9999) : ofS l = some (ttx X.y X.m X.d n X.se X.fr) := by
  rw [ofS_time h hm ht]; exact zt_same hn hn2 hy
/-- A day's text. -/
def DT (y m d : Nat) : List UInt8 := d4 y ++ (45 :: (d2 m ++ (45 :: d2 d)))
/-- A time of day's text. -/
def AT (h n s : Nat) : List UInt8 := d2 h ++ (58 :: (d2 n ++ (58 :: d2 s)))
theorem DT_len (y m d : Nat) : (DT y m d).length = 10 := by simp [DT, len_d2, len_d4]
theorem AT_len (h n s : Nat) : (AT h n s).length = 8 := by simp [AT, len_d2]
theorem DT_app (y m d : Nat) (r : List UInt8) : DT y m d ++ r = d4 y ++ (45 :: (d2 m ++ (45 :: (d2 d ++ r)))) := by simp [DT]
theorem AT_app (h n s : Nat) (r : List UInt8) : AT h n s ++ r = d2 h ++ (58 :: (d2 n ++ (58 :: (d2 s ++ r)))) := by simp [AT]
theorem ttx_bare (y m d n se : Nat) : ttx y m d n se [] = DT y m d ++ (84 :: (AT (n / 60) (n % 60) se ++ [90])) := by
  rw [DT_app, AT_app]; rfl
/-- A day, what stands between, a time of day, a zone. -/
theorem rd_time {y m d h n s : Nat} (hy : y < 10000) (hm : m < 100) (hd : d < 100) (h1 : h < 100) (h2 : n < 100) (h3 : s < 100) (g r : List UInt8)
    (hg : g = [84] ∨ g = [116] ∨ (g ≠ [] ∧ ∀ c ∈ g, bB c = true)) : rd (DT y m d ++ (g ++ (AT h n s ++ r))) = aRest ⟨y, m, d, true, h, n, s, [], false, 0, 0⟩ r := by
  rw [DT_app, rd_of hy hm hd, AT_app]
  rcases hg with rfl | rfl | ⟨hne, hb⟩
  · rw [List.singleton_append, rTail_T, aDay_of _ h1 h2 h3]; rfl
  · rw [List.singleton_append, rTail_t, aDay_of _ h1 h2 h3]; rfl
  · rw [rTail_blanks _ _ _ _ hne hb (bB_head h h1 _), aDay_of _ h1 h2 h3]; rfl
theorem aRest_zone (M : Mo) (b r : List UInt8) (hb : ∀ c ∈ b, bB c = true) (hr : r ≠ []) (hr0 : r.head? ≠ some 46) : aRest M (b ++ r) = cBl M r := by
  have h46 : (b ++ r).head? ≠ some 46 := by
    cases b with
    | nil => exact hr0
    | cons c b =>
      have := hb c (by simp)
      intro h
      simp at h
      rw [h] at this
      revert this; decide
  unfold aRest
  rw [if_neg h46]
  unfold cClk
  rw [if_neg (by simp [hr]), cBl_blanks M b r hb]
theorem cBl_Z (M : Mo) : cBl M [90] = some M := by rw [cBl, if_neg (by decide), if_pos rfl]; rfl
/-- The zone's sign. -/
def sgn (b : Bool) : UInt8 := if b then 45 else 43
theorem sgn_no (b : Bool) (r : List UInt8) : (sgn b :: r) ≠ [] ∧ (sgn b :: r).head? ≠ some 46 := by
  refine ⟨by simp, ?_⟩
  cases b <;> simp [sgn]
theorem mins_of (y m d h n s : Nat) (f : List UInt8) (b : Bool) (p q : Nat) : mins ⟨y, m, d, true, h, n, s, f, b, p, q⟩ = ((60 * h + n : Nat) : Int) - (if b then -((60 * p + q : Nat) : Int) else ((60 * p + q : Nat) : Int)) := by
  unfold mins off; rfl
/-- A moment of a day that there is, in a zone that there is. -/
theorem ofS_zone {l : List UInt8} {y m d h n s p q N : Nat} {b : Bool} {f : List UInt8} (hr : rd l = some ⟨y, m, d, true, h, n, s, f, b, p, q⟩) (hy : y ≤ 9999) (hd1 : 1 ≤ d) (hd2 : d ≤ days y m) (h1 : h < 24) (h2 : n < 60) (h3 : s < 60) (h4 : p < 24) (h5 : q < 60)
    (hN : ((60 * h + n : Nat) : Int) - (if b then -((60 * p + q : Nat) : Int) else ((60 * p + q : Nat) : Int)) = (N : Int)) (hN2 : N < 1440) : ofS l = some (ttx y m d N s f) :=
  ofS_same hr ((may_iff _).2 ⟨⟨hd1, hd2⟩, ⟨h1, h2, h3⟩, h4, h5⟩) rfl (by rw [mins_of]; exact hN) hN2 hy
end M

theorem two2_any (n : Nat) (w : World) (hn : n < 100) : Calls Tryd.prog 15 #[.int .i64 n] w fun e w' => e = .returned (.string (bA (M.d2 n))) ∧ Below w.heap.size w w' := by
  have h := two_any n w (by omega)
  rwa [e2_small hn] at h
/-- A number below a hundred as a text. -/
def T2 (n : Nat) : List UInt8 := if n < 10 then [M.dch n] else M.d2 n
theorem T2_len (n : Nat) : (T2 n).length ≤ 2 := by unfold T2; split <;> simp [M.d2]
theorem text2_any (n : Nat) (w : World) (hn : n < 100) : Calls Tryd.prog 16 #[.int .i64 n] w fun e w' => e = .returned (.string (bA (T2 n))) ∧ Below w.heap.size w w' := by
  have h := rtext_any n w (by omega)
  have e : Lib.decDigits n = T2 n := by
    unfold T2
    by_cases h1 : n < 10
    · rw [if_pos h1, dec_small h1]; unfold dg1 M.dch; rw [Nat.mod_eq_of_lt h1]
    · rw [if_neg h1, Lib.decDigits, dif_neg h1, Lib.decDigits, dif_pos (show n / 10 < 10 by omega)]; rfl
  rwa [e] at h
theorem M.cBl_T2 (X : M.Mo) {b : Bool} {h m : Nat} (h1 : h < 100) (h2 : m < 100) : M.cBl X (M.sgn b :: (T2 h ++ (58 :: M.d2 m))) = some { X with bh := b, zh := h, zm := m } := by
  unfold T2
  split
  · rename_i h10
    exact M.cBl_zone1 X b rfl h10 h2
  · exact M.cBl_zone X b rfl h1 h2
end Go.Proofs.YtoidlgopibnaaaaDoor
