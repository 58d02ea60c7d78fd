/- A text stays what it is; what is no text has a canonical one. -/
import Derived.Test.YtipgipgehnhgkaaGreatDoorWd
import Derived.Test.YtipgipgehnhgkaaGreatDoorWc
set_option linter.unusedVariables false
namespace Go.Proofs.YtipgipgehnhgkaaGreatDoor
open Go.RowKit
open Go

/-- The canonical text of a truth is that truth in both schemas. -/
theorem can_bool (b : Bool) (v : Int) (hv : v = 11 ∨ v = 12) : Tel v (xB b) tBool (xB b) := by
  rcases hv with rfl | rfl
  · cases b
    · exact tel_bool 11 (xB false) false (by decide) (by decide)
    · exact tel_bool 11 (xB true) true (by decide) (by decide)
  · cases b
    · exact tel_bool 12 (xB false) false (by decide) (by decide)
    · exact tel_bool 12 (xB true) true (by decide) (by decide)
theorem can_int (z : Int) (hz : (tx z).size ≤ 990) (v : Int) (hv : v = 11 ∨ v = 12) : Tel v (tx z) tInt (tx z) := by
  obtain ⟨h1, h2, h3⟩ := M.can_txt z
  have hw := M.word_no (M.can_head z)
  rcases hv with rfl | rfl
  · exact tel_intO (tx z) z hz (by rw [tx_list]; exact hw.1) (by rw [tx_list]; exact hw.2 _) (by rw [tx_list]; exact h1) (by rw [tx_list]; exact h2)
  · exact tel_intN 12 (by decide) (tx z) z hz (by rw [tx_list]; exact hw.1) (by rw [tx_list]; exact hw.2 _) (by rw [tx_list]; exact h3)
theorem can_time (l a : List UInt8) (h : S10.M.ofS l = some a) (hl : l.length ≤ 900) : Tel 11 (bA a) tTime (bA a) := by
  have h1 := S10.M.of_of h
  have h2 := S10.of_len h
  obtain ⟨c0, c1, c2, c3, r, e, d0, d1, d2, d3⟩ := M.of_head h1
  subst e
  obtain ⟨h3, h4⟩ := M.moment_no r d0 d1 d2 d3
  have hw := M.word_no (l := c0 :: c1 :: c2 :: c3 :: 45 :: r) ⟨c0, _, rfl, M.dig_low d0⟩
  exact tel_time (bA (c0 :: c1 :: c2 :: c3 :: 45 :: r)) _ (by rw [bA_size]; omega) (by rw [bA_toList]; exact hw.1) (by rw [bA_toList]; exact hw.2 _) (by rw [bA_toList]; exact h3) (by rw [bA_toList]; exact h4) (by rw [bA_toList]; exact h1)
/-- What a text is, and what its canonical one is. -/
def Stay (v : Int) (x T X : ByteArray) : Prop :=
  (T = tStr ∧ X = x ∧ x ≠ ⟨#[]⟩) ∨ (T = tNull ∧ X = ⟨#[]⟩ ∧ x.size ≤ 4) ∨
  ((T = tBool ∨ T = tInt ∨ T = tFloat) ∧ Tel 11 X T X ∧ Tel 12 X T X) ∨ (T = tTime ∧ v = 11 ∧ Tel 11 X T X)
theorem null_len {l : List UInt8} (h : l ∈ M.wN) : l.length ≤ 4 := by
  simp only [M.wN, List.mem_cons, List.not_mem_nil, or_false] at h
  rcases h with rfl | rfl | rfl | rfl | rfl <;> decide
theorem not_empty {x : ByteArray} (h : x.data.toList ∉ M.wN) : x ≠ ⟨#[]⟩ := by
  rintro rfl
  exact h (by decide)
theorem num_small {n : Nat} {k : Nat} {z : Int} (h : z.natAbs < 10 ^ n) (hn : n ≤ k) (hk : 0 < k) (h9 : k ≤ 980) : (tx z).size ≤ 990 := by
  have := tx_len z k hk (Nat.lt_of_lt_of_le h (Nat.pow_le_pow_right (by omega) hn))
  omega
theorem stay_old (x : ByteArray) (hx : x.size ≤ 80) : ∃ T X, Tel 11 x T X ∧ Stay 11 x T X := by
  have hsz := sz_list x
  by_cases h0 : x.data.toList ∈ M.wN
  · exact ⟨_, _, tel_null 11 x h0, Or.inr (Or.inl ⟨rfl, rfl, by have := null_len h0; omega⟩)⟩
  cases h1 : (M.bo true x.data.toList).2 with
  | true =>
    exact ⟨_, _, tel_bool 11 x (M.bo true x.data.toList).1 h0 (by rw [decide_eq_true rfl]; exact Prod.ext rfl h1), Or.inr (Or.inr (Or.inl ⟨Or.inl rfl, can_bool _ 11 (Or.inl rfl), can_bool _ 12 (Or.inr rfl)⟩))⟩
  | false =>
    by_cases hf : M.form x.data.toList = 0
    · by_cases hg : M.flo x.data.toList = 0
      · cases ho : S10.M.ofS x.data.toList with
        | none => exact ⟨_, _, tel_strO x (by omega) h0 h1 hf hg ho, Or.inl ⟨rfl, rfl, not_empty h0⟩⟩
        | some a => exact ⟨_, _, tel_time x a (by omega) h0 h1 hf hg ho, Or.inr (Or.inr (Or.inr ⟨rfl, rfl, can_time _ a ho (by omega)⟩))⟩
      · obtain ⟨k, m, D, X, hd, c⟩ := floO_good x hx hg
        exact ⟨_, _, tel_floO x k m D X (by omega) h0 h1 hf (by have := hd.2.1; omega) (by have := hd.2.2; omega) c, Or.inr (Or.inr (Or.inl ⟨Or.inr (Or.inr rfl), can_float k m D X hd 11 (Or.inl rfl), can_float k m D X hd 12 (Or.inr rfl)⟩))⟩
    · have hb := M.body_len x.data.toList
      have hn := M.num_lt (U := M.body x.data.toList) hf
      have hz : (tx (zOf x.data.toList)).size ≤ 990 := num_small (n := 3 * (M.body x.data.toList).length + 2) (k := 250) (by unfold zOf; rw [sgn_abs]; exact hn) (by omega) (by omega) (by omega)
      exact ⟨_, _, tel_intO x _ (by omega) h0 h1 hf rfl, Or.inr (Or.inr (Or.inl ⟨Or.inr (Or.inl rfl), can_int _ hz 11 (Or.inl rfl), can_int _ hz 12 (Or.inr rfl)⟩))⟩
theorem stay_new (x : ByteArray) (hx : x.size ≤ 80) : ∃ T X, Tel 12 x T X ∧ Stay 12 x T X := by
  have hsz := sz_list x
  by_cases h0 : x.data.toList ∈ M.wN
  · exact ⟨_, _, tel_null 12 x h0, Or.inr (Or.inl ⟨rfl, rfl, by have := null_len h0; omega⟩)⟩
  cases h1 : (M.bo false x.data.toList).2 with
  | true =>
    exact ⟨_, _, tel_bool 12 x (M.bo false x.data.toList).1 h0 (by rw [decide_eq_false (by decide)]; exact Prod.ext rfl h1), Or.inr (Or.inr (Or.inl ⟨Or.inl rfl, can_bool _ 11 (Or.inl rfl), can_bool _ 12 (Or.inr rfl)⟩))⟩
  | false =>
    cases hi : M.iv x.data.toList with
    | some z =>
      have hz : (tx z).size ≤ 990 := num_small (n := 2 * x.data.toList.length + 1) (k := 250) (iv_lt hi) (by omega) (by omega) (by omega)
      exact ⟨_, _, tel_intN 12 (by decide) x z (by omega) h0 h1 hi, Or.inr (Or.inr (Or.inl ⟨Or.inr (Or.inl rfl), can_int _ hz 11 (Or.inl rfl), can_int _ hz 12 (Or.inr rfl)⟩))⟩
    | none =>
      by_cases hf : x.data.toList ∈ M.nans ∨ M.body x.data.toList ∈ M.infs ∨ M.gl (M.body x.data.toList) = 4
      · obtain ⟨k, m, D, X, hd, c⟩ := floN_good x hx hf
        exact ⟨_, _, tel_floN 12 (by decide) x k m D X (by omega) h0 h1 hi (by have := hd.2.1; omega) (by have := hd.2.2; omega) c, Or.inr (Or.inr (Or.inl ⟨Or.inr (Or.inr rfl), can_float k m D X hd 11 (Or.inl rfl), can_float k m D X hd 12 (Or.inr rfl)⟩))⟩
      · exact ⟨_, _, tel_strN 12 (by decide) x (by omega) h0 h1 hi (fun k => hf (Or.inl k)) (fun k => hf (Or.inr (Or.inl k))) (fun k => hf (Or.inr (Or.inr k))), Or.inl ⟨rfl, rfl, not_empty h0⟩⟩
end Go.Proofs.YtipgipgehnhgkaaGreatDoor
