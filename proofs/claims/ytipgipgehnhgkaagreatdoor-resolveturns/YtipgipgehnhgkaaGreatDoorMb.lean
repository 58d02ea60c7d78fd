/- Plain mathematics: how great the numbers are that a text says. -/
import Derived.Test.YtipgipgehnhgkaaGreatDoorMa
set_option linter.unusedVariables false
namespace Go.Proofs.YtipgipgehnhgkaaGreatDoor
open Go.RowKit
namespace M
theorem lt_pow {a b n k m : Nat} (h : a < b ^ n) (hb : b ≤ 100) (hk : 2 * n ≤ k) : a < 10 ^ k := by
  have h1 : b ^ n ≤ 100 ^ n := Nat.pow_le_pow_left hb n
  have h2 : (100 : Nat) ^ n = 10 ^ (2 * n) := by rw [Nat.pow_mul]
  have h3 : (10 : Nat) ^ (2 * n) ≤ 10 ^ k := Nat.pow_le_pow_right (by omega) hk
  omega
theorem num_lt {U : List UInt8} (h : fB U ≠ 0) : num U < 10 ^ (3 * U.length + 2) := by
  have hgl := gone_len U
  rcases isForm U h with ⟨r, h1, e, hd⟩ | ⟨r, h1, e, hd⟩ | ⟨h1, hd⟩ | ⟨h1, e⟩ | ⟨h1, hd, _⟩ | ⟨D, R, h1, e, hd, _, hR⟩
  · have hn : num U = val 2 r := by unfold num; rw [if_pos h1, e]; rfl
    rw [e] at hgl; simp only [List.length_cons] at hgl
    rw [hn]
    exact lt_pow (m := 0) (val_lt 2 r ((okD_iff _ _).1 hd).2) (by omega) (by omega)
  · have hn : num U = val 16 r := by unfold num; rw [if_neg (by omega), if_pos h1, e]; rfl
    rw [e] at hgl; simp only [List.length_cons] at hgl
    rw [hn]
    exact lt_pow (m := 0) (val_lt 16 r ((okD_iff _ _).1 hd).2) (by omega) (by omega)
  · have hn : num U = val 8 (gone U) := by unfold num; rw [if_neg (by omega), if_neg (by omega), if_pos h1]
    rw [hn]
    exact lt_pow (m := 0) (val_lt 8 (gone U) ((okD_iff _ _).1 hd).2) (by omega) (by omega)
  · have hn : num U = 0 := by rw [e]; decide
    rw [hn]; exact Nat.pow_pos (by omega)
  · have hn : num U = val 10 (gone U) := by unfold num; rw [if_neg (by omega), if_neg (by omega), if_neg (by omega), if_neg (by omega)]
    rw [hn]
    exact lt_pow (m := 0) (val_lt 10 (gone U) ((okD_iff _ _).1 hd).2) (by omega) (by omega)
  · have hal := ((okD_iff _ _).1 hd).2
    have h58 : ∀ c ∈ D, c ≠ 58 := fun c hc => ne58 ((allD_iff _ _).1 hal c hc) (by omega)
    have hn : num U = sx (val 10 D) 0 R := by
      unfold num; rw [if_neg (by omega), if_neg (by omega), if_neg (by omega), if_pos h1, e, sx_yes 0 D R h58, Nat.zero_mul, Nat.zero_add]
    rw [e] at hgl; simp only [List.length_append, List.length_cons] at hgl
    rw [hn]
    exact Nat.lt_of_lt_of_le (six_lt D R hal) (Nat.pow_le_pow_right (by omega) (by omega))
end M
theorem iv_lt {l : List UInt8} {z : Int} (h : M.iv l = some z) : z.natAbs < 10 ^ (2 * l.length + 1) := by
  have hbl := M.body_len l
  rcases form_iv l with ⟨d, _, e, hd, he⟩ | ⟨d, _, e, hd, he⟩ | ⟨_, hd, he⟩ | ⟨_, he⟩
  · obtain rfl := Option.some.inj (h.symm.trans he)
    rw [e]; simp only [List.length_cons]
    show M.val 8 d < _
    exact M.lt_pow (m := 0) (M.val_lt 8 d ((M.okD_iff _ _).1 hd).2) (by omega) (by omega)
  · obtain rfl := Option.some.inj (h.symm.trans he)
    rw [e]; simp only [List.length_cons]
    show M.val 16 d < _
    exact M.lt_pow (m := 0) (M.val_lt 16 d ((M.okD_iff _ _).1 hd).2) (by omega) (by omega)
  · obtain rfl := Option.some.inj (h.symm.trans he)
    rw [sgn_abs]
    exact M.lt_pow (m := 0) (M.val_lt 10 _ ((M.okD_iff _ _).1 hd).2) (by omega) (by omega)
  · rw [h] at he; cases he
end Go.Proofs.YtipgipgehnhgkaaGreatDoor
