/- Plain mathematics: which number is less, by its digits; a number taken away digit by digit. -/
import Derived.Test.YtomgbcgaokebjaaDoorMp
namespace Go.Proofs.YtomgbcgaokebjaaDoor
namespace M
def cmpZ (a b : Int) : Int := if a < b then -1 else if b < a then 1 else 0
def cmpS (l m : List UInt8) : Int := if l.length < m.length then -1 else if m.length < l.length then 1 else if l < m then -1 else if m < l then 1 else 0
theorem cmpZ_swap (a b : Int) : cmpZ b a = -cmpZ a b := by unfold cmpZ; repeat' split <;> omega
theorem cmpZ_self (a : Int) : cmpZ a a = 0 := by unfold cmpZ; simp
theorem cmpZ_zero (a b : Int) : cmpZ a b = 0 ↔ a = b := by
  unfold cmpZ
  constructor
  · intro h; split at h
    · omega
    · split at h <;> omega
  · intro h; rw [if_neg (by omega), if_neg (by omega)]
theorem cmpZ_neg (a b : Int) : cmpZ (-a) (-b) = -cmpZ a b := by
  rw [← cmpZ_swap]
  unfold cmpZ
  by_cases h1 : a < b
  · rw [if_neg (by omega), if_pos (by omega), if_neg (by omega), if_pos (by omega)]
  · by_cases h2 : b < a
    · rw [if_pos (by omega), if_pos (by omega)]
    · rw [if_neg (by omega), if_neg (by omega), if_neg (by omega), if_neg (by omega)]
theorem cmpZ_add (a b c : Int) : cmpZ (a + b) (a + c) = cmpZ b c := by
  unfold cmpZ
  by_cases h1 : b < c
  · rw [if_pos (by omega), if_pos (by omega)]
  · by_cases h2 : c < b
    · rw [if_neg (by omega), if_pos (by omega), if_neg (by omega), if_pos (by omega)]
    · rw [if_neg (by omega), if_neg (by omega), if_neg (by omega), if_neg (by omega)]
theorem cmpZ_lt (a b : Int) : cmpZ a b < 0 ↔ a < b := by
  unfold cmpZ
  by_cases h1 : a < b
  · rw [if_pos h1]; simp [h1]
  · rw [if_neg h1]; split <;> omega

theorem lt_iff_val (l m : List UInt8) (hl : allD 10 l = true) (hm : allD 10 m = true) (h : l.length = m.length) : l < m ↔ val 10 l < val 10 m := by
  induction l generalizing m with
  | nil =>
    cases m with
    | nil => simp [val]
    | cons d r => simp at h
  | cons c l ih =>
    cases m with
    | nil => simp at h
    | cons d m =>
      have h' : l.length = m.length := by simpa using h
      have hc := (allD_iff _ _).1 hl c (by simp)
      have hd := (allD_iff _ _).1 hm d (by simp)
      have hl' : allD 10 l = true := (allD_iff _ _).2 fun x hx => (allD_iff _ _).1 hl x (List.mem_cons_of_mem _ hx)
      have hm' : allD 10 m = true := (allD_iff _ _).2 fun x hx => (allD_iff _ _).1 hm x (List.mem_cons_of_mem _ hx)
      have b1 := val_lt 10 l hl'
      have b2 := val_lt 10 m hm'
      have kc := dv_lt10 hc
      have kd := dv_lt10 hd
      have e1 : c < d ↔ dv c < dv d := by rw [UInt8.lt_iff_toNat_lt]; omega
      have e2 : c = d ↔ dv c = dv d := by rw [← UInt8.toNat_inj]; omega
      rw [List.cons_lt_cons_iff, ih m hl' hm' h', val_cons, val_cons, h', e1, e2]
      rw [h'] at b1
      generalize 10 ^ m.length = T at *
      generalize val 10 l = p at *
      generalize val 10 m = q at *
      generalize dv c = x at *
      generalize dv d = y at *
      constructor
      · rintro (k | ⟨rfl, k⟩)
        · have : (x + 1) * T ≤ y * T := Nat.mul_le_mul_right _ k
          rw [Nat.add_mul] at this; omega
        · omega
      · intro k
        rcases Nat.lt_trichotomy x y with hx | hx | hx
        · exact Or.inl hx
        · subst hx; exact Or.inr ⟨rfl, by omega⟩
        · have : (y + 1) * T ≤ x * T := Nat.mul_le_mul_right _ hx
          rw [Nat.add_mul] at this; omega
theorem dg_len_lt {a b : Nat} (h : (dg a).length < (dg b).length) : a < b := by
  have h1 := dg_lt a
  rcases Nat.eq_zero_or_pos b with rfl | hb
  · have := dg_len_pos a
    rw [dg_zero] at h
    have h' : (dg a).length < 1 := h
    omega
  · have h2 := dg_ge b hb
    have h3 : 10 ^ (dg a).length ≤ 10 ^ ((dg b).length - 1) := Nat.pow_le_pow_right (by omega) (by omega)
    omega
theorem cmpS_dg (a b : Nat) : cmpS (dg a) (dg b) = cmpZ a b := by
  unfold cmpS cmpZ
  by_cases h1 : (dg a).length < (dg b).length
  · have := dg_len_lt h1
    rw [if_pos h1, if_pos (by omega)]
  · by_cases h2 : (dg b).length < (dg a).length
    · have := dg_len_lt h2
      rw [if_neg h1, if_pos h2, if_neg (by omega), if_pos (by omega)]
    · rw [if_neg h1, if_neg h2]
      have e1 := lt_iff_val (dg a) (dg b) (dg_all a) (dg_all b) (by omega)
      have e2 := lt_iff_val (dg b) (dg a) (dg_all b) (dg_all a) (by omega)
      rw [dg_val, dg_val] at e1 e2
      by_cases k1 : a < b
      · rw [if_pos (e1.2 k1), if_pos (by omega)]
      · by_cases k2 : b < a
        · rw [if_neg (fun x => k1 (e1.1 x)), if_pos (e2.2 k2), if_neg (by omega), if_pos (by omega)]
        · rw [if_neg (fun x => k1 (e1.1 x)), if_neg (fun x => k2 (e2.1 x)), if_neg (by omega), if_neg (by omega)]
/-- How Compare tells of two texts of whole numbers. -/
theorem cmp_txt (x y : Int) : cmpZ x y = if x < 0 then (if y < 0 then cmpS (dg y.natAbs) (dg x.natAbs) else -1) else (if y < 0 then 1 else cmpS (dg x.natAbs) (dg y.natAbs)) := by
  rw [cmpS_dg, cmpS_dg]
  unfold cmpZ
  by_cases h1 : x < 0
  · rw [if_pos h1]
    by_cases h2 : y < 0
    · rw [if_pos h2]
      by_cases h3 : x < y
      · rw [if_pos h3, if_pos (by omega)]
      · by_cases h4 : y < x
        · rw [if_neg h3, if_pos h4, if_neg (by omega), if_pos (by omega)]
        · rw [if_neg h3, if_neg h4, if_neg (by omega), if_neg (by omega)]
    · rw [if_neg h2, if_pos (by omega)]
  · rw [if_neg h1]
    by_cases h2 : y < 0
    · rw [if_pos h2, if_neg (by omega), if_pos (by omega)]
    · rw [if_neg h2]
      by_cases h3 : x < y
      · rw [if_pos h3, if_pos (by omega)]
      · by_cases h4 : y < x
        · rw [if_neg h3, if_pos h4, if_neg (by omega), if_pos (by omega)]
        · rw [if_neg h3, if_neg h4, if_neg (by omega), if_neg (by omega)]

/-- The digit that is left, and what is still to be taken away. -/
def subD (d n : Nat) : Nat := if d < n % 10 then d + 10 - n % 10 else d - n % 10
def subN (d n : Nat) : Nat := if d < n % 10 then n / 10 + 1 else n / 10
theorem subD_lt {d n : Nat} (h : d < 10) : subD d n < 10 := by unfold subD; split <;> omega
theorem sub_eq (d n : Nat) : subD d n + n = d + 10 * subN d n := by unfold subD subN; split <;> omega
/-- One step of taking away: p the digits ahead, r those behind that are done. -/
theorem sub_step (p r : List UInt8) (c : UInt8) (n N V : Nat) (hc : dv c < 10) (h : val 10 (p ++ c :: r) + N = V + n * 10 ^ r.length) :
    val 10 (p ++ UInt8.ofNat (48 + subD (dv c) n) :: r) + N = V + subN (dv c) n * 10 ^ (r.length + 1) := by
  rw [val_append, val_cons] at h ⊢
  rw [dv_dig _ (subD_lt hc)]
  have e := sub_eq (dv c) n
  rw [List.length_cons] at h ⊢
  have e2 : subD (dv c) n * 10 ^ r.length + n * 10 ^ r.length = dv c * 10 ^ r.length + subN (dv c) n * 10 ^ (r.length + 1) := by
    rw [← Nat.add_mul, e, Nat.pow_succ, Nat.add_mul]
    congr 1
    rw [Nat.mul_comm 10, Nat.mul_assoc, Nat.mul_comm 10]
  omega
theorem sub_room (p r : List UInt8) (n N V : Nat) (hr : allD 10 r = true) (hN : N ≤ V) (h : val 10 (p ++ r) + N = V + n * 10 ^ r.length) : n ≤ val 10 p := by
  rw [val_append] at h
  have b := val_lt 10 r hr
  have h2 : n * 10 ^ r.length < (val 10 p + 1) * 10 ^ r.length := by rw [Nat.add_mul]; omega
  have := Nat.lt_of_mul_lt_mul_right h2
  omega
theorem val_take_le (b : Nat) (hb : 0 < b) (l : List UInt8) (k : Nat) : val b (l.take k) ≤ val b l := by
  have h := val_append b (l.take k) (l.drop k)
  rw [List.take_append_drop] at h
  have := Nat.le_mul_of_pos_right (val b (l.take k)) (Nat.pow_pos (n := (l.drop k).length) hb)
  omega
end M
end Go.Proofs.YtomgbcgaokebjaaDoor
