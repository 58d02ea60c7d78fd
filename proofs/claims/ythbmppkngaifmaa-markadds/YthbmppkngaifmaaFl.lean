/- Plain mathematics of floating point: whole numbers below two to the 53rd are their own floats; sums, differences and order of such floats are those of the numbers. No program in it. -/
import Derived.WalkLawsBesides
set_option linter.unusedVariables false
namespace Go.Proofs.Ythbmppkngaifmaa.Fl
open Ieee

/-- The float of a whole number. -/
def F (n : Int) : Nat := floatOfInt .f64 n

theorem lp : double.leastPlace = -1074 := by decide
theorem bn : double.binade = 4503599627370496 := by decide
theorem sw : double.signWeight = 9223372036854775808 := by decide
theorem ir : double.infRung = 9218868437227405312 := by decide

theorem cut_pow (neg : Bool) (N a d : Nat) (hN : 0 < N) (h : d ≤ a) : Toward.even.cut neg (N * 2 ^ a) d = N * 2 ^ (a - d) := by
  have hpos : 0 < N * 2 ^ a := Nat.mul_pos hN (Nat.two_pow_pos _)
  have hl : a ≤ (N * 2 ^ a).log2 := by
    rw [Nat.le_log2 (by omega)]
    exact Nat.le_mul_of_pos_left _ hN
  have e : N * 2 ^ a = N * 2 ^ (a - d) * 2 ^ d := by rw [Nat.mul_assoc, ← Nat.pow_add, Nat.sub_add_cancel h]
  have hm : min d ((N * 2 ^ a).log2 + 2) = d := by omega
  have h1 : N * 2 ^ a / 2 ^ d = N * 2 ^ (a - d) := by rw [e, Nat.mul_div_cancel _ (Nat.two_pow_pos _)]
  have h2 : N * 2 ^ a % 2 ^ d = 0 := by rw [e, Nat.mul_mod_left]
  have hp : 0 < 2 ^ d := Nat.two_pow_pos _
  unfold Toward.cut
  simp only [hm, Nat.one_shiftLeft, h1, h2]
  have b1 : decide (2 ^ d < 2 * 0) = false := by simp
  have b2 : (2 ^ d == 2 * 0) = false := by simp
  rw [b1, b2]
  simp

theorem log2_mul_pow (N a : Nat) (hN : 0 < N) : (N * 2 ^ a).log2 = N.log2 + a := by
  have hp : 0 < 2 ^ a := Nat.two_pow_pos _
  have hpos : 0 < N * 2 ^ a := Nat.mul_pos hN hp
  apply Nat.le_antisymm
  · have h1 : N * 2 ^ a < 2 ^ (N.log2 + a + 1) := by
      have := Nat.lt_log2_self (n := N)
      rw [show N.log2 + a + 1 = (N.log2 + 1) + a by omega, Nat.pow_add]
      exact Nat.mul_lt_mul_of_pos_right this hp
    have := (Nat.log2_lt (by omega)).2 h1
    omega
  · rw [Nat.le_log2 (by omega), Nat.pow_add]
    exact Nat.mul_le_mul_right _ (Nat.log2_self_le (by omega))

/-- The rung of a whole number. -/
def rung (N : Nat) : Nat := (N.log2 + 1022) * 4503599627370496 + N * 2 ^ (52 - N.log2)

theorem log2_le52 (N : Nat) (hN : 0 < N) (h : N < 9007199254740992) : N.log2 ≤ 52 := by
  have : N.log2 < 53 := (Nat.log2_lt (by omega)).2 (by omega)
  omega
theorem kept_bounds (N : Nat) (hN : 0 < N) (h : N < 9007199254740992) : 4503599627370496 ≤ N * 2 ^ (52 - N.log2) ∧ N * 2 ^ (52 - N.log2) < 9007199254740992 := by
  have hl := log2_le52 N hN h
  have h1 := Nat.log2_self_le (n := N) (by omega)
  have h2 := Nat.lt_log2_self (n := N)
  have e1 : 2 ^ N.log2 * 2 ^ (52 - N.log2) = 4503599627370496 := by rw [← Nat.pow_add, show N.log2 + (52 - N.log2) = 52 by omega]
  have e2 : 2 ^ (N.log2 + 1) * 2 ^ (52 - N.log2) = 9007199254740992 := by rw [← Nat.pow_add, show N.log2 + 1 + (52 - N.log2) = 53 by omega]
  constructor
  · rw [← e1]; exact Nat.mul_le_mul_right _ h1
  · rw [← e2]; exact Nat.mul_lt_mul_of_pos_right h2 (Nat.two_pow_pos _)

/-- Written as a whole number of smaller units it is the same float. -/
theorem nearest_pow (neg : Bool) (N t : Nat) (hN : 0 < N) (h : N < 9007199254740992) (ht : t ≤ 1074) : double.nearest neg (N * 2 ^ t) (-(t : Int)) = double.word neg (rung N) := by
  have hpos : 0 < N * 2 ^ t := Nat.mul_pos hN (Nat.two_pow_pos _)
  have hl := log2_le52 N hN h
  have hk := kept_bounds N hN h
  unfold Format.nearest
  rw [if_neg (by omega), log2_mul_pow N t hN, lp, bn, ir]
  have e : max (-(t : Int) + ((N.log2 + t : Nat) : Int) - ((double.fractionBits : Nat) : Int)) (-1074) = (N.log2 : Int) - 52 := by
    have : double.fractionBits = 52 := rfl
    rw [this]; omega
  simp only [e]
  have hr : Toward.even.cut neg ((N * 2 ^ t) <<< (-(t : Int) - ((N.log2 : Int) - 52)).toNat) ((N.log2 : Int) - 52 - -(t : Int)).toNat = N * 2 ^ (52 - N.log2) := by
    rcases Nat.le_total (52 - N.log2) t with c | c
    · rw [show (-(t : Int) - ((N.log2 : Int) - 52)).toNat = 0 by omega, show ((N.log2 : Int) - 52 - -(t : Int)).toNat = t - (52 - N.log2) by omega, Nat.shiftLeft_zero, cut_pow neg N t _ hN (by omega), show t - (t - (52 - N.log2)) = 52 - N.log2 by omega]
    · rw [show (-(t : Int) - ((N.log2 : Int) - 52)).toNat = 52 - N.log2 - t by omega, show ((N.log2 : Int) - 52 - -(t : Int)).toNat = 0 by omega, Nat.shiftLeft_eq, Nat.mul_assoc, ← Nat.pow_add, show t + (52 - N.log2 - t) = 52 - N.log2 by omega, cut_pow neg N _ 0 hN (by omega), Nat.sub_zero]
  rw [hr, show ((N.log2 : Int) - 52 - -1074).toNat = N.log2 + 1022 by omega, Nat.min_eq_left (by omega)]
  rfl

theorem read_word (neg : Bool) (N : Nat) (hN : 0 < N) (h : N < 9007199254740992) : double.read (double.word neg (rung N)) = .number neg (N * 2 ^ (52 - N.log2)) (-((52 - N.log2 : Nat) : Int)) := by
  have hl := log2_le52 N hN h
  have hk := kept_bounds N hN h
  unfold rung
  obtain ⟨K, hK⟩ : ∃ K, N * 2 ^ (52 - N.log2) = K := ⟨_, rfl⟩
  obtain ⟨l, hl'⟩ : ∃ l, N.log2 = l := ⟨_, rfl⟩
  rw [hK] at hk ⊢
  rw [hl'] at hl ⊢
  have hr : (l + 1022) * 4503599627370496 + K < 9223372036854775808 := by omega
  have h1 : double.word neg ((l + 1022) * 4503599627370496 + K) % 9223372036854775808 = (l + 1022) * 4503599627370496 + K := by
    unfold Format.word
    rw [sw]
    cases neg
    · simp; omega
    · simp; omega
  have h2 : (double.word neg ((l + 1022) * 4503599627370496 + K) / 9223372036854775808 % 2 == 1) = neg := by
    unfold Format.word
    rw [sw]
    cases neg
    · simp; omega
    · simp; omega
  unfold Format.read
  simp only [sw, bn, ir, lp, h1, h2]
  rw [if_neg (by omega), if_pos (by omega)]
  have e1 : 4503599627370496 + ((l + 1022) * 4503599627370496 + K) % 4503599627370496 = K := by omega
  have e2 : -1074 + ((((l + 1022) * 4503599627370496 + K) / 4503599627370496 - 1 : Nat) : Int) = -((52 - l : Nat) : Int) := by omega
  rw [e1, e2]

/-- What a float of a whole number stands for. -/
def Stands (d : Datum) (n : Int) : Prop := ∃ (s : Bool) (t : Nat), d = .number s (n.natAbs * 2 ^ t) (-(t : Int)) ∧ t ≤ 1074 ∧ (n < 0 → s = true) ∧ (0 < n → s = false)

theorem F_zero : F 0 = 0 := by decide
theorem F_pos (n : Int) (hn : n ≠ 0) (h : n.natAbs < 9007199254740992) : F n = double.word (decide (n < 0)) (rung n.natAbs) := by
  have := nearest_pow (decide (n < 0)) n.natAbs 0 (by omega) h (by omega)
  simpa [F, floatOfInt, FloatKind.nearest, FloatKind.encode, FloatKind.format, Format.write] using this
theorem stands_F (n : Int) (h : n.natAbs < 9007199254740992) : Stands (double.read (F n)) n ∧ (n = 0 → double.read (F n) = .number false 0 (-1074)) := by
  by_cases hn : n = 0
  · subst hn
    have : double.read (F 0) = .number false 0 (-1074) := by rw [F_zero]; decide
    obtain ⟨T, hT⟩ : ∃ T : Nat, T = 1074 := ⟨_, rfl⟩
    refine ⟨⟨false, T, ?_, by omega, by simp, by simp⟩, fun _ => this⟩
    rw [this, Int.natAbs_zero, Nat.zero_mul, hT]; rfl
  · rw [F_pos n hn h, read_word _ _ (by omega) h]
    exact ⟨⟨_, _, rfl, by omega, by simp, by simp; omega⟩, fun e => absurd e hn⟩

theorem signed_stands (s : Bool) (n : Int) (t T : Nat) (hT : t ≤ T) (h1 : n < 0 → s = true) (h2 : 0 < n → s = false) : signed s (n.natAbs * 2 ^ t) (-(t : Int) - -(T : Int)).toNat = n * 2 ^ T := by
  have e : (n.natAbs * 2 ^ t) <<< (-(t : Int) - -(T : Int)).toNat = n.natAbs * 2 ^ T := by
    rw [Nat.shiftLeft_eq, Nat.mul_assoc, ← Nat.pow_add]
    congr 2; omega
  have e2 : ((n.natAbs * 2 ^ T : Nat) : Int) = (n.natAbs : Int) * 2 ^ T := by rw [Int.natCast_mul, Int.natCast_pow]; rfl
  unfold signed
  rw [e, e2]
  rcases Int.lt_trichotomy n 0 with c | c | c
  · rw [h1 c, if_pos rfl]
    rw [show (n.natAbs : Int) = -n by omega, Int.neg_mul, Int.neg_neg]
  · subst c; simp
  · rw [h2 c]
    simp only [Bool.false_eq_true, if_false]
    rw [show (n.natAbs : Int) = n by omega]

theorem sum_stands {d e : Datum} {a b : Int} (hd : Stands d a) (he : Stands e b) : ∃ (g : Bool) (T : Nat), d.sum e = some (.number (if a + b = 0 then g else decide (a + b < 0)) ((a + b).natAbs * 2 ^ T) (-(T : Int))) ∧ T ≤ 1074 ∧ (g = true → ∃ m i m' i', d = .number true m i ∧ e = .number true m' i') := by
  obtain ⟨s, t, rfl, ht, h1, h2⟩ := hd
  obtain ⟨s', t', rfl, ht', h1', h2'⟩ := he
  have hb : min (-(t : Int)) (-(t' : Int)) = -((max t t' : Nat) : Int) := by omega
  refine ⟨s && s', max t t', ?_, by omega, ?_⟩
  · unfold Datum.sum
    simp only [hb]
    rw [signed_stands s a t (max t t') (by omega) h1 h2, signed_stands s' b t' (max t t') (by omega) h1' h2', ← Int.add_mul]
    have hp : (0 : Int) < 2 ^ (max t t') := Int.pow_pos (by decide)
    have e1 : ((a + b) * 2 ^ (max t t') = 0) ↔ (a + b = 0) := by
      constructor
      · intro h
        rcases Int.mul_eq_zero.1 h with k | k
        · exact k
        · omega
      · intro h; rw [h]; simp
    have e2 : ((a + b) * 2 ^ (max t t') < 0) ↔ (a + b < 0) := by
      constructor
      · intro h
        rcases Int.lt_or_le (a + b) 0 with k | k
        · exact k
        · have := Int.mul_nonneg k (Int.le_of_lt hp); omega
      · intro h; exact Int.mul_neg_of_neg_of_pos h hp
    have e3 : ((a + b) * 2 ^ (max t t')).natAbs = (a + b).natAbs * 2 ^ (max t t') := by
      rw [Int.natAbs_mul, Int.natAbs_pow]; rfl
    simp only [e1, e2, e3]
  · intro h
    rw [Bool.and_eq_true] at h
    obtain ⟨rfl, rfl⟩ := h
    exact ⟨_, _, _, _, rfl, rfl⟩

theorem write_stands (n : Int) (T : Nat) (h : n.natAbs < 9007199254740992) (hT : T ≤ 1074) : double.write (.number (if n = 0 then false else decide (n < 0)) (n.natAbs * 2 ^ T) (-(T : Int))) = F n := by
  by_cases hn : n = 0
  · subst hn
    rw [F_zero]
    simp [Format.write, Format.nearest, Format.word]
  · rw [if_neg hn, F_pos n hn h]
    exact nearest_pow _ _ _ (by omega) h hT

theorem stands_opp {d : Datum} {n : Int} (h : Stands d n) : Stands d.opposite (-n) := by
  obtain ⟨s, t, rfl, ht, h1, h2⟩ := h
  refine ⟨!s, t, ?_, ht, ?_, ?_⟩
  · simp [Datum.opposite]
  · intro h; rw [h2 (by omega)]; rfl
  · intro h; rw [h1 (by omega)]; rfl

theorem add_F (a b : Int) (ha : a.natAbs < 9007199254740992) (hb : b.natAbs < 9007199254740992) (hab : (a + b).natAbs < 9007199254740992) : floatBits .add .f64 (F a) (F b) = some (F (a + b)) := by
  have sa := stands_F a ha
  have sb := stands_F b hb
  obtain ⟨g, T, hs, hT, hg⟩ := sum_stands sa.1 sb.1
  have hg' : a + b = 0 → g = false := by
    intro hz
    cases g with
    | false => rfl
    | true =>
      obtain ⟨m, i, m', i', e1, e2⟩ := hg rfl
      obtain ⟨s, t, e3, _, h1, h2⟩ := sa.1
      obtain ⟨s', t', e4, _, h1', h2'⟩ := sb.1
      rw [e1] at e3; rw [e2] at e4
      injection e3 with e3; injection e4 with e4
      by_cases c : a = 0
      · have := sa.2 c; rw [e1] at this; injection this with k
      · rcases Int.lt_or_lt_of_ne c with c | c
        · have := h2' (by omega); rw [← e4] at this; cases this
        · have := h2 c; rw [← e3] at this; cases this
  show double.add (F a) (F b) = _
  unfold Format.add
  rw [hs, Option.map_some]
  have : (if a + b = 0 then g else decide (a + b < 0)) = (if a + b = 0 then false else decide (a + b < 0)) := by
    by_cases c : a + b = 0
    · rw [if_pos c, if_pos c, hg' c]
    · rw [if_neg c, if_neg c]
  rw [this, write_stands _ _ hab hT]

theorem sub_F (a b : Int) (ha : a.natAbs < 9007199254740992) (hb : b.natAbs < 9007199254740992) (hab : (a - b).natAbs < 9007199254740992) : floatBits .sub .f64 (F a) (F b) = some (F (a - b)) := by
  have sa := stands_F a ha
  have sb := stands_F b hb
  obtain ⟨g, T, hs, hT, hg⟩ := sum_stands sa.1 (stands_opp sb.1)
  have hg' : a + -b = 0 → g = false := by
    intro hz
    cases g with
    | false => rfl
    | true =>
      obtain ⟨m, i, m', i', e1, e2⟩ := hg rfl
      obtain ⟨s, t, e3, _, h1, h2⟩ := sa.1
      obtain ⟨s', t', e4, _, h1', h2'⟩ := sb.1
      rw [e1] at e3; rw [e4] at e2
      simp only [Datum.opposite] at e2
      injection e3 with e3; injection e2 with e2
      by_cases c : a = 0
      · have := sa.2 c; rw [e1] at this; injection this with k
      · rcases Int.lt_or_lt_of_ne c with c | c
        · have := h1' (by omega); rw [this] at e2; cases e2
        · have := h2 c; rw [← e3] at this; cases this
  show double.sub (F a) (F b) = _
  unfold Format.sub
  rw [hs, Option.map_some]
  have : (if a + -b = 0 then g else decide (a + -b < 0)) = (if a + -b = 0 then false else decide (a + -b < 0)) := by
    by_cases c : a + -b = 0
    · rw [if_pos c, if_pos c, hg' c]
    · rw [if_neg c, if_neg c]
  rw [this, ← Int.sub_eq_add_neg, write_stands _ _ hab hT]

theorem order_F (a b : Int) (ha : a.natAbs < 9007199254740992) (hb : b.natAbs < 9007199254740992) : FloatKind.f64.format.order (F a) (F b) = some (compare a b) := by
  obtain ⟨s, t, e1, ht, h1, h2⟩ := (stands_F a ha).1
  obtain ⟨s', t', e2, ht', h1', h2'⟩ := (stands_F b hb).1
  show double.order (F a) (F b) = _
  unfold Format.order
  rw [e1, e2]
  unfold Datum.order
  have hmin : min (-(t : Int)) (-(t' : Int)) = -((max t t' : Nat) : Int) := by omega
  simp only [hmin]
  rw [signed_stands s a t (max t t') (by omega) h1 h2, signed_stands s' b t' (max t t') (by omega) h1' h2']
  have hp : (0 : Int) < 2 ^ (max t t') := Int.pow_pos (by decide)
  congr 1
  rcases Int.lt_trichotomy a b with c | c | c
  · rw [Int.compare_eq_lt.2 c, Int.compare_eq_lt.2 (Int.mul_lt_mul_of_pos_right c hp)]
  · subst c; rw [Int.compare_eq_eq.2 rfl, Int.compare_eq_eq.2 rfl]
  · rw [Int.compare_eq_gt.2 c, Int.compare_eq_gt.2 (Int.mul_lt_mul_of_pos_right c hp)]

theorem eq_F (a b : Int) (ha : a.natAbs < 9007199254740992) (hb : b.natAbs < 9007199254740992) : (FloatKind.f64.format.order (F a) (F b) == some .eq) = decide (a = b) := by
  rw [order_F a b ha hb]
  rcases Int.lt_trichotomy a b with c | c | c
  · rw [Int.compare_eq_lt.2 c, decide_eq_false (by omega)]; rfl
  · rw [Int.compare_eq_eq.2 c, decide_eq_true c]; rfl
  · rw [Int.compare_eq_gt.2 c, decide_eq_false (by omega)]; rfl
theorem lt_F (a b : Int) (ha : a.natAbs < 9007199254740992) (hb : b.natAbs < 9007199254740992) : (FloatKind.f64.format.order (F a) (F b) == some .lt) = decide (a < b) := by
  rw [order_F a b ha hb]
  rcases Int.lt_trichotomy a b with c | c | c
  · rw [Int.compare_eq_lt.2 c, decide_eq_true c]; rfl
  · rw [Int.compare_eq_eq.2 c, decide_eq_false (by omega)]; rfl
  · rw [Int.compare_eq_gt.2 c, decide_eq_false (by omega)]; rfl
theorem gt_F (a b : Int) (ha : a.natAbs < 9007199254740992) (hb : b.natAbs < 9007199254740992) : (FloatKind.f64.format.order (F a) (F b) == some .gt) = decide (b < a) := by
  rw [order_F a b ha hb]
  rcases Int.lt_trichotomy a b with c | c | c
  · rw [Int.compare_eq_lt.2 c, decide_eq_false (by omega)]; rfl
  · rw [Int.compare_eq_eq.2 c, decide_eq_false (by omega)]; rfl
  · rw [Int.compare_eq_gt.2 c, decide_eq_true c]; rfl
theorem F_one : F 1 = 4607182418800017408 := by decide +kernel

end Go.Proofs.Ythbmppkngaifmaa.Fl
