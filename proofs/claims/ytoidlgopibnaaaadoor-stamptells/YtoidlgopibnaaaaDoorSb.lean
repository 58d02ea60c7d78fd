/- Plain mathematics: texts put together of two digits each are read as they were put together. -/
import Derived.Test.YtoidlgopibnaaaaDoorSa
set_option linter.unusedVariables false
namespace Go.Proofs.YtoidlgopibnaaaaDoor
namespace M

theorem dB_dig {a : Nat} (h : a < 10) : dB (dch a) = true := by
  simp [dB, dch_nat h]; omega
theorem sub_dig {a : Nat} (h : a < 10) : (dch a).toNat - 48 = a := by
  rw [dch_nat h]; omega
theorem cnt2 {n : Nat} (h : n < 100) (r : List UInt8) : cnt 2 (d2 n ++ r) = 2 := by
  simp [d2, cnt, dB_dig (show n / 10 < 10 by omega), dB_dig (show n % 10 < 10 by omega)]
theorem nv2 {n : Nat} (h : n < 100) (r : List UInt8) : nv 2 0 (d2 n ++ r) = n := by
  simp only [d2, List.cons_append, List.nil_append, nv, dB_dig (show n / 10 < 10 by omega), dB_dig (show n % 10 < 10 by omega), if_true, sub_dig (show n / 10 < 10 by omega), sub_dig (show n % 10 < 10 by omega)]
  omega
theorem dr2 (n : Nat) (r : List UInt8) : (d2 n ++ r).drop 2 = r := rfl
theorem dr3 (n : Nat) (c : UInt8) (r : List UInt8) : (d2 n ++ (c :: r)).drop 3 = r := rfl
theorem cnt4 {n : Nat} (h : n < 10000) (r : List UInt8) : cnt 4 (d4 n ++ r) = 4 := by
  simp [d4, d2, cnt, dB_dig (show n / 100 / 10 < 10 by omega), dB_dig (show n / 100 % 10 < 10 by omega), dB_dig (show n % 100 / 10 < 10 by omega), dB_dig (show n % 10 < 10 by omega)]
theorem nv4 {n : Nat} (h : n < 10000) (r : List UInt8) : nv 4 0 (d4 n ++ r) = n := by
  simp only [d4, d2, List.cons_append, List.nil_append, nv, dB_dig (show n / 100 / 10 < 10 by omega), dB_dig (show n / 100 % 10 < 10 by omega), dB_dig (show n % 100 / 10 < 10 by omega), dB_dig (show n % 100 % 10 < 10 by omega), if_true,
    sub_dig (show n / 100 / 10 < 10 by omega), sub_dig (show n / 100 % 10 < 10 by omega), sub_dig (show n % 100 / 10 < 10 by omega), sub_dig (show n % 100 % 10 < 10 by omega)]
  omega
theorem dr4 (n : Nat) (r : List UInt8) : (d4 n ++ r).drop 4 = r := rfl
theorem dr5 (n : Nat) (c : UInt8) (r : List UInt8) : (d4 n ++ (c :: r)).drop 5 = r := rfl
theorem len_d2 (n : Nat) : (d2 n).length = 2 := rfl
theorem len_d4 (n : Nat) : (d4 n).length = 4 := rfl
theorem cnt1 {n : Nat} (h : n < 10) (r : List UInt8) : cnt 2 (dch n :: 58 :: r) = 1 := by
  have h58 : dB 58 = false := by decide
  simp [cnt, dB_dig h, h58]
theorem nv1 {n : Nat} (h : n < 10) (r : List UInt8) : nv 2 0 (dch n :: 58 :: r) = n := by
  have h58 : dB 58 = false := by decide
  simp only [nv, dB_dig h, h58, if_true, sub_dig h]
  simp

theorem rd_of {y m d : Nat} (hy : y < 10000) (hm : m < 100) (hd : d < 100) (r : List UInt8) :
    rd (d4 y ++ (45 :: (d2 m ++ (45 :: (d2 d ++ r))))) = rTail (10 + r.length) { M0 with y := y, m := m, d := d } r := by
  have hl : (d4 y ++ (45 :: (d2 m ++ (45 :: (d2 d ++ r))))).length = 10 + r.length := by
    simp only [List.length_append, List.length_cons, len_d2, len_d4]; omega
  unfold rd
  rw [if_pos (cnt4 hy _), dr4, List.head?_cons, if_pos rfl, hl, dr5, nv4 hy]
  unfold rMon
  rw [cnt2 hm, if_neg (by decide), dr2, List.head?_cons, if_pos rfl, dr3, nv2 hm]
  unfold rDay
  rw [cnt2 hd, if_neg (by decide), dr2, nv2 hd]
/-- Behind the seconds. -/
def aRest (M : Mo) (r : List UInt8) : Option Mo := if r.head? = some 46 then aPl M [] (r.drop 1) else cClk M r
theorem aDay_of (M : Mo) {h mi se : Nat} (h1 : h < 100) (h2 : mi < 100) (h3 : se < 100) (r : List UInt8) :
    aDay M (d2 h ++ (58 :: (d2 mi ++ (58 :: (d2 se ++ r))))) = aRest { M with td := true, h := h, mi := mi, se := se } r := by
  unfold aDay
  rw [cnt2 h1, if_neg (by decide), dr2, List.head?_cons, if_pos rfl, dr3, nv2 h1]
  unfold aMin
  rw [cnt2 h2, if_pos rfl, dr2, List.head?_cons, if_pos rfl, dr3, nv2 h2]
  unfold aSec
  rw [cnt2 h3, if_pos rfl, dr2, nv2 h3]
  unfold aRest
  rfl
theorem aPl_of (M : Mo) (g f r : List UInt8) (hf : ∀ c ∈ f, dB c = true) (hr : ∀ c, r.head? = some c → dB c = false) :
    aPl M g (f ++ r) = cClk { M with fr := g ++ f } r := by
  induction f generalizing g with
  | nil =>
    rw [List.nil_append, List.append_nil]
    cases r with
    | nil => rfl
    | cons c r => rw [aPl, if_neg (by rw [hr c rfl]; decide)]
  | cons c f ih =>
    rw [List.cons_append, aPl, if_pos (hf c (by simp)), ih _ (fun x hx => hf x (by simp [hx])), List.append_assoc]; rfl
theorem aRest_none (M : Mo) : aRest M [] = some M := rfl
theorem aRest_Z (M : Mo) : aRest M [90] = some M := rfl
theorem aRest_dot (M : Mo) (f r : List UInt8) (hf : ∀ c ∈ f, dB c = true) (hr : ∀ c, r.head? = some c → dB c = false) : aRest M (46 :: (f ++ r)) = cClk { M with fr := f } r := by
  unfold aRest
  rw [List.head?_cons, if_pos rfl]
  exact aPl_of M [] f r hf hr
theorem cBl_blank (M : Mo) {c : UInt8} (h : bB c = true) (r : List UInt8) : cBl M (c :: r) = cBl M r := by rw [cBl, if_pos h]
theorem cBl_blanks (M : Mo) (b r : List UInt8) (h : ∀ c ∈ b, bB c = true) : cBl M (b ++ r) = cBl M r := by
  induction b with
  | nil => rfl
  | cons c b ih => rw [List.cons_append, cBl_blank M (h c (by simp)), ih fun x hx => h x (by simp [hx])]
theorem rBl_blanks (M : Mo) (b r : List UInt8) (h : ∀ c ∈ b, bB c = true) (hr : ∀ c, r.head? = some c → bB c = false) : rBl M (b ++ r) = aDay M r := by
  induction b with
  | nil =>
    rw [List.nil_append]
    cases r with
    | nil => rfl
    | cons c r => rw [rBl, if_neg (by rw [hr c rfl]; decide)]
  | cons c b ih => rw [List.cons_append, rBl, if_pos (h c (by simp)), ih fun x hx => h x (by simp [hx])]
theorem bB_dig {a : Nat} (h : a < 10) : bB (dch a) = false := by
  simp [bB, dch_nat h]; omega
theorem bB_head (n : Nat) (h : n < 100) (r : List UInt8) : ∀ c, (d2 n ++ r).head? = some c → bB c = false := by
  intro c hc
  simp [d2] at hc
  rw [← hc]
  have := bB_dig (show n / 10 < 10 by omega)
  simpa using this
theorem rTail_T (n : Nat) (M : Mo) (r : List UInt8) : rTail n M (84 :: r) = aDay M r := rfl
theorem rTail_t (n : Nat) (M : Mo) (r : List UInt8) : rTail n M (116 :: r) = aDay M r := rfl
theorem rTail_blanks (n : Nat) (M : Mo) (b r : List UInt8) (hb : b ≠ []) (h : ∀ c ∈ b, bB c = true) (hr : ∀ c, r.head? = some c → bB c = false) : rTail n M (b ++ r) = aDay M r := by
  cases b with
  | nil => exact absurd rfl hb
  | cons c b =>
    have hc := h c (by simp)
    rw [List.cons_append, rTail, if_neg (by rintro rfl; revert hc; decide), if_neg (by rintro rfl; revert hc; decide), if_pos hc]
    exact rBl_blanks M b r (fun x hx => h x (by simp [hx])) hr
/-- A zone's text behind the blanks. -/
theorem cBl_zone (M : Mo) {c : UInt8} (b : Bool) (hc : c = if b then 45 else 43) {h m : Nat} (h1 : h < 100) (h2 : m < 100) : cBl M (c :: (d2 h ++ (58 :: d2 m))) = some { M with bh := b, zh := h, zm := m } := by
  have key : ∀ M : Mo, cHour M (d2 h ++ (58 :: d2 m)) = some { M with zh := h, zm := m } := by
    intro M
    unfold cHour
    rw [cnt2 h1, if_neg (by decide), dr2, List.head?_cons, if_pos rfl, dr3, nv2 h1]
    unfold cMin
    have := cnt2 h2 []
    rw [List.append_nil] at this
    have v := nv2 h2 []
    rw [List.append_nil] at v
    rw [this, if_pos rfl, v]; rfl
  cases b
  · subst hc
    rw [cBl, if_neg (by decide), if_neg (by decide), if_pos (by decide), key]
  · subst hc
    rw [cBl, if_neg (by decide), if_neg (by decide), if_neg (by decide), if_pos (by decide), key]
theorem cBl_zone1 (M : Mo) {c : UInt8} (b : Bool) (hc : c = if b then 45 else 43) {h m : Nat} (h1 : h < 10) (h2 : m < 100) : cBl M (c :: dch h :: (58 :: d2 m)) = some { M with bh := b, zh := h, zm := m } := by
  have key : ∀ M : Mo, cHour M (dch h :: (58 :: d2 m)) = some { M with zh := h, zm := m } := by
    intro M
    unfold cHour
    rw [cnt1 h1, if_neg (by decide), nv1 h1]
    show (if (List.head? (58 :: d2 m)) = some 58 then _ else _) = _
    rw [List.head?_cons, if_pos rfl]
    show cMin _ (d2 m) = _
    unfold cMin
    have := cnt2 h2 []
    rw [List.append_nil] at this
    have v := nv2 h2 []
    rw [List.append_nil] at v
    rw [this, if_pos rfl, v]; rfl
  cases b
  · subst hc
    rw [cBl, if_neg (by decide), if_neg (by decide), if_pos (by decide), key]
  · subst hc
    rw [cBl, if_neg (by decide), if_neg (by decide), if_neg (by decide), if_pos (by decide), key]

theorem days_le (y m : Nat) : days y m ≤ 31 := by unfold days; split; split <;> omega; split; omega; split <;> omega
theorem days_pos {y m : Nat} (h1 : 1 ≤ m) (h2 : m ≤ 12) : 28 ≤ days y m := by unfold days; split; split <;> omega; split; omega; split <;> omega
theorem days_zero {y m : Nat} (h : m = 0 ∨ 12 < m) : days y m = 0 := by
  unfold days; rw [if_neg (by omega), if_neg (by omega), if_pos h]
theorem days_dec (y : Nat) : days y 12 = 31 := rfl
theorem days_jan (y : Nat) : days y 1 = 31 := rfl
theorem may_iff (M : Mo) : may M = true ↔ (1 ≤ M.d ∧ M.d ≤ days M.y M.m) ∧ (M.h < 24 ∧ M.mi < 60 ∧ M.se < 60) ∧ M.zh < 24 ∧ M.zm < 60 := by
  simp [may, mayD, mayC, mayZ]
theorem month_of {M : Mo} (h : 1 ≤ M.d ∧ M.d ≤ days M.y M.m) : 1 ≤ M.m ∧ M.m ≤ 12 := by
  by_cases hz : M.m = 0 ∨ 12 < M.m
  · rw [days_zero hz] at h; omega
  · omega
/-- The parts in the zone Z are parts that there are. -/
theorem zy_ok {M : Mo} (h : may M = true) (he : early M = false) (hy : (zy M).1 ≤ 9999) :
    1 ≤ (zy M).2.1 ∧ (zy M).2.1 ≤ 12 ∧ 1 ≤ (zy M).2.2.1 ∧ (zy M).2.2.1 ≤ days (zy M).1 (zy M).2.1 ∧ (zy M).2.2.2 < 1440 := by
  obtain ⟨hd, ⟨h1, h2, h3⟩, h4, h5⟩ := (may_iff M).1 h
  obtain ⟨m1, m2⟩ := month_of hd
  have ho : off M < 1440 ∧ -1440 < off M := by unfold off; split <;> omega
  have hm : mins M = ((60 * M.h + M.mi : Nat) : Int) - off M := rfl
  generalize mins M = z at *
  have e : zy M = if z < 0 then (let p := bef M.y M.m M.d; (p.1, p.2.1, p.2.2, (z + 1440).toNat))
      else if 1440 ≤ z then (let p := aft M.y M.m M.d; (p.1, p.2.1, p.2.2, (z - 1440).toNat)) else (M.y, M.m, M.d, z.toNat) := by
    unfold zy mins
    rw [← hm]
  rw [e] at hy ⊢
  clear e
  by_cases hz : z < 0
  · rw [if_pos hz] at hy ⊢
    unfold bef at hy ⊢
    by_cases hd1 : 1 < M.d
    · rw [if_pos hd1] at hy ⊢
      dsimp only at hy ⊢
      exact ⟨m1, m2, by omega, by omega, by omega⟩
    · rw [if_neg hd1] at hy ⊢
      by_cases hm1 : 1 < M.m
      · rw [if_pos hm1] at hy ⊢
        dsimp only at hy ⊢
        have := days_pos (y := M.y) (m := M.m - 1) (by omega) (by omega)
        exact ⟨by omega, by omega, by omega, Nat.le_refl _, by omega⟩
      · rw [if_neg hm1] at hy ⊢
        dsimp only at hy ⊢
        rw [days_dec]
        exact ⟨by omega, by omega, by omega, by omega, by omega⟩
  · rw [if_neg hz] at hy ⊢
    by_cases hz2 : 1440 ≤ z
    · rw [if_pos hz2] at hy ⊢
      unfold aft at hy ⊢
      by_cases hd1 : M.d < days M.y M.m
      · rw [if_pos hd1] at hy ⊢
        dsimp only at hy ⊢
        exact ⟨m1, m2, by omega, by omega, by omega⟩
      · rw [if_neg hd1] at hy ⊢
        by_cases hm1 : M.m < 12
        · rw [if_pos hm1] at hy ⊢
          dsimp only at hy ⊢
          have := days_pos (y := M.y) (m := M.m + 1) (by omega) (by omega)
          exact ⟨by omega, by omega, by omega, by omega, by omega⟩
        · rw [if_neg hm1] at hy ⊢
          dsimp only at hy ⊢
          rw [days_jan]
          exact ⟨by omega, by omega, by omega, by omega, by omega⟩
    · rw [if_neg hz2] at hy ⊢
      exact ⟨m1, m2, hd.1, hd.2, by show z.toNat < 1440; omega⟩
/-- Within a day. -/
theorem zt_same {M : Mo} {n : Nat} (h : mins M = (n : Int)) (hn : n < 1440) (hy : M.y ≤ 9999) : zt M = some (ttx M.y M.m M.d n M.se M.fr) := by
  have e : zy M = (M.y, M.m, M.d, n) := by
    unfold zy
    rw [if_neg (by omega), if_neg (by omega), h]; rfl
  have he : early M = false := by unfold early; rw [decide_eq_false (by omega)]; rfl
  unfold zt
  rw [he, e, if_neg (by decide), if_neg (by show ¬ 9999 < M.y; omega)]

theorem tz_sub (l : List UInt8) : ∀ c ∈ tz l, c ∈ l := by
  intro c hc
  unfold tz at hc
  rw [List.mem_reverse] at hc
  have := (List.dropWhile_sublist (fun x : UInt8 => x == 48) (l := l.reverse)).subset hc
  rwa [List.mem_reverse] at this
theorem dW_idem (l : List UInt8) : (l.dropWhile (· == 48)).dropWhile (· == 48) = l.dropWhile (· == 48) := by
  induction l with
  | nil => rfl
  | cons c l ih =>
    by_cases h : (c == 48) = true
    · rw [List.dropWhile_cons_of_pos (by simpa using h)]; exact ih
    · rw [List.dropWhile_cons_of_neg (by simpa using h), List.dropWhile_cons_of_neg (by simpa using h)]
theorem tz_tz (l : List UInt8) : tz (tz l) = tz l := by
  unfold tz
  rw [List.reverse_reverse, dW_idem]
/-- A moment's own text is read as it is. -/
theorem rd_ttx {y m d n se : Nat} {f : List UInt8} (hy : y < 10000) (hm : m < 100) (hd : d < 100) (hn : n < 1440) (hs : se < 60) (hf : ∀ c ∈ f, dB c = true) :
    rd (ttx y m d n se f) = some ⟨y, m, d, true, n / 60, n % 60, se, tz f, false, 0, 0⟩ := by
  unfold ttx
  rw [rd_of hy hm hd, rTail_T, aDay_of _ (by omega) (by omega) (by omega)]
  unfold dot
  split
  · rename_i h; rw [h, List.nil_append, aRest_Z]; rfl
  · rw [List.cons_append, aRest_dot _ _ _ (fun c hc => hf c (tz_sub f c hc)) (by intro c hc; simp at hc; subst hc; decide)]; rfl
theorem of_ttx {y m d n se : Nat} {f : List UInt8} (hy : y < 10000) (h1 : 1 ≤ d) (h2 : d ≤ days y m) (hn : n < 1440) (hs : se < 60) (hf : ∀ c ∈ f, dB c = true) :
    ofS (ttx y m d n se f) = some (ttx y m d n se f) := by
  have hd := days_le y m
  have hm : 1 ≤ m ∧ m ≤ 12 := by
    by_cases hz : m = 0 ∨ 12 < m
    · rw [days_zero hz] at h2; omega
    · omega
  unfold ofS
  rw [rd_ttx hy (by omega) (by omega) hn hs hf]
  have hmay : may ⟨y, m, d, true, n / 60, n % 60, se, tz f, false, 0, 0⟩ = true := (may_iff _).2 ⟨⟨h1, h2⟩, ⟨by show n / 60 < 24; omega, by show n % 60 < 60; omega, hs⟩, by show 0 < 24; omega, by show 0 < 60; omega⟩
  show (if may _ = true then _ else none) = _
  rw [if_pos hmay]
  have hmin : mins ⟨y, m, d, true, n / 60, n % 60, se, tz f, false, 0, 0⟩ = (n : Int) := by
    simp only [mins, off]
    show ((60 * (n / 60) + n % 60 : Nat) : Int) - 0 = _
    omega
  show (if true = true then zt _ else _) = _
  rw [if_pos rfl, zt_same hmin hn (by show y ≤ 9999; omega)]
  show some (ttx y m d n se (tz f)) = _
  unfold ttx
  rw [tz_tz]

theorem fr_cLast {M X : Mo} {l : List UInt8} (h : cLast M l = some X) : X = M := by
  unfold cLast at h; split at h
  · exact (Option.some.inj h).symm
  · cases h
theorem fr_cHour {M X : Mo} {l : List UInt8} (h : cHour M l = some X) : X.fr = M.fr := by
  unfold cHour at h; split at h
  · cases h
  · split at h
    · unfold cMin at h; split at h
      · rw [fr_cLast h]
      · cases h
    · rw [fr_cLast h]
theorem fr_cBl {M X : Mo} {l : List UInt8} (h : cBl M l = some X) : X.fr = M.fr := by
  induction l with
  | nil => cases h
  | cons c r ih =>
    rw [cBl] at h
    split at h
    · exact ih h
    · split at h
      · rw [fr_cLast h]
      · split at h
        · rw [fr_cHour h]
        · split at h
          · rw [fr_cHour h]
          · cases h
theorem fr_cClk {M X : Mo} {l : List UInt8} (h : cClk M l = some X) : X.fr = M.fr := by
  unfold cClk at h; split at h
  · rw [← Option.some.inj h]
  · exact fr_cBl h
theorem fr_aPl {M X : Mo} {g l : List UInt8} (hg : ∀ c ∈ g, dB c = true) (h : aPl M g l = some X) : ∀ c ∈ X.fr, dB c = true := by
  induction l generalizing g with
  | nil => rw [aPl] at h; rw [fr_cClk h]; exact hg
  | cons c r ih =>
    rw [aPl] at h
    split at h
    · rename_i hc
      refine ih (fun x hx => ?_) h
      rcases List.mem_append.1 hx with k | k
      · exact hg x k
      · rw [List.mem_singleton.1 k]; exact hc
    · rw [fr_cClk h]; exact hg
theorem fr_aDay {M X : Mo} {l : List UInt8} (h0 : M.fr = []) (h : aDay M l = some X) : ∀ c ∈ X.fr, dB c = true := by
  have nil : ∀ Y : Mo, Y.fr = [] → ∀ c ∈ Y.fr, dB c = true := fun Y e c hc => by rw [e] at hc; cases hc
  unfold aDay at h; split at h
  · cases h
  · split at h
    · unfold aMin at h; split at h
      · split at h
        · unfold aSec at h; split at h
          · split at h
            · exact fr_aPl (by intro c hc; cases hc) h
            · exact nil X (by rw [fr_cClk h]; exact h0)
          · cases h
        · cases h
      · cases h
    · cases h
theorem fr_rBl {M X : Mo} {l : List UInt8} (h0 : M.fr = []) (h : rBl M l = some X) : ∀ c ∈ X.fr, dB c = true := by
  induction l with
  | nil => exact fr_aDay h0 h
  | cons c r ih =>
    rw [rBl] at h; split at h
    · exact ih h
    · exact fr_aDay h0 h
theorem fr_rd {X : Mo} {l : List UInt8} (h : rd l = some X) : ∀ c ∈ X.fr, dB c = true := by
  unfold rd at h; split at h
  · split at h
    · unfold rMon at h; split at h
      · cases h
      · split at h
        · unfold rDay at h; split at h
          · cases h
          · unfold rTail at h; split at h
            · split at h
              · rw [← Option.some.inj h]; intro c hc; cases hc
              · cases h
            · split at h
              · exact fr_aDay rfl h
              · split at h
                · exact fr_aDay rfl h
                · split at h
                  · exact fr_rBl rfl h
                  · cases h
        · cases h
    · cases h
  · cases h
/-- A text that is told is its own text. -/
theorem of_of {l a : List UInt8} (h : ofS l = some a) : ofS a = some a := by
  have h' := h
  unfold ofS at h'
  split at h'
  · cases h'
  · rename_i M hM
    split at h'
    · rename_i hmay
      split at h'
      · unfold zt at h'
        split at h'
        · cases h'
        · rename_i he
          split at h'
          · cases h'
          · rename_i hy
            have he' : early M = false := by simpa using he
            obtain ⟨m1, m2, d1, d2', n1⟩ := zy_ok hmay he' (by omega)
            obtain ⟨_, ⟨_, _, h3⟩, _, _⟩ := (may_iff M).1 hmay
            rw [← Option.some.inj h']
            exact of_ttx (by omega) d1 d2' n1 h3 (fr_rd hM)
      · rw [← Option.some.inj h']
        have e : a = l := (Option.some.inj h').symm
        rw [e] at h
        exact h
    · cases h'
/-- A date with all its digits. -/
theorem of_date {y m d : Nat} (hy : y < 10000) (hm : m < 100) (hd : d < 100) :
    ofS (d4 y ++ (45 :: (d2 m ++ (45 :: d2 d)))) = if 1 ≤ d ∧ d ≤ days y m then some (d4 y ++ (45 :: (d2 m ++ (45 :: d2 d)))) else none := by
  have e := rd_of hy hm hd []
  rw [List.append_nil] at e
  unfold ofS
  rw [e]
  show (if may { M0 with y := y, m := m, d := d } = true then some _ else none) = _
  congr 1
  rw [may_iff]
  show ((1 ≤ d ∧ d ≤ days y m) ∧ _) = _
  simp [M0]
/-- The same without its last digit. -/
theorem of_short {y m d : Nat} (hy : y < 10000) (hm : m < 100) (hd : d < 10) :
    ofS (d4 y ++ (45 :: (d2 m ++ (45 :: [dch d])))) = none := by
  have e : rd (d4 y ++ (45 :: (d2 m ++ (45 :: [dch d])))) = none := by
    unfold rd
    rw [if_pos (cnt4 hy _), dr4, List.head?_cons, if_pos rfl, dr5, nv4 hy]
    unfold rMon
    rw [cnt2 hm, if_neg (by decide), dr2, List.head?_cons, if_pos rfl, dr3, nv2 hm]
    unfold rDay
    have hc : cnt 2 [dch d] = 1 := by simp [cnt, dB_dig hd]
    rw [hc, if_neg (by decide)]
    rfl
  unfold ofS
  rw [e]
end M
end Go.Proofs.YtoidlgopibnaaaaDoor
