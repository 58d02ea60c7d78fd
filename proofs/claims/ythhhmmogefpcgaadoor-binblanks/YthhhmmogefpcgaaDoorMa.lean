/- Plain mathematics: bytes as texts: how three bytes are four signs, and back; blanks taken out. -/
namespace Go.Proofs.YthhhmmogefpcgaaDoor.M

/-- The signs for 0 to 63. -/
def sgs : List UInt8 := [65, 66, 67, 68, 69, 70, 71, 72, 73, 74, 75, 76, 77, 78, 79, 80, 81, 82, 83, 84, 85, 86, 87, 88, 89, 90, 97, 98, 99, 100, 101, 102, 103, 104, 105, 106, 107, 108, 109, 110, 111, 112, 113, 114, 115, 116, 117, 118, 119, 120, 121, 122, 48, 49, 50, 51, 52, 53, 54, 55, 56, 57, 43, 47]
def sg (k : Nat) : UInt8 := sgs.getD k 0
/-- What a byte says as a sign; one that is none says 0. -/
def vl (c : UInt8) : Nat := (List.range 64).foldl (fun v k => if sg k = c then k else v) 0
theorem vl_sg : ∀ k, k < 64 → vl (sg k) = k := by decide +kernel
theorem sg_vl_lt (c : UInt8) : vl c < 64 := by
  have h : ∀ n, n < 256 → vl (UInt8.ofNat n) < 64 := by decide +kernel
  have := h c.toNat c.toNat_lt
  rwa [UInt8.ofNat_toNat] at this
theorem sg_pad : ∀ k, k < 64 → sg k ≠ 61 := by decide +kernel
def bl (c : UInt8) : Bool := c == 32 || c == 9 || c == 10 || c == 13
theorem sg_bl : ∀ k, k < 64 → bl (sg k) = false := by decide +kernel

/-- The number of three bytes. -/
def D3 (x y z : UInt8) : Nat := x.toNat * 65536 + y.toNat * 256 + z.toNat
/-- How the first n of three bytes are written. -/
def S4 (x y z : UInt8) (n : Nat) : List UInt8 :=
  [sg (D3 x y z / 262144), sg (D3 x y z / 4096 % 64), if n < 2 then 61 else sg (D3 x y z / 64 % 64), if n < 3 then 61 else sg (D3 x y z % 64)]
/-- The number of four signs. -/
def D4 (a b c d : UInt8) : Nat := ((vl a * 64 + vl b) * 64 + vl c) * 64 + vl d
/-- How many bytes four say. -/
def cnt (c d : UInt8) : Nat := if d ≠ 61 then 3 else if c ≠ 61 then 2 else 1
def b0 (k : Nat) : UInt8 := UInt8.ofNat (k / 65536)
def b1 (k : Nat) : UInt8 := UInt8.ofNat (k / 256)
def b2 (k : Nat) : UInt8 := UInt8.ofNat k
/-- The three bytes of four signs. -/
def x0 (a b c d : UInt8) : UInt8 := b0 (D4 a b c d)
def x1 (a b c d : UInt8) : UInt8 := if cnt c d < 2 then 0 else b1 (D4 a b c d)
def x2 (a b c d : UInt8) : UInt8 := if cnt c d < 3 then 0 else b2 (D4 a b c d)
theorem cnt_lt (c d : UInt8) : 1 ≤ cnt c d ∧ cnt c d ≤ 3 := by
  unfold cnt
  split
  · omega
  · split <;> omega
/-- The text of some bytes. -/
def TX : List UInt8 → List UInt8
  | [] => []
  | [x] => S4 x 0 0 1
  | [x, y] => S4 x y 0 2
  | x :: y :: z :: r => S4 x y z 3 ++ TX r
def wellB (a b c d : UInt8) (r : List UInt8) : Bool := decide (S4 (x0 a b c d) (x1 a b c d) (x2 a b c d) (cnt c d) = [a, b, c, d]) && (decide (cnt c d = 3) || r.isEmpty)
/-- The bytes of a text without blanks. -/
def dec : List UInt8 → Option (List UInt8)
  | [] => some []
  | a :: b :: c :: d :: r => if wellB a b c d r = true then (dec r).map fun s => [x0 a b c d, x1 a b c d, x2 a b c d].take (cnt c d) ++ s else none
  | _ => none
/-- Blanks taken out. -/
def bare (l : List UInt8) : List UInt8 := l.filter fun c => !bl c
/-- What Bytes answers. -/
def by_ (l : List UInt8) : List UInt8 := (dec (bare l)).getD []
def ok (l : List UInt8) : Bool := (dec (bare l)).isSome

theorem s4_len (x y z : UInt8) (n : Nat) : (S4 x y z n).length = 4 := rfl
theorem b0_lt (x y z : UInt8) : D3 x y z < 16777216 := by
  have := x.toNat_lt; have := y.toNat_lt; have := z.toNat_lt
  unfold D3; omega
theorem vlD (x y z : UInt8) : D4 (sg (D3 x y z / 262144)) (sg (D3 x y z / 4096 % 64)) (sg (D3 x y z / 64 % 64)) (sg (D3 x y z % 64)) = D3 x y z := by
  have h := b0_lt x y z
  unfold D4
  rw [vl_sg _ (by omega), vl_sg _ (by omega), vl_sg _ (by omega), vl_sg _ (by omega)]
  omega
theorem vl_pad : vl 61 = 0 := by decide +kernel
theorem d3_0 (x y z : UInt8) : b0 (D3 x y z) = x := by
  apply UInt8.toNat_inj.1
  have := x.toNat_lt; have := y.toNat_lt; have := z.toNat_lt
  unfold b0 D3
  rw [UInt8.toNat_ofNat']; omega
theorem d3_1 (x y z : UInt8) : b1 (D3 x y z) = y := by
  apply UInt8.toNat_inj.1
  have := x.toNat_lt; have := y.toNat_lt; have := z.toNat_lt
  unfold b1 D3
  rw [UInt8.toNat_ofNat']; omega
theorem d3_2 (x y z : UInt8) : b2 (D3 x y z) = z := by
  apply UInt8.toNat_inj.1
  have := x.toNat_lt; have := y.toNat_lt; have := z.toNat_lt
  unfold b2 D3
  rw [UInt8.toNat_ofNat']; omega
/-- Three bytes written are read. -/
theorem read3 (x y z : UInt8) (r : List UInt8) : dec (S4 x y z 3 ++ r) = (dec r).map fun s => x :: y :: z :: s := by
  have h := b0_lt x y z
  have e : S4 x y z 3 = [sg (D3 x y z / 262144), sg (D3 x y z / 4096 % 64), sg (D3 x y z / 64 % 64), sg (D3 x y z % 64)] := by
    unfold S4; simp
  have hc : cnt (sg (D3 x y z / 64 % 64)) (sg (D3 x y z % 64)) = 3 := by unfold cnt; rw [if_pos (sg_pad _ (by omega))]
  have h0 : x0 (sg (D3 x y z / 262144)) (sg (D3 x y z / 4096 % 64)) (sg (D3 x y z / 64 % 64)) (sg (D3 x y z % 64)) = x := by unfold x0; rw [vlD, d3_0]
  have h1 : x1 (sg (D3 x y z / 262144)) (sg (D3 x y z / 4096 % 64)) (sg (D3 x y z / 64 % 64)) (sg (D3 x y z % 64)) = y := by unfold x1; rw [hc, if_neg (by omega), vlD, d3_1]
  have h2 : x2 (sg (D3 x y z / 262144)) (sg (D3 x y z / 4096 % 64)) (sg (D3 x y z / 64 % 64)) (sg (D3 x y z % 64)) = z := by unfold x2; rw [hc, if_neg (by omega), vlD, d3_2]
  rw [e]
  show dec (_ :: _ :: _ :: _ :: r) = _
  rw [dec, if_pos (by unfold wellB; rw [hc, h0, h1, h2, e]; simp), hc, h0, h1, h2]
  rfl
theorem read2 (x y : UInt8) : dec (S4 x y 0 2) = some [x, y] := by
  have h := b0_lt x y 0
  have e : S4 x y 0 2 = [sg (D3 x y 0 / 262144), sg (D3 x y 0 / 4096 % 64), sg (D3 x y 0 / 64 % 64), 61] := by
    unfold S4; simp
  have hc : cnt (sg (D3 x y 0 / 64 % 64)) 61 = 2 := by unfold cnt; rw [if_neg (by simp), if_pos (sg_pad _ (by omega))]
  have hD : D4 (sg (D3 x y 0 / 262144)) (sg (D3 x y 0 / 4096 % 64)) (sg (D3 x y 0 / 64 % 64)) 61 = D3 x y 0 := by
    unfold D4
    rw [vl_sg _ (by omega), vl_sg _ (by omega), vl_sg _ (by omega), vl_pad]
    have h0 : (0 : UInt8).toNat = 0 := rfl
    have hx : D3 x y 0 = x.toNat * 65536 + y.toNat * 256 + (0 : UInt8).toNat := rfl
    rw [h0] at hx
    omega
  have h0 : x0 (sg (D3 x y 0 / 262144)) (sg (D3 x y 0 / 4096 % 64)) (sg (D3 x y 0 / 64 % 64)) 61 = x := by unfold x0; rw [hD, d3_0]
  have h1 : x1 (sg (D3 x y 0 / 262144)) (sg (D3 x y 0 / 4096 % 64)) (sg (D3 x y 0 / 64 % 64)) 61 = y := by unfold x1; rw [hc, if_neg (by omega), hD, d3_1]
  have h2 : x2 (sg (D3 x y 0 / 262144)) (sg (D3 x y 0 / 4096 % 64)) (sg (D3 x y 0 / 64 % 64)) 61 = 0 := by unfold x2; rw [hc, if_pos (by omega)]
  rw [e]
  rw [dec, if_pos (by unfold wellB; rw [hc, h0, h1, h2, e]; simp), hc, h0, h1, h2]
  rfl
theorem read1 (x : UInt8) : dec (S4 x 0 0 1) = some [x] := by
  have h := b0_lt x 0 0
  have e : S4 x 0 0 1 = [sg (D3 x 0 0 / 262144), sg (D3 x 0 0 / 4096 % 64), 61, 61] := by
    unfold S4; simp
  have hc : cnt 61 61 = 1 := by decide
  have hD : D4 (sg (D3 x 0 0 / 262144)) (sg (D3 x 0 0 / 4096 % 64)) 61 61 = D3 x 0 0 := by
    unfold D4
    rw [vl_sg _ (by omega), vl_sg _ (by omega), vl_pad]
    have h0 : (0 : UInt8).toNat = 0 := rfl
    have hx : D3 x 0 0 = x.toNat * 65536 + (0 : UInt8).toNat * 256 + (0 : UInt8).toNat := rfl
    rw [h0] at hx
    omega
  have h0 : x0 (sg (D3 x 0 0 / 262144)) (sg (D3 x 0 0 / 4096 % 64)) 61 61 = x := by unfold x0; rw [hD, d3_0]
  have h1 : x1 (sg (D3 x 0 0 / 262144)) (sg (D3 x 0 0 / 4096 % 64)) 61 61 = 0 := by unfold x1; rw [hc, if_pos (by omega)]
  have h2 : x2 (sg (D3 x 0 0 / 262144)) (sg (D3 x 0 0 / 4096 % 64)) 61 61 = 0 := by unfold x2; rw [hc, if_pos (by omega)]
  rw [e]
  rw [dec, if_pos (by unfold wellB; rw [hc, h0, h1, h2, e]; simp), hc, h0, h1, h2]
  rfl
/-- What is written is read. -/
theorem dec_tx (l : List UInt8) : dec (TX l) = some l := by
  induction l using TX.induct with
  | case1 => rfl
  | case2 x => exact read1 x
  | case3 x y => exact read2 x y
  | case4 x y z r ih => rw [TX, read3, ih]; rfl
/-- What is read is what would be written. -/
theorem tx_dec (l : List UInt8) : ∀ b, dec l = some b → TX b = l := by
  induction l using dec.induct with
  | case1 => intro b h; cases h; rfl
  | case2 a b c d r hw ih =>
    intro s h
    rw [dec, if_pos hw] at h
    obtain ⟨t, ht, rfl⟩ := Option.map_eq_some_iff.1 h
    have he := ih t ht
    unfold wellB at hw
    rw [Bool.and_eq_true, decide_eq_true_iff, Bool.or_eq_true, decide_eq_true_iff] at hw
    obtain ⟨hs, hr⟩ := hw
    have hc := cnt_lt c d
    rcases hr with h3 | hr
    · rw [h3] at hs ⊢
      show TX (_ :: _ :: _ :: t) = _
      rw [TX, hs, he]; rfl
    · obtain rfl : r = [] := by simpa using hr
      have ht0 : t = [] := by cases ht; rfl
      subst ht0
      by_cases h1 : cnt c d = 1
      · rw [h1] at hs ⊢
        have e1 : x1 a b c d = 0 := by unfold x1; rw [h1]; rfl
        have e2 : x2 a b c d = 0 := by unfold x2; rw [h1]; rfl
        rw [e1, e2] at hs
        exact hs
      · by_cases h2 : cnt c d = 2
        · rw [h2] at hs ⊢
          have e2 : x2 a b c d = 0 := by unfold x2; rw [h2]; rfl
          rw [e2] at hs
          exact hs
        · have h3 : cnt c d = 3 := by omega
          rw [h3] at hs ⊢
          show TX [_, _, _] = _
          rw [TX, hs]; rfl
  | case3 a b c d r hw => intro s h; rw [dec, if_neg hw] at h; cases h
  | case4 l h1 h2 =>
    intro b h
    rw [dec] at h
    · cases h
    · exact h1
    · exact h2
theorem tx_len (l : List UInt8) : (TX l).length = (l.length + 2) / 3 * 4 := by
  induction l using TX.induct with
  | case1 => rfl
  | case2 x => rw [TX, s4_len]; simp
  | case3 x y => rw [TX, s4_len]; simp
  | case4 x y z r ih => rw [TX, List.length_append, s4_len, ih]; simp only [List.length_cons]; omega
theorem dec_len (l : List UInt8) (h : l.length % 4 ≠ 0) : dec l = none := by
  cases hd : dec l with
  | none => rfl
  | some b => have := tx_dec l b hd; have h2 := tx_len b; rw [this] at h2; omega
theorem tx_append (a b : List UInt8) (h : a.length % 3 = 0) : TX (a ++ b) = TX a ++ TX b := by
  induction a using TX.induct with
  | case1 => rfl
  | case2 x => simp at h
  | case3 x y => simp at h
  | case4 x y z r ih =>
    have : r.length % 3 = 0 := by simp only [List.length_cons] at h; omega
    show TX (x :: y :: z :: (r ++ b)) = _
    rw [TX, TX, ih this, List.append_assoc]
theorem tx_inj {a b : List UInt8} (h : TX a = TX b) : a = b := by
  have h1 := dec_tx a
  rw [h, dec_tx] at h1
  exact (Option.some.inj h1).symm
theorem tx_take (a : List UInt8) (k : Nat) (h : 3 * k ≤ a.length) : (TX a).take (4 * k) = TX (a.take (3 * k)) := by
  have hl : (a.take (3 * k)).length = 3 * k := by rw [List.length_take]; omega
  have e := tx_append (a.take (3 * k)) (a.drop (3 * k)) (by omega)
  rw [List.take_append_drop] at e
  have ht : (TX (a.take (3 * k))).length = 4 * k := by rw [tx_len, hl]; omega
  rw [e, List.take_append_of_le_length (by omega), List.take_of_length_le (by omega)]
theorem s4_bl (x y z : UInt8) (n : Nat) : ∀ c ∈ S4 x y z n, bl c = false := by
  have h := b0_lt x y z
  intro c hc
  have hp : bl 61 = false := by decide
  simp only [S4, List.mem_cons, List.not_mem_nil, or_false] at hc
  rcases hc with rfl | rfl | rfl | rfl
  · exact sg_bl _ (by omega)
  · exact sg_bl _ (by omega)
  · split
    · exact hp
    · exact sg_bl _ (by omega)
  · split
    · exact hp
    · exact sg_bl _ (by omega)
theorem tx_bl (l : List UInt8) : ∀ c ∈ TX l, bl c = false := by
  induction l using TX.induct with
  | case1 => intro c h; cases h
  | case2 x => exact s4_bl _ _ _ _
  | case3 x y => exact s4_bl _ _ _ _
  | case4 x y z r ih =>
    intro c hc
    rw [TX, List.mem_append] at hc
    exact hc.elim (s4_bl _ _ _ _ c) (ih c)
theorem bare_self {l : List UInt8} (h : ∀ c ∈ l, bl c = false) : bare l = l := by
  unfold bare
  rw [List.filter_eq_self]
  intro c hc; rw [h c hc]; rfl
theorem bare_append (a b : List UInt8) : bare (a ++ b) = bare a ++ bare b := List.filter_append ..
theorem bare_one (c : UInt8) : bare [c] = if bl c = true then [] else [c] := by
  unfold bare; cases h : bl c <;> simp [h]
theorem bare_tx (l : List UInt8) : bare (TX l) = TX l := bare_self (tx_bl l)
theorem by_tx (l : List UInt8) : by_ (TX l) = l := by unfold by_; rw [bare_tx, dec_tx]; rfl
theorem ok_tx (l : List UInt8) : ok (TX l) = true := by unfold ok; rw [bare_tx, dec_tx]; rfl
/-- What Of answers: its own text. -/
theorem of_ok (l : List UInt8) (h : ok l = true) : TX (by_ l) = bare l := by
  unfold ok at h; unfold by_
  cases hd : dec (bare l) with
  | none => rw [hd] at h; cases h
  | some b => exact tx_dec _ _ hd
theorem of_no (l : List UInt8) (h : ok l = false) : by_ l = [] := by
  unfold ok at h; unfold by_
  cases hd : dec (bare l) with
  | none => rfl
  | some b => rw [hd] at h; cases h
/-- A sign put in: a blank says nothing, any other makes the text none. -/
theorem put_in (b : List UInt8) (k : Nat) (c : UInt8) : ok ((TX b).take k ++ [c] ++ (TX b).drop k) = bl c ∧ (bl c = true → by_ ((TX b).take k ++ [c] ++ (TX b).drop k) = b) := by
  have h1 : bare ((TX b).take k) = (TX b).take k := bare_self fun x hx => tx_bl b x (List.mem_of_mem_take hx)
  have h2 : bare ((TX b).drop k) = (TX b).drop k := bare_self fun x hx => tx_bl b x (List.mem_of_mem_drop hx)
  have e : bare ((TX b).take k ++ [c] ++ (TX b).drop k) = (TX b).take k ++ (if bl c = true then [] else [c]) ++ (TX b).drop k := by
    rw [bare_append, bare_append, h1, h2, bare_one]
  cases hc : bl c with
  | true =>
    rw [hc, if_pos rfl, List.append_nil, List.take_append_drop] at e
    unfold ok by_
    rw [e, dec_tx]
    exact ⟨rfl, fun _ => rfl⟩
  | false =>
    rw [hc, if_neg (by simp)] at e
    unfold ok
    rw [e, dec_len]
    · exact ⟨rfl, fun h => by cases h⟩
    · have hl := tx_len b
      have ht : ((TX b).take k).length + ((TX b).drop k).length = (TX b).length := by rw [← List.length_append, List.take_append_drop]
      simp only [List.length_append, List.length_cons, List.length_nil]
      omega
theorem one_out (b : List UInt8) (h : b ≠ []) : ok ((TX b).drop 1) = false := by
  have h2 : bare ((TX b).drop 1) = (TX b).drop 1 := bare_self fun x hx => tx_bl b x (List.mem_of_mem_drop hx)
  unfold ok
  rw [h2, dec_len]
  · rfl
  · have hl := tx_len b
    have := List.length_pos_iff.2 h
    rw [List.length_drop]; omega

/-- How many = stand at the end. -/
def pads (l : List UInt8) : Nat := (l.reverse.takeWhile (· == 61)).length
theorem s4_pads (x y z : UInt8) (n : Nat) (h1 : 1 ≤ n) (h3 : n ≤ 3) (r : List UInt8) : pads (r ++ S4 x y z n) = 3 - n := by
  have h := b0_lt x y z
  have e (k : Nat) (hk : k < 64) : (sg k == 61) = false := beq_eq_false_iff_ne.2 (sg_pad k hk)
  unfold pads S4
  rw [List.reverse_append]
  show (List.takeWhile _ (_ :: _ :: _ :: _ :: r.reverse)).length = _
  by_cases h2 : n < 2
  · obtain rfl : n = 1 := by omega
    simp [List.takeWhile, e _ (show D3 x y z / 4096 % 64 < 64 by omega)]
  · by_cases h4 : n < 3
    · obtain rfl : n = 2 := by omega
      simp [List.takeWhile, e _ (show D3 x y z / 64 % 64 < 64 by omega)]
    · obtain rfl : n = 3 := by omega
      simp [List.takeWhile, e _ (show D3 x y z % 64 < 64 by omega)]
theorem tx_pads' (l : List UInt8) : ∀ r, pads (r ++ TX l) = if l = [] then pads r else (3 - l.length % 3) % 3 := by
  induction l using TX.induct with
  | case1 => intro r; rw [TX, List.append_nil, if_pos rfl]
  | case2 x => intro r; rw [TX, s4_pads _ _ _ _ (by omega) (by omega)]; rfl
  | case3 x y => intro r; rw [TX, s4_pads _ _ _ _ (by omega) (by omega)]; rfl
  | case4 x y z t ih =>
    intro r
    rw [TX, ← List.append_assoc, ih, if_neg (show ¬ (x :: y :: z :: t = []) by simp)]
    split
    · next h => subst h; rw [s4_pads _ _ _ _ (by omega) (by omega)]; simp
    · simp only [List.length_cons]; omega
theorem tx_pads (l : List UInt8) : pads (TX l) = (3 - l.length % 3) % 3 := by
  have := tx_pads' l []
  rw [List.nil_append] at this
  rw [this]
  split
  · next h => subst h; rfl
  · rfl
end Go.Proofs.YthhhmmogefpcgaaDoor.M
