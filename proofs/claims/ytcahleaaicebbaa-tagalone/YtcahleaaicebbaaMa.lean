/- Plain mathematics: the signs of types' names, runs of signs, the tag that begins at a place, what a tag is by the handles. -/
namespace Go.Proofs.Ytcahleaaicebbaa.M

def isL (c : UInt8) : Bool := (decide (97 ≤ c.toNat) && decide (c.toNat ≤ 122)) || (decide (65 ≤ c.toNat) && decide (c.toNat ≤ 90))
def isG (c : UInt8) : Bool := decide (48 ≤ c.toNat) && decide (c.toNat ≤ 57)
/-- A letter, a digit, -. -/
def isW (c : UInt8) : Bool := isL c || isG c || decide (c.toNat = 45)
def smarks : List UInt8 := [45, 95, 46, 126, 42, 39, 40, 41, 59, 47, 63, 58, 64, 38, 61, 43, 36, 35, 37]
def omarks : List UInt8 := [33, 44, 91, 93]
def isS (c : UInt8) : Bool := isW c || smarks.contains c
def isT (c : UInt8) : Bool := isS c || omarks.contains c

/-- The first place from i on with another sign. -/
def bh (p : UInt8 → Bool) (l : List UInt8) (i : Nat) : Nat := i + ((l.drop i).takeWhile p).length
theorem bh_ge (p : UInt8 → Bool) (l : List UInt8) (i : Nat) : i ≤ bh p l i := by unfold bh; omega
theorem bh_le (p : UInt8 → Bool) (l : List UInt8) (i : Nat) (h : i ≤ l.length) : bh p l i ≤ l.length := by
  unfold bh
  have := (List.takeWhile_sublist p (l := l.drop i)).length_le
  rw [List.length_drop] at this
  omega
theorem bh_end (p : UInt8 → Bool) (l : List UInt8) (i : Nat) (h : l.length ≤ i) : bh p l i = i := by
  unfold bh; rw [List.drop_of_length_le h]; simp
theorem drop_get {l : List UInt8} {i : Nat} {c : UInt8} (h : l[i]? = some c) : l.drop i = c :: l.drop (i + 1) := by
  obtain ⟨hi, e⟩ := List.getElem?_eq_some_iff.1 h
  rw [List.drop_eq_getElem_cons hi, e]
theorem bh_step (p : UInt8 → Bool) {l : List UInt8} {i : Nat} {c : UInt8} (h : l[i]? = some c) (hp : p c = true) : bh p l i = bh p l (i + 1) := by
  unfold bh; rw [drop_get h, List.takeWhile_cons, if_pos hp, List.length_cons]; omega
theorem bh_stop (p : UInt8 → Bool) {l : List UInt8} {i : Nat} {c : UInt8} (h : l[i]? = some c) (hp : p c = false) : bh p l i = i := by
  unfold bh; rw [drop_get h, List.takeWhile_cons, hp]; simp
/-- Signs of the kind, and behind them none or another one. -/
theorem bh_run (p : UInt8 → Bool) (a m r : List UInt8) (hm : m.all p = true) (hr : ∀ c, r.head? = some c → p c = false) (i : Nat) (hi : i = a.length) : bh p (a ++ (m ++ r)) i = i + m.length := by
  subst hi
  unfold bh
  rw [List.drop_left]
  congr 1
  induction m with
  | nil =>
    cases r with
    | nil => rfl
    | cons c r => simp [hr c rfl]
  | cons c m ih =>
    simp only [List.all_cons, Bool.and_eq_true] at hm
    simp only [List.cons_append, List.takeWhile_cons, hm.1, if_true, List.length_cons, ih hm.2]

/-- A tag: is it verbatim? its handle, its suffix. -/
structure Tg where
  v : Bool
  h : List UInt8
  s : List UInt8
deriving DecidableEq
abbrev Tg.no : Tg := ⟨false, [], []⟩
def cut (l : List UInt8) (i j : Nat) : List UInt8 := (l.drop i).take (j - i)
/-- What begins with the ! at place i. -/
def rd (l : List UInt8) (i : Nat) : Tg × Nat × Bool :=
  if l[i + 1]? = some 60 then
    if bh isT l (i + 2) = i + 2 ∨ l[bh isT l (i + 2)]? ≠ some 62 then (Tg.no, 0, false)
    else (⟨true, [], cut l (i + 2) (bh isT l (i + 2))⟩, bh isT l (i + 2) + 1, true)
  else
    let f := if l[bh isW l (i + 1)]? = some 33 then bh isW l (i + 1) + 1 else i + 1
    if bh isS l f = f ∧ i + 1 < f then (Tg.no, 0, false)
    else (⟨false, cut l i f, cut l f (bh isS l f)⟩, bh isS l f, true)
/-- The tag that begins at place i, the place behind it. -/
def rdI (l : List UInt8) (i : Int) : Tg × Nat × Bool :=
  if 0 ≤ i ∧ l[i.toNat]? = some 33 then rd l i.toNat else (Tg.no, 0, false)
theorem rdI_no (l : List UInt8) (i : Int) (h : ¬ (0 ≤ i ∧ l[i.toNat]? = some 33)) : rdI l i = (Tg.no, 0, false) := by unfold rdI; rw [if_neg h]
theorem rdI_at (l : List UInt8) (k : Nat) (h : l[k]? = some 33) : rdI l (k : Int) = rd l k := by
  unfold rdI
  rw [if_pos ⟨Int.natCast_nonneg k, by rw [Int.toNat_natCast]; exact h⟩, Int.toNat_natCast]

def good (l : List UInt8) : Bool := !l.isEmpty && l.all isT
theorem good_bh (l : List UInt8) : good l = (!l.isEmpty && decide (bh isT l 0 = l.length)) := by
  unfold good
  congr 1
  unfold bh
  rw [List.drop_zero, Nat.zero_add]
  induction l with
  | nil => rfl
  | cons c r ih =>
    rw [List.all_cons, List.takeWhile_cons]
    cases h : isT c
    · simp
    · simp only [if_true, List.length_cons, Nat.add_right_cancel_iff, Bool.true_and]; exact ih
/-- How it is written. -/
def wr (l : List UInt8) : List UInt8 := if good l then 33 :: 60 :: (l ++ [62]) else []

/-- What is written is read whole. -/
theorem rd_wr (l rest : List UInt8) (hl : good l = true) : rd (120 :: (wr l ++ rest)) 1 = (⟨true, [], l⟩, 1 + (wr l).length, true) := by
  unfold good at hl
  simp only [Bool.and_eq_true, Bool.not_eq_true'] at hl
  have hw : wr l = 33 :: 60 :: (l ++ [62]) := by unfold wr good; rw [hl.1, hl.2]; rfl
  have hb : bh isT ([120, 33, 60] ++ (l ++ 62 :: rest)) 3 = 3 + l.length := bh_run isT [120, 33, 60] l (62 :: rest) hl.2 (fun c h => by cases h; decide) 3 rfl
  have hlst : (120 :: (wr l ++ rest)) = [120, 33, 60] ++ (l ++ 62 :: rest) := by rw [hw]; simp
  have hlen : (wr l).length = l.length + 3 := by rw [hw]; simp
  rw [hlst, hlen]
  generalize hG : ([120, 33, 60] ++ (l ++ 62 :: rest) : List UInt8) = G at *
  have hd : G.drop 3 = l ++ 62 :: rest := by rw [← hG]; rfl
  have h1 : G[2]? = some 60 := by rw [← hG]; rfl
  have h2 : G[3 + l.length]? = some 62 := by
    have e : G[3 + l.length]? = (G.drop 3)[l.length]? := by rw [List.getElem?_drop]
    rw [e, hd, List.getElem?_append_right (Nat.le_refl _), Nat.sub_self]; rfl
  have hne : l.length ≠ 0 := fun e => by rw [List.length_eq_zero_iff.1 e] at hl; exact absurd hl.1 (by decide)
  have h3 : cut G 3 (3 + l.length) = l := by unfold cut; rw [hd, Nat.add_sub_cancel_left, List.take_left]
  unfold rd
  rw [if_pos h1]
  show (if bh isT G 3 = 3 ∨ G[bh isT G 3]? ≠ some 62 then (Tg.no, 0, false) else (⟨true, [], cut G 3 (bh isT G 3)⟩, bh isT G 3 + 1, true)) = _
  have hc : ¬ (3 + l.length = 3 ∨ G[3 + l.length]? ≠ some 62) := by
    rintro (h | h)
    · omega
    · exact h h2
  rw [hb, if_neg hc, h3]
  congr 1
  congr 1
  omega

/-- A handle with a word, and short signs. -/
theorem rd_named (w x : List UInt8) (b : UInt8) (hw : w.all isW = true) (hx : x.all isS = true) (hb : isS b = false) (hne : x ≠ []) :
    rd (33 :: (w ++ 33 :: (x ++ [b]))) 0 = (⟨false, 33 :: (w ++ [33]), x⟩, w.length + x.length + 2, true) := by
  have hB : bh isW ([33] ++ (w ++ 33 :: (x ++ [b]))) 1 = 1 + w.length := bh_run isW [33] w (33 :: (x ++ [b])) hw (fun c h => by cases h; decide) 1 rfl
  have hE : bh isS ((33 :: (w ++ [33])) ++ (x ++ [b])) (w.length + 2) = w.length + 2 + x.length := bh_run isS _ x [b] hx (fun c h => by cases h; exact hb) _ (by simp)
  have e1 : (33 :: (w ++ 33 :: (x ++ [b])) : List UInt8) = [33] ++ (w ++ 33 :: (x ++ [b])) := rfl
  have e2 : (33 :: (w ++ 33 :: (x ++ [b])) : List UInt8) = (33 :: (w ++ [33])) ++ (x ++ [b]) := by simp
  rw [← e1] at hB
  rw [← e2] at hE
  have h1 : (33 :: (w ++ 33 :: (x ++ [b])) : List UInt8)[1]? ≠ some 60 := by
    rw [List.getElem?_cons_succ]
    cases w with
    | nil => simp
    | cons c r =>
      simp only [List.cons_append, List.getElem?_cons_zero]
      intro e
      cases e
      rw [List.all_cons] at hw
      exact absurd hw (by simp; intro h; exact absurd h (by decide))
  have h2 : (33 :: (w ++ 33 :: (x ++ [b])) : List UInt8)[1 + w.length]? = some 33 := by
    rw [Nat.add_comm 1, List.getElem?_cons_succ, List.getElem?_append_right (Nat.le_refl _), Nat.sub_self]; rfl
  have hd : (33 :: (w ++ 33 :: (x ++ [b])) : List UInt8).drop (w.length + 2) = x ++ [b] := by
    rw [e2, List.drop_left' (by simp)]
  have h3 : cut (33 :: (w ++ 33 :: (x ++ [b]))) 0 (w.length + 2) = 33 :: (w ++ [33]) := by
    unfold cut; rw [e2, List.drop_zero, Nat.sub_zero, List.take_left' (by simp)]
  have h4 : cut (33 :: (w ++ 33 :: (x ++ [b]))) (w.length + 2) (w.length + 2 + x.length) = x := by
    unfold cut; rw [hd, Nat.add_sub_cancel_left, List.take_left]
  have hx0 : x.length ≠ 0 := fun e => hne (List.length_eq_zero_iff.1 e)
  unfold rd
  rw [Nat.zero_add, if_neg h1, hB, h2, if_pos rfl]
  rw [show 1 + w.length + 1 = w.length + 2 from by omega]
  show (if bh isS _ (w.length + 2) = w.length + 2 ∧ 1 < w.length + 2 then _ else _) = _
  rw [hE, if_neg (by omega), h3, h4]
  congr 2
  omega

/-- The sign alone, and marks. -/
theorem rd_alone (x : List UInt8) (hx : x.all isS = true) (hw : x.all (fun c => !isW c) = true) : rd (33 :: x) 0 = (⟨false, [33], x⟩, 1 + x.length, true) := by
  have h0 : ∀ c, x.head? = some c → isW c = false ∧ isS c = true := by
    intro c hc
    cases x with
    | nil => cases hc
    | cons d r =>
      cases hc
      rw [List.all_cons, Bool.and_eq_true] at hx hw
      exact ⟨by simpa using hw.1, hx.1⟩
  have hB : bh isW ([33] ++ ([] ++ x)) 1 = 1 + 0 := bh_run isW [33] [] x rfl (fun c h => (h0 c h).1) 1 rfl
  have hE : bh isS ([33] ++ (x ++ [])) 1 = 1 + x.length := bh_run isS [33] x [] hx (fun c h => by cases h) 1 rfl
  rw [List.append_nil] at hE
  have hh : ∀ k, isS k = false → (33 :: x : List UInt8)[1]? ≠ some k := by
    intro k hk e
    rw [List.getElem?_cons_succ] at e
    cases x with
    | nil => simp at e
    | cons d r =>
      simp at e
      have := (h0 d rfl).2
      rw [e] at this
      rw [this] at hk
      cases hk
  have h4 : cut (33 :: x) 1 (1 + x.length) = x := by
    unfold cut; rw [Nat.add_sub_cancel_left, List.drop_succ_cons, List.drop_zero]; exact List.take_of_length_le (Nat.le_refl _)
  unfold rd
  rw [Nat.zero_add, if_neg (hh 60 (by decide))]
  simp only [List.nil_append, Nat.add_zero, List.cons_append] at hB hE
  rw [hB]
  show (if bh isS (33 :: x) (if (33 :: x : List UInt8)[1]? = some 33 then 1 + 1 else 1) = _ ∧ _ then _ else _) = _
  rw [if_neg (hh 33 (by decide)), hE, if_neg (by omega), h4]
  rfl

/-- Signs of a kind, of a seed. -/
def tg (g : List UInt8) (s : List UInt8) : List UInt8 := s.map fun c => g.getD (c.toNat % g.length) 0
theorem tg_len (g s : List UInt8) : (tg g s).length = s.length := by simp [tg]
theorem tg_all (p : UInt8 → Bool) (g s : List UInt8) (h : g.all p = true) (hg : g ≠ []) : (tg g s).all p = true := by
  rw [List.all_eq_true] at h ⊢
  intro c hc
  unfold tg at hc
  obtain ⟨d, _, rfl⟩ := List.mem_map.1 hc
  have hpos : 0 < g.length := List.length_pos_iff.2 hg
  have hlt := Nat.mod_lt d.toNat hpos
  rw [List.getD_eq_getElem?_getD, List.getElem?_eq_getElem hlt]
  exact h _ (List.getElem_mem hlt)
theorem tg_snoc (g s : List UInt8) (c : UInt8) : tg g (s ++ [c]) = tg g s ++ [g.getD (c.toNat % g.length) 0] := by simp [tg]

/-- The document's own. -/
def core : List UInt8 := [116, 97, 103, 58, 121, 97, 109, 108, 46, 111, 114, 103, 44, 50, 48, 48, 50, 58]
/-- What a handle stands for: the last one of that name. -/
def lk (hs : List (List UInt8 × List UInt8)) (k : List UInt8) : Option (List UInt8) :=
  match hs.reverse.find? (fun h => h.1 == k) with
  | some h => some h.2
  | none => if k = [33] then some [33] else if k = [33, 33] then some core else none
/-- What a tag is by the handles. -/
def ex (t : Tg) (hs : List (List UInt8 × List UInt8)) : List UInt8 × Bool :=
  if t.v then (t.s, true)
  else if t.h = [33] ∧ t.s = [] then ([33], true)
  else match lk hs t.h with
    | some p => (p ++ t.s, true)
    | none => ([], false)
theorem lk_nil (k : List UInt8) : lk [] k = if k = [33] then some [33] else if k = [33, 33] then some core else none := rfl
theorem lk_snoc (hs : List (List UInt8 × List UInt8)) (n p k : List UInt8) : lk (hs ++ [(n, p)]) k = if n = k then some p else lk hs k := by
  unfold lk
  rw [List.reverse_append, List.reverse_cons, List.reverse_nil, List.nil_append, List.singleton_append, List.find?_cons]
  by_cases h : n = k
  · subst h; simp
  · have h' : (n == k) = false := beq_eq_false_iff_ne.2 h
    rw [h', if_neg h]
end Go.Proofs.Ytcahleaaicebbaa.M
