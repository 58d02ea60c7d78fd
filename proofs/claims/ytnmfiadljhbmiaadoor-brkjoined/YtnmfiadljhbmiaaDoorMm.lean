/- Plain mathematics, on: texts without breaks, put together with breaks of one kind, are just these lines. No program in it. -/
import Derived.Test.YtnmfiadljhbmiaaDoorMk
set_option linter.unusedVariables false
namespace Go.Proofs.YtnmfiadljhbmiaaDoor.M
open Go.Lib

def joinL (b : List UInt8) : List (List UInt8) → List UInt8
  | [] => []
  | p :: ps => p ++ (b ++ joinL b ps)
def wantL (n : Nat) : Nat → List (List UInt8) → List (Nat × Nat × Nat)
  | _, [] => []
  | off, p :: ps => (off, off + p.length, off + p.length + n) :: wantL n (off + p.length + n) ps
def NoBrk (p : List UInt8) : Prop := ∀ k, k < p.length → brkN true (p.drop k) = 0

theorem joinL_snoc (b : List UInt8) (ps : List (List UInt8)) (p : List UInt8) : joinL b (ps ++ [p]) = joinL b ps ++ p ++ b := by
  induction ps with
  | nil => simp [joinL]
  | cons q ps ih => simp only [List.cons_append, joinL, ih, List.append_assoc]
theorem wantL_snoc (b : List UInt8) (ps : List (List UInt8)) (p : List UInt8) (off : Nat) :
    wantL b.length off (ps ++ [p]) = wantL b.length off ps ++ [(off + (joinL b ps).length, off + (joinL b ps).length + p.length, off + (joinL b ps).length + p.length + b.length)] := by
  induction ps generalizing off with
  | nil => simp [wantL, joinL]
  | cons q ps ih =>
    simp only [List.cons_append, wantL, ih, joinL, List.length_append]
    simp only [List.cons.injEq, List.append_cancel_left_eq, and_true, true_and, Prod.mk.injEq]
    omega
theorem wantL_length (n off : Nat) (ps : List (List UInt8)) : (wantL n off ps).length = ps.length := by
  induction ps generalizing off with
  | nil => rfl
  | cons p ps ih => simp [wantL, ih]

/-- One of the six breaks. -/
def brk6 : Nat → List UInt8
  | 0 => [10]
  | 1 => [13]
  | 2 => [13, 10]
  | 3 => [194, 133]
  | 4 => [226, 128, 168]
  | _ => [226, 128, 169]
theorem brk6_first (k : Nat) (r : List UInt8) : by8 (brk6 k ++ r) 0 = 10 ∨ by8 (brk6 k ++ r) 0 = 13 ∨ by8 (brk6 k ++ r) 0 = 194 ∨ by8 (brk6 k ++ r) 0 = 226 := by
  unfold brk6
  split <;> simp [by8]
theorem nobrk_parts (x : List UInt8) (h : brkN true x = 0) : by8 x 0 ≠ 13 ∧ by8 x 0 ≠ 10 ∧ ¬ (by8 x 0 = 194 ∧ by8 x 1 = 133) ∧ ¬ (by8 x 0 = 226 ∧ by8 x 1 = 128 ∧ (by8 x 2 = 168 ∨ by8 x 2 = 169)) := by
  unfold brkN at h
  simp only [true_and] at h
  split at h
  · omega
  · split at h
    · omega
    · split at h
      · omega
      · split at h
        · omega
        · omega
theorem brkN_of_parts (o : Bool) (x : List UInt8) (h : by8 x 0 ≠ 13 ∧ by8 x 0 ≠ 10 ∧ ¬ (by8 x 0 = 194 ∧ by8 x 1 = 133) ∧ ¬ (by8 x 0 = 226 ∧ by8 x 1 = 128 ∧ (by8 x 2 = 168 ∨ by8 x 2 = 169))) : brkN o x = 0 := by
  unfold brkN
  rw [if_neg (by omega), if_neg (by omega), if_neg (fun k => h.2.2.1 k.2), if_neg (fun k => h.2.2.2 k.2)]
theorem brkN_inner (o : Bool) (x y : List UInt8) (hx : x ≠ []) (h : brkN true x = 0) (hy : by8 y 0 = 10 ∨ by8 y 0 = 13 ∨ by8 y 0 = 194 ∨ by8 y 0 = 226) : brkN o (x ++ y) = 0 := by
  have hp := nobrk_parts x h
  apply brkN_of_parts
  have l0 : 0 < x.length := List.length_pos_iff.2 hx
  rw [by8_append_left x y 0 l0]
  rcases Nat.lt_or_ge 1 x.length with l1 | l1
  · rw [by8_append_left x y 1 l1]
    rcases Nat.lt_or_ge 2 x.length with l2 | l2
    · rw [by8_append_left x y 2 l2]; exact hp
    · rw [by8_append_right x y 2 l2, show 2 - x.length = 0 by omega]; omega
  · rw [by8_append_right x y 1 l1, show 1 - x.length = 0 by omega]; omega
theorem rest_run (o : Bool) (L : List UInt8) (a : Nat) (m : Nat) : ∀ i, i + m ≤ L.length → (∀ j, i ≤ j → j < i + m → brkN o (L.drop j) = 0) → rest o L a i = rest o L a (i + m) := by
  induction m with
  | zero => intro i _ _; rfl
  | succ m ih =>
    intro i hi h
    rw [rest_skip o L a i (by omega) (h i (Nat.le_refl _) (by omega)), ih (i + 1) (by omega) (fun j h1 h2 => h j (by omega) (by omega)), show i + 1 + m = i + (m + 1) by omega]
theorem joinL_first (k : Nat) (ps : List (List UInt8)) (h : ∀ p ∈ ps, NoBrk p) : by8 (joinL (brk6 1) ps) 0 ≠ 10 := by
  cases ps with
  | nil => simp [joinL, by8]
  | cons p ps =>
    rw [joinL]
    cases p with
    | nil => simp [brk6, by8]
    | cons x r =>
      have := h (x :: r) (List.mem_cons_self ..) 0 (by simp)
      rw [List.drop_zero] at this
      have hp := nobrk_parts _ this
      rw [by8_append_left _ _ 0 (by simp)]
      exact hp.2.1
theorem brkN_brk (o : Bool) (k : Nat) (ho : o = true ∨ k ≤ 2) (ps : List (List UInt8)) (h : ∀ p ∈ ps, NoBrk p) : brkN o (brk6 k ++ joinL (brk6 k) ps) = (brk6 k).length := by
  by_cases k1 : k = 1
  · subst k1
    have hf := joinL_first 1 ps h
    have e0 : by8 (brk6 1 ++ joinL (brk6 1) ps) 0 = 13 := by simp [brk6, by8]
    have e1 : by8 (brk6 1 ++ joinL (brk6 1) ps) 1 = by8 (joinL (brk6 1) ps) 0 := by rw [by8_append_right _ _ 1 (by decide)]; rfl
    unfold brkN
    rw [if_neg (by omega), if_pos (by omega)]
    rfl
  · generalize joinL (brk6 k) ps = J
    unfold brk6
    split
    · simp [brkN, by8]
    · omega
    · simp [brkN, by8]
    · rcases ho with rfl | ho
      · simp [brkN, by8]
      · omega
    · rcases ho with rfl | ho
      · simp [brkN, by8]
      · omega
    · rcases ho with rfl | ho
      · simp [brkN, by8]
      · exfalso
        have : k = 0 ∨ k = 1 ∨ k = 2 := by omega
        rcases this with rfl | rfl | rfl <;> simp_all
theorem lines_join_at (o : Bool) (k : Nat) (ho : o = true ∨ k ≤ 2) (ps : List (List UInt8)) : ∀ pre : List UInt8, (∀ p ∈ ps, NoBrk p) → rest o (pre ++ joinL (brk6 k) ps) pre.length pre.length = wantL (brk6 k).length pre.length ps := by
  induction ps with
  | nil =>
    intro pre _
    rw [rest_end _ _ _ _ (by simp [joinL]), if_neg (by simp [joinL])]
    rfl
  | cons p ps ih =>
    intro pre h
    have hp := h p (List.mem_cons_self ..)
    have hps : ∀ q ∈ ps, NoBrk q := fun q hq => h q (List.mem_cons_of_mem _ hq)
    have hb := brkN_brk o k ho ps hps
    obtain ⟨J, hJ⟩ : ∃ J, joinL (brk6 k) ps = J := ⟨_, rfl⟩
    have e : pre ++ joinL (brk6 k) (p :: ps) = pre ++ (p ++ (brk6 k ++ J)) := by rw [joinL, hJ]
    rw [e]
    have hbl : 0 < (brk6 k).length := by unfold brk6; split <;> simp
    have run := rest_run o (pre ++ (p ++ (brk6 k ++ J))) pre.length p.length pre.length (by simp) (by
      intro j h1 h2
      obtain ⟨m, rfl⟩ : ∃ m, j = pre.length + m := ⟨j - pre.length, by omega⟩
      rw [← List.drop_drop, List.drop_left, List.drop_append_of_le_length (by omega)]
      exact brkN_inner o _ _ (by intro e; have := congrArg List.length e; rw [List.length_drop] at this; simp at this; omega) (hp m (by omega)) (brk6_first k J))
    rw [run]
    have hd : (pre ++ (p ++ (brk6 k ++ J))).drop (pre.length + p.length) = brk6 k ++ J := by
      rw [← List.append_assoc, ← List.length_append, List.drop_left]
    rw [hJ] at hb
    rw [rest_brk o _ _ _ (by simp; omega) (by rw [hd, hb]; omega), hd, hb, wantL]
    congr 1
    have q := ih (pre ++ p ++ brk6 k) hps
    rw [hJ] at q
    simp only [List.length_append, List.append_assoc] at q
    rw [← Nat.add_assoc] at q
    exact q
theorem lines_join (o : Bool) (k : Nat) (ho : o = true ∨ k ≤ 2) (ps : List (List UInt8)) (h : ∀ p ∈ ps, NoBrk p) : lines o (joinL (brk6 k) ps) = wantL (brk6 k).length 0 ps := by
  have := lines_join_at o k ho ps [] h
  rw [List.nil_append] at this
  exact this

end Go.Proofs.YtnmfiadljhbmiaaDoor.M
