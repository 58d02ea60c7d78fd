/- Walks of targum/brk's Indent and Blank, and of the laws' whole. -/
import Derived.Test.YtnmfiadljhbmiaaDoorWe
set_option linter.unusedVariables false
namespace Go.Proofs.YtnmfiadljhbmiaaDoor
open Go.RowKit

/-- How many spaces a text begins with. -/
def indL (c : List UInt8) : Nat := (c.takeWhile (· == 32)).length
def indZ (L : List UInt8) (a e x : Int) : Int := if inL L.length a e x = true then (indL (cont L a.toNat e.toNat) : Nat) else 0
/-- Blanks alone. -/
def blL (c : List UInt8) : Bool := c.all fun b => b == 32 || b == 9
def blZ (L : List UInt8) (a e x : Int) : Bool := inL L.length a e x && blL (cont L a.toNat e.toNat)

theorem trimLeft_len (l : List UInt8) : (l.length : Int) - ((Lib.trimLeftB l 32).length : Nat) = (indL l : Nat) := by
  unfold Lib.trimLeftB indL
  have h := congrArg List.length (List.takeWhile_append_dropWhile (p := (· == (32 : UInt8))) (l := l))
  rw [List.length_append] at h
  omega
theorem trimLeft_any (s : ByteArray) (w : World) :
    Calls Tryd.prog 34 #[.string s, .string ⟨#[32]⟩] w fun e w' => e = .returned (.string (bA (Lib.trimLeftB s.data.toList 32))) ∧ w = w' :=
  (Any.strings_TrimLeft_one Tryd.lays161 s 32 (by decide) w).mono fun _ _ ⟨h1, h2⟩ => ⟨h1, h2.symm⟩

theorem drop_last (p : UInt8 → Bool) : ∀ l : List UInt8, l.dropWhile p ≠ [] → ∃ x ∈ l.dropWhile p, p x = false := by
  intro l
  induction l with
  | nil => intro h; exact absurd rfl h
  | cons y r ih =>
    intro h
    by_cases hp : p y = true
    · rw [List.dropWhile_cons_of_pos hp] at h ⊢; exact ih h
    · rw [List.dropWhile_cons_of_neg hp]; exact ⟨y, List.mem_cons_self .., by simpa using hp⟩
theorem drop_nil (p : UInt8 → Bool) : ∀ l : List UInt8, l.dropWhile p = [] ↔ ∀ x ∈ l, p x = true := by
  intro l
  induction l with
  | nil => simp
  | cons y r ih =>
    by_cases hp : p y = true
    · rw [List.dropWhile_cons_of_pos hp, ih]; simp [hp]
    · rw [List.dropWhile_cons_of_neg hp]; simp [hp]
theorem trimS_nil (l cs : List UInt8) : (Lib.trimS l cs = []) ↔ ∀ x ∈ l, cs.contains x = true := by
  unfold Lib.trimS Lib.trimLeftS Lib.trimRightS
  rw [drop_nil]
  constructor
  · intro h
    by_cases hd : l.reverse.dropWhile (cs.contains ·) = []
    · intro x hx
      exact (drop_nil _ _).1 hd x (List.mem_reverse.2 hx)
    · obtain ⟨x, hx, hp⟩ := drop_last _ _ hd
      have := h x (List.mem_reverse.2 hx)
      rw [this] at hp; cases hp
  · intro h x hx
    have hx' := List.mem_reverse.1 hx
    exact h x (List.mem_reverse.1 ((List.dropWhile_sublist _).subset hx'))
theorem blL_trim (l : List UInt8) : (Lib.trimS l [32, 9]).isEmpty = blL l := by
  rw [Bool.eq_iff_iff, List.isEmpty_iff, trimS_nil]
  unfold blL
  rw [List.all_eq_true]
  constructor
  · intro h x hx
    have := h x hx
    simpa using this
  · intro h x hx
    have := h x hx
    simpa using this

theorem trim_any (s : ByteArray) (w : World) (hs : s.size ≤ 100000) :
    Calls Tryd.prog 36 #[.string s, .string ⟨#[32, 9]⟩] w fun e w' => e = .returned (.string (bA (Lib.trimS s.data.toList [32, 9]))) ∧ Below w.heap.size w w' :=
  Any.strings_Trim_laid Tryd.lays160 (by kernel_rfl) s ⟨#[32, 9]⟩ w (by omega) (by decide) (fun j b h => by
    match j, h with
    | 0, h => simp at h; subst h; decide
    | 1, h => simp at h; subst h; decide
    | j + 2, h => simp at h)

set_option maxRecDepth 100000 in
set_option maxHeartbeats 1000000 in
theorem indent_in (s : ByteArray) (a e x : Nat) (w : World) (h1 : a ≤ e) (h2 : e ≤ x) (h3 : x ≤ s.size) (hs : s.size ≤ 100000) :
    Calls Tryd.prog 16 #[.string s, .agg #[.int .i64 a, .int .i64 e, .int .i64 x]] w fun r w' => r = .returned (.int .i64 (indL (cont s.data.toList a e) : Nat)) ∧ Below w.heap.size w w' := by
  have c1 := fun w => within_in s a e x w h1 h2 h3 hs
  have hC := extract_cont s a e h1
  rw [← hC]
  have hsz : (s.extract a e).size = e - a := by rw [sz_list, hC, cont_length _ _ _ (by rw [← sz_list]; omega)]
  obtain ⟨C, hCe⟩ : ∃ C, s.extract a e = C := ⟨_, rfl⟩
  rw [hCe] at hsz ⊢
  simp only [hCe] at c1
  have hCs : C.size ≤ 100000 := by omega
  have c2 := fun w => trimLeft_any C w
  have hl := trimLeft_len C.data.toList
  rw [← sz_list, ← bA_size (Lib.trimLeftB C.data.toList 32)] at hl
  obtain ⟨D, hD⟩ : ∃ D, bA (Lib.trimLeftB C.data.toList 32) = D := ⟨_, rfl⟩
  rw [hD] at hl
  simp only [hD] at c2
  rw [← hl]
  have hDs : D.size ≤ C.size := by omega
  clear hC hCe hsz h1 h2 h3 hs hD hl
  go_enter Tryd.func16, Tryd.ntmps16
  go_wp2_with fail
  refine (c1 _).mono ?_
  rintro r w2 ⟨rfl, hb⟩
  go_wp2_with fail
  refine (c2 _).mono ?_
  rintro r w3 ⟨rfl, rfl⟩
  go_wp2
  go_ret
  exact ⟨rfl, ((Below.refl w.heap.size w).alloc (Nat.le_refl _) _).trans (hb.mono (by simp))⟩

set_option maxRecDepth 100000 in
set_option maxHeartbeats 1000000 in
theorem indent_out (s : ByteArray) (a e x : Int) (w : World) (h : inL s.size a e x = false) :
    Calls Tryd.prog 16 #[.string s, .agg #[.int .i64 a, .int .i64 e, .int .i64 x]] w fun r w' => r = .returned (.int .i64 0) ∧ Below w.heap.size w w' := by
  have c1 := fun w => within_out s a e x w h
  have c2 := fun w => trimLeft_any ⟨#[]⟩ w
  simp only [show bA (Lib.trimLeftB (ByteArray.mk #[]).data.toList 32) = ⟨#[]⟩ from rfl] at c2
  clear h
  go_enter Tryd.func16, Tryd.ntmps16
  go_wp2_with fail
  refine (c1 _).mono ?_
  rintro r w2 ⟨rfl, hb⟩
  go_wp2_with fail
  refine (c2 _).mono ?_
  rintro r w3 ⟨rfl, rfl⟩
  go_wp2
  go_ret
  exact ⟨rfl, ((Below.refl w.heap.size w).alloc (Nat.le_refl _) _).trans (hb.mono (by simp))⟩

theorem indent_any (s : ByteArray) (a e x : Int) (w : World) (hs : s.size ≤ 100000) :
    Calls Tryd.prog 16 #[.string s, .agg #[.int .i64 a, .int .i64 e, .int .i64 x]] w fun r w' => r = .returned (.int .i64 (indZ s.data.toList a e x)) ∧ Below w.heap.size w w' := by
  unfold indZ
  rw [← sz_list]
  by_cases h : inL s.size a e x = true
  · rw [if_pos h]
    have k := (inL_iff _ _ _ _).1 h
    obtain ⟨a, rfl⟩ := Int.eq_ofNat_of_zero_le (show 0 ≤ a by omega)
    obtain ⟨e, rfl⟩ := Int.eq_ofNat_of_zero_le (show 0 ≤ e by omega)
    obtain ⟨x, rfl⟩ := Int.eq_ofNat_of_zero_le (show 0 ≤ x by omega)
    exact indent_in s a e x w (by omega) (by omega) (by omega) hs
  · rw [if_neg h]
    exact indent_out s a e x w (by simpa using h)

set_option maxRecDepth 100000 in
set_option maxHeartbeats 1000000 in
theorem blank_in (s : ByteArray) (a e x : Nat) (w : World) (h1 : a ≤ e) (h2 : e ≤ x) (h3 : x ≤ s.size) (hs : s.size ≤ 100000) :
    Calls Tryd.prog 18 #[.string s, .agg #[.int .i64 a, .int .i64 e, .int .i64 x]] w fun r w' => r = .returned (.bool (blL (cont s.data.toList a e))) ∧ Below w.heap.size w w' := by
  have c1 := fun w => within_in s a e x w h1 h2 h3 hs
  have hC := extract_cont s a e h1
  rw [← hC]
  have hsz : (s.extract a e).size = e - a := by rw [sz_list, hC, cont_length _ _ _ (by rw [← sz_list]; omega)]
  obtain ⟨C, hCe⟩ : ∃ C, s.extract a e = C := ⟨_, rfl⟩
  rw [hCe] at hsz ⊢
  simp only [hCe] at c1
  have c2 := fun w => trim_any C w (by omega)
  have hl := blL_trim C.data.toList
  rw [← hl]
  have he : (bA (Lib.trimS C.data.toList [32, 9])).toList = Lib.trimS C.data.toList [32, 9] := by rw [Lib.toList_data, bA_toList]
  rw [← he]
  obtain ⟨D, hD⟩ : ∃ D, bA (Lib.trimS C.data.toList [32, 9]) = D := ⟨_, rfl⟩
  simp only [hD] at c2 ⊢
  clear hC hCe hsz h1 h2 h3 hs hD hl he
  go_enter Tryd.func18, Tryd.ntmps18
  go_wp2_with fail
  refine (c1 _).mono ?_
  rintro r w2 ⟨rfl, hb⟩
  go_wp2_with fail
  refine (c2 _).mono ?_
  rintro r w3 ⟨rfl, hb3⟩
  go_wp2
  go_ret
  exact ⟨rfl, (((Below.refl w.heap.size w).alloc (Nat.le_refl _) _).trans (hb.mono (by simp))).trans (hb3.mono (Nat.le_trans (by simp) hb.size))⟩

set_option maxRecDepth 100000 in
set_option maxHeartbeats 1000000 in
theorem blank_out (s : ByteArray) (a e x : Int) (w : World) (h : inL s.size a e x = false) :
    Calls Tryd.prog 18 #[.string s, .agg #[.int .i64 a, .int .i64 e, .int .i64 x]] w fun r w' => r = .returned (.bool false) ∧ Below w.heap.size w w' := by
  have c1 := fun w => within_out s a e x w h
  clear h
  go_enter Tryd.func18, Tryd.ntmps18
  go_wp2_with fail
  refine (c1 _).mono ?_
  rintro r w2 ⟨rfl, hb⟩
  go_wp2
  go_ret
  exact ⟨rfl, ((Below.refl w.heap.size w).alloc (Nat.le_refl _) _).trans (hb.mono (by simp))⟩

theorem blank_any (s : ByteArray) (a e x : Int) (w : World) (hs : s.size ≤ 100000) :
    Calls Tryd.prog 18 #[.string s, .agg #[.int .i64 a, .int .i64 e, .int .i64 x]] w fun r w' => r = .returned (.bool (blZ s.data.toList a e x)) ∧ Below w.heap.size w w' := by
  unfold blZ
  rw [← sz_list]
  by_cases h : inL s.size a e x = true
  · rw [h, Bool.true_and]
    have k := (inL_iff _ _ _ _).1 h
    obtain ⟨a, rfl⟩ := Int.eq_ofNat_of_zero_le (show 0 ≤ a by omega)
    obtain ⟨e, rfl⟩ := Int.eq_ofNat_of_zero_le (show 0 ≤ e by omega)
    obtain ⟨x, rfl⟩ := Int.eq_ofNat_of_zero_le (show 0 ≤ x by omega)
    exact blank_in s a e x w (by omega) (by omega) (by omega) hs
  · rw [show inL s.size a e x = false by simpa using h, Bool.false_and]
    exact blank_out s a e x w (by simpa using h)

set_option maxRecDepth 100000 in
set_option maxHeartbeats 1000000 in
theorem wholeOf_any (s : ByteArray) (w : World) :
    Calls Tryd.prog 27 #[.string s] w fun r w' => r = .returned (.agg #[.int .i64 0, .int .i64 (s.size : Nat), .int .i64 (s.size : Nat)]) ∧ Below w.heap.size w w' := by
  go_enter Tryd.func27, Tryd.ntmps27
  go_wp2
  refine bodyPost_ret (v := .agg #[.int .i64 0, .int .i64 (s.size : Nat), .int .i64 (s.size : Nat)]) (by simp [results, Tryd.results27, go_sem]) rfl ⟨rfl, ?_⟩
  exact (Below.refl w.heap.size w).alloc (Nat.le_refl _) _

end Go.Proofs.YtnmfiadljhbmiaaDoor
