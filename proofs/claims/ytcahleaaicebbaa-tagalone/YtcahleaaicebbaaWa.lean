/- Walks: the code's signs, strings.IndexByte, at; the document's signs. -/
import Derived.Test.YtcahleaaicebbaaK
import Derived.Lib.Bytealg
import Derived.Lib.IndexAny
set_option linter.unusedVariables false
namespace Go.Proofs.Ytcahleaaicebbaa
open Go.RowKit

set_option maxRecDepth 100000 in
theorem rL_any (c : UInt8) (w : World) : Calls Try.prog 30 #[.int .u8 (c.toNat : Nat)] w fun e w' => e = .returned (.bool (M.isL c)) ∧ w = w' := by
  have hc : c.toNat < 256 := c.toNat_lt
  unfold M.isL
  generalize c.toNat = n at *
  go_enter Try.func30, Try.ntmps30
  go_wp2
  all_goals (go_ret; refine ⟨ret_bool ?_, rfl⟩; rw [Bool.eq_iff_iff]; simp; try omega)
set_option maxRecDepth 100000 in
theorem rG_any (c : UInt8) (w : World) : Calls Try.prog 31 #[.int .u8 (c.toNat : Nat)] w fun e w' => e = .returned (.bool (M.isG c)) ∧ w = w' := by
  have hc : c.toNat < 256 := c.toNat_lt
  unfold M.isG
  generalize c.toNat = n at *
  go_enter Try.func31, Try.ntmps31
  go_wp2
  all_goals (go_ret; refine ⟨ret_bool ?_, rfl⟩; rw [Bool.eq_iff_iff]; simp; try omega)
set_option maxRecDepth 100000 in
theorem isW_any (c : UInt8) (w : World) : Calls Try.prog 34 #[.int .u8 (c.toNat : Nat)] w fun e w' => e = .returned (.bool (M.isW c)) ∧ w = w' := by
  have hc : c.toNat < 256 := c.toNat_lt
  unfold M.isW M.isL M.isG
  generalize c.toNat = n at *
  have e45 : ((n : Int) == 45) = decide (n = 45) := by rw [Bool.eq_iff_iff]; simp; omega
  go_enter Try.func34, Try.ntmps34
  go_wp2
  all_goals (go_ret; refine ⟨ret_bool ?_, rfl⟩; first | rfl | (simp_all; done) | (rw [Bool.eq_iff_iff]; simp; omega) | (simp_all; omega))

set_option maxRecDepth 100000 in
theorem slib_any (s : ByteArray) (c : UInt8) (w : World) : Calls Try.prog 35 #[.string s, .int .u8 (c.toNat : Nat)] w fun e w' => e = .returned (.int .i64 (Lib.indexByte s.data.toList c)) ∧ w = w' := by
  go_enter Try.func35, Try.ntmps35
  go_wp2
  rw [run_callFunc_extern Try.func36 (by kernel_rfl) (by kernel_rfl) (by kernel_rfl) (e := Extern.BytealgIndexByte.indexByte) (by kernel_rfl), Lib.run_indexByteString]
  simp only [Result.andThen]
  rw [Oper.upon_value]
  go_wp2
  go_ret
  exact ⟨ret_int (by simp), rfl⟩
set_option maxRecDepth 100000 in
theorem ib_any (s : ByteArray) (c : UInt8) (w : World) : Calls Try.prog 33 #[.string s, .int .u8 (c.toNat : Nat)] w fun e w' => e = .returned (.int .i64 (Lib.indexByte s.data.toList c)) ∧ w = w' := by
  have c1 := fun W => slib_any s c W
  go_enter Try.func33, Try.ntmps33
  go_wp2_with fail
  refine (c1 _).mono ?_
  rintro r w' ⟨rfl, rfl⟩
  go_wp2
  go_ret
  exact ⟨rfl, rfl⟩
theorem ib_marks (c : UInt8) (w : World) : Calls Try.prog 33 #[.string ⟨#[45, 95, 46, 126, 42, 39, 40, 41, 59, 47, 63, 58, 64, 38, 61, 43, 36, 35, 37]⟩, .int .u8 (c.toNat : Nat)] w fun e w' => e = .returned (.int .i64 (Lib.indexByte M.smarks c)) ∧ w = w' := ib_any _ c w
theorem ib_others (c : UInt8) (w : World) : Calls Try.prog 33 #[.string ⟨#[33, 44, 91, 93]⟩, .int .u8 (c.toNat : Nat)] w fun e w' => e = .returned (.int .i64 (Lib.indexByte M.omarks c)) ∧ w = w' := ib_any _ c w
set_option maxRecDepth 100000 in
theorem isS_any (c : UInt8) (w : World) : Calls Try.prog 29 #[.int .u8 (c.toNat : Nat)] w fun e w' => e = .returned (.bool (M.isS c)) ∧ w = w' := by
  have c1 := fun W => isW_any c W
  have c2 := fun W => ib_marks c W
  unfold M.isS
  rw [Lib.contains_iff_indexByte]
  generalize M.isW c = a at *
  generalize Lib.indexByte M.smarks c = j at *
  cases a
  · rw [Bool.false_or]
    go_enter Try.func29, Try.ntmps29
    go_wp2_with fail
    refine (c1 _).mono ?_
    rintro r w' ⟨rfl, rfl⟩
    go_wp2_with fail
    refine (c2 _).mono ?_
    rintro r w' ⟨rfl, rfl⟩
    go_wp2
    go_ret
    exact ⟨rfl, rfl⟩
  · go_enter Try.func29, Try.ntmps29
    go_wp2_with fail
    refine (c1 _).mono ?_
    rintro r w' ⟨rfl, rfl⟩
    go_wp2
    go_ret
    exact ⟨rfl, rfl⟩
set_option maxRecDepth 100000 in
theorem isT_any (c : UInt8) (w : World) : Calls Try.prog 27 #[.int .u8 (c.toNat : Nat)] w fun e w' => e = .returned (.bool (M.isT c)) ∧ w = w' := by
  have c1 := fun W => isS_any c W
  have c2 := fun W => ib_others c W
  unfold M.isT
  rw [Lib.contains_iff_indexByte M.omarks]
  generalize M.isS c = a at *
  generalize Lib.indexByte M.omarks c = j at *
  cases a
  · rw [Bool.false_or]
    go_enter Try.func27, Try.ntmps27
    go_wp2_with fail
    refine (c1 _).mono ?_
    rintro r w' ⟨rfl, rfl⟩
    go_wp2_with fail
    refine (c2 _).mono ?_
    rintro r w' ⟨rfl, rfl⟩
    go_wp2
    go_ret
    exact ⟨rfl, rfl⟩
  · go_enter Try.func27, Try.ntmps27
    go_wp2_with fail
    refine (c1 _).mono ?_
    rintro r w' ⟨rfl, rfl⟩
    go_wp2
    go_ret
    exact ⟨rfl, rfl⟩

/-- The byte at a place, or -1. -/
def atI (l : List UInt8) (i : Int) : Int := if 0 ≤ i then (match l[i.toNat]? with | some c => (c.toNat : Int) | none => -1) else -1
theorem atI_out (l : List UInt8) (i : Int) (h : i < 0 ∨ (l.length : Int) ≤ i) : atI l i = -1 := by
  unfold atI
  split
  · rw [List.getElem?_eq_none (by omega)]
  · rfl
theorem atI_in (s : ByteArray) (k : Nat) (h : k < s.size) : atI s.data.toList (k : Int) = (s[k].toNat : Int) := by
  unfold atI
  rw [if_pos (by omega), Int.toNat_natCast, get_list s k h]
theorem atI_nat (l : List UInt8) (k : Nat) : atI l (k : Int) = match l[k]? with | some c => (c.toNat : Int) | none => -1 := by
  unfold atI; rw [if_pos (by omega), Int.toNat_natCast]
theorem atI_is (l : List UInt8) (k n : Nat) (hn : n < 256) : (atI l (k : Int) == (n : Int)) = decide (l[k]? = some (UInt8.ofNat n)) := by
  rw [atI_nat, Bool.eq_iff_iff, decide_eq_true_eq, beq_iff_eq]
  cases h : l[k]? with
  | none => simp
  | some c =>
    have hc : c.toNat < 256 := c.toNat_lt
    simp only [Option.some.injEq]
    constructor
    · intro e
      have e' : c.toNat = n := by omega
      rw [← e']; simp
    · rintro rfl
      simp; omega
set_option maxRecDepth 100000 in
theorem at_any (s : ByteArray) (i : Int) (w : World) (hs : s.size ≤ 4611686018427387904) : Calls Try.prog 18 #[.string s, .int .i64 i] w fun e w' => e = .returned (.int .i64 (atI s.data.toList i)) ∧ w = w' := by
  by_cases h0 : i < 0
  · rw [atI_out _ _ (Or.inl h0)]
    have d0 : decide (i < 0) = true := decide_eq_true h0
    go_enter Try.func18, Try.ntmps18
    go_wp2
    go_ret
    exact ⟨rfl, rfl⟩
  · have d0 : decide (i < 0) = false := decide_eq_false h0
    by_cases h1 : (s.size : Int) ≤ i
    · rw [atI_out _ _ (Or.inr (by rw [← sz_list]; exact h1))]
      have d1 : decide ((s.size : Int) ≤ i) = true := decide_eq_true h1
      go_enter Try.func18, Try.ntmps18
      go_wp2
      go_ret
      exact ⟨rfl, rfl⟩
    · obtain ⟨k, rfl⟩ := Int.eq_ofNat_of_zero_le (show (0 : Int) ≤ i by omega)
      have hk : k < s.size := by omega
      rw [atI_in s k hk]
      have d1 : decide ((s.size : Int) ≤ (k : Int)) = false := decide_eq_false (by omega)
      have d2 : decide (s.size ≤ k) = false := decide_eq_false (by omega)
      have hkd : decide (k < s.size) = true := decide_eq_true hk
      have hc : s[k].toNat < 256 := s[k].toNat_lt
      go_enter Try.func18, Try.ntmps18
      go_wp2
      go_ret
      exact ⟨rfl, rfl⟩
end Go.Proofs.Ytcahleaaicebbaa
