/- Digits of a number to a base; what Int and Float answer of them. -/
import Derived.Test.YtocegiffbgnogaaDoorPk
import Derived.Test.YtocegiffbgnogaaDoorPj
import Derived.Test.YtocegiffbgnogaaDoorQc
set_option linter.unusedVariables false
namespace Go.Proofs.YtocegiffbgnogaaDoor
open Go.RowKit
namespace M
/-- A digit's sign. -/
def dch (v : Nat) : UInt8 := if v < 10 then UInt8.ofNat (48 + v) else UInt8.ofNat (87 + v)
theorem u8n (k : Nat) (h : k < 256) : (UInt8.ofNat k).toNat = k := by simp; omega
theorem dch_dv (v : Nat) (h : v < 16) : dv (dch v) = v := by
  unfold dch
  split
  · exact dv_dig v (by omega)
  · unfold dv
    rw [u8n _ (by omega), if_neg (by omega), if_pos (by omega)]; omega
/-- S holds digits of n to the base b, and k is what is left of n. -/
def BS (b n k : Nat) (S : List UInt8) : Prop := k * b ^ S.length + val b S = n ∧ allD b S = true ∧ (S = [] → k = n)
theorem BS.start (b n : Nat) : BS b n n [] := ⟨by simp [val], rfl, fun _ => rfl⟩
theorem BS.step {b n k : Nat} {S : List UInt8} (h : BS b n k S) (hb : 2 ≤ b) (hb2 : b ≤ 16) : BS b n (k / b) (dch (k % b) :: S) := by
  obtain ⟨h1, h2, h3⟩ := h
  have hq : k % b < b := Nat.mod_lt _ (by omega)
  have hdv := dch_dv (k % b) (by omega)
  refine ⟨?_, ?_, fun e => by cases e⟩
  · rw [List.length_cons, val_cons, hdv, Nat.pow_succ, ← Nat.add_assoc]
    rw [show k / b * (b ^ S.length * b) = (b * (k / b)) * b ^ S.length by rw [Nat.mul_comm (b ^ S.length) b, ← Nat.mul_assoc, Nat.mul_comm (k / b) b], ← Nat.add_mul, Nat.div_add_mod]
    exact h1
  · rw [allD_cons, h2, hdv, decide_eq_true hq]; rfl
theorem BS.room {b n k : Nat} {S : List UInt8} (h : BS b n k S) (hb : 2 ≤ b) (hn : n < 4294967296) (hk : 0 < k) : S.length < 32 := by
  have h1 := h.1
  have h2 : b ^ S.length ≤ k * b ^ S.length := Nat.le_mul_of_pos_left _ hk
  have h3 : 2 ^ S.length ≤ b ^ S.length := Nat.pow_le_pow_left hb _
  have h4 : 2 ^ S.length < 2 ^ 32 := by
    have : (2 : Nat) ^ 32 = 4294967296 := by decide
    omega
  exact (Nat.pow_lt_pow_iff_right (by omega)).1 h4
theorem BS.ok {b n : Nat} {S : List UInt8} (h : BS b n 0 S) (hS : S ≠ []) : okD b S = true ∧ val b S = n := by
  obtain ⟨h1, h2, _⟩ := h
  exact ⟨(okD_iff _ _).2 ⟨hS, h2⟩, by omega⟩
theorem zeros_ok {b : Nat} (hb : 0 < b) (m : Nat) {S : List UInt8} (h : okD b S = true) : okD b (List.replicate m 48 ++ S) = true ∧ val b (List.replicate m 48 ++ S) = val b S := by
  induction m with
  | zero => exact ⟨h, rfl⟩
  | succ m ih =>
    rw [List.replicate_succ, List.cons_append]
    refine ⟨?_, ?_⟩
    · rw [okD_cons, show dv 48 = 0 by decide, decide_eq_true hb, Bool.true_and]; exact ((okD_iff _ _).1 ih.1).2
    · rw [val_cons, show dv 48 = 0 by decide, Nat.zero_mul, Nat.zero_add]; exact ih.2
theorem iv_gap (l : List UInt8) : iv (l ++ [95]) = none := by
  have key : ∀ (b : Nat) (d : List UInt8), b ≤ 99 → okD b d = true → ∀ c ∈ d, c ≠ 95 := fun b d hb ho c hc => ne95 ((allD_iff _ _).1 ((okD_iff _ _).1 ho).2 c hc) hb
  rcases form_iv (l ++ [95]) with ⟨d, _, hl, ho, _⟩ | ⟨d, _, hl, ho, _⟩ | ⟨_, ho, _⟩ | ⟨_, e⟩
  · exfalso
    have h95 : (95 : UInt8) ∈ 48 :: 111 :: d := by rw [← hl]; simp
    rcases List.mem_cons.1 h95 with h | h
    · exact absurd h (by decide)
    · rcases List.mem_cons.1 h with h | h
      · exact absurd h (by decide)
      · exact key 8 d (by omega) ho 95 h rfl
  · exfalso
    have h95 : (95 : UInt8) ∈ 48 :: 120 :: d := by rw [← hl]; simp
    rcases List.mem_cons.1 h95 with h | h
    · exact absurd h (by decide)
    · rcases List.mem_cons.1 h with h | h
      · exact absurd h (by decide)
      · exact key 16 d (by omega) ho 95 h rfl
  · exfalso
    rcases body_chars ho 95 (by simp) with h | h | h
    · exact absurd h (by decide)
    · exact absurd h (by decide)
    · exact absurd h (by decide)
  · exact e
end M
theorem sig16 (q : Nat) (h : q < 16) : (⟨#[48, 49, 50, 51, 52, 53, 54, 55, 56, 57, 97, 98, 99, 100, 101, 102]⟩ : ByteArray).extract q (q + 1) = bA [M.dch q] := by
  have key : ∀ q : Fin 16, ((⟨#[48, 49, 50, 51, 52, 53, 54, 55, 56, 57, 97, 98, 99, 100, 101, 102]⟩ : ByteArray).extract q.val (q.val + 1)).data.toList = [M.dch q.val] := by decide
  exact eq_bA (key ⟨q, h⟩)
/-- A whole number is no decimal. -/
theorem flo_of_iv (s : ByteArray) (z : Int) (w : World) (hs : s.size ≤ 1000) (h : M.iv s.data.toList = some z) : Calls Tryd.prog 10 #[.string s] w fun e w' => e = .returned (.tuple #[dZ, .bool false]) ∧ Below w.heap.size w w' :=
  nflo_no s w hs (fun k => by rw [(iv_nan k).1] at h; cases h) (fun k => by rw [iv_inf k] at h; cases h) (fun k => by rw [M.iv_none_of_four k] at h; cases h)
theorem tx_is (n : Nat) : tx (n : Int) = bA (M.dg n) := by unfold tx; rw [M.txt_nat]
theorem iv_8 {d : List UInt8} (h : M.okD 8 d = true) : M.iv (48 :: 111 :: d) = some ((M.val 8 d : Nat) : Int) := by
  unfold M.iv
  rw [if_pos (by rfl)]
  show (if M.okD 8 d = true then some ((M.val 8 d : Nat) : Int) else none) = _
  rw [if_pos h]
theorem iv_16 {d : List UInt8} (h : M.okD 16 d = true) : M.iv (48 :: 120 :: d) = some ((M.val 16 d : Nat) : Int) := by
  unfold M.iv
  rw [if_neg (show ¬ (48 :: 120 :: d).take 2 = [48, 111] by simp), if_pos (by rfl)]
  show (if M.okD 16 d = true then some ((M.val 16 d : Nat) : Int) else none) = _
  rw [if_pos h]
theorem iv_10 {d : List UInt8} (h : M.okD 10 d = true) : M.iv d = some ((M.val 10 d : Nat) : Int) := by
  obtain ⟨hne, hal⟩ := (M.okD_iff _ _).1 h
  cases d with
  | nil => exact absurd rfl hne
  | cons c r =>
    rw [M.allD_cons, Bool.and_eq_true, decide_eq_true_eq] at hal
    have h43 : c ≠ 43 := by intro e; rw [e, M.dv43] at hal; omega
    have h45 : c ≠ 45 := by intro e; rw [e, M.dv45] at hal; omega
    obtain ⟨e1, e2⟩ := M.body_else r h43 h45
    have := iv_of_ok (l := c :: r) (by rw [e2]; exact h)
    rw [e1, e2] at this
    exact this
theorem iv_sign {g : UInt8} (hg : g = 43 ∨ g = 45) {d : List UInt8} (h : M.okD 10 d = true) : M.iv (g :: d) = some (M.sgn (decide (g = 45)) (M.val 10 d)) := by
  rcases hg with rfl | rfl
  · have := iv_of_ok (l := 43 :: d) (by rw [(M.body_43 d).2]; exact h)
    rw [(M.body_43 d).1, (M.body_43 d).2] at this
    exact this
  · have := iv_of_ok (l := 45 :: d) (by rw [(M.body_45 d).2]; exact h)
    rw [(M.body_45 d).1, (M.body_45 d).2] at this
    exact this
theorem iv_smark {g c : UInt8} (hg : g = 43 ∨ g = 45) (hc : c = 111 ∨ c = 120) (d : List UInt8) : M.iv (g :: 48 :: c :: d) = none := by
  have hb : M.body (g :: 48 :: c :: d) = 48 :: c :: d := by
    rcases hg with rfl | rfl
    · exact (M.body_43 _).2
    · exact (M.body_45 _).2
  rcases form_iv (g :: 48 :: c :: d) with ⟨e, _, hl, _, _⟩ | ⟨e, _, hl, _, _⟩ | ⟨_, ho, _⟩ | ⟨_, e⟩
  · injection hl with h1 _; rcases hg with rfl | rfl <;> exact absurd h1 (by decide)
  · injection hl with h1 _; rcases hg with rfl | rfl <;> exact absurd h1 (by decide)
  · exfalso
    rw [hb, M.okD_cons, M.allD_cons] at ho
    rcases hc with rfl | rfl
    · rw [show decide (M.dv 111 < 10) = false by decide] at ho; simp at ho
    · rw [show decide (M.dv 120 < 10) = false by decide] at ho; simp at ho
  · exact e
end Go.Proofs.YtocegiffbgnogaaDoor
