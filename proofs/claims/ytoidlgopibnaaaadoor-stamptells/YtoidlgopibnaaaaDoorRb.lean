/- Walks: targumref10's part, two, day. -/
import Derived.Test.YtoidlgopibnaaaaDoorRa
set_option linter.unusedVariables false
namespace Go.Proofs.YtoidlgopibnaaaaDoor
open Go.RowKit

theorem dgV_form (s : ByteArray) (i l m : Nat) : ∃ V C : Int, dgV s i l m = .tuple #[.int .i64 V, .int .i64 C] := by
  unfold dgV; split <;> exact ⟨_, _, rfl⟩
def noV : Value := .tuple #[.int .i64 0, .int .i64 (-1)]
set_option maxRecDepth 100000 in
set_option maxHeartbeats 1000000 in
theorem part_no (s c : ByteArray) (i least most : Nat) (w : World) (hs : s.size ≤ 100000) (hc : c.size ≤ 2) (hi : i ≤ s.size) (h : ∀ hlt : i < s.size, s[i] ∉ c.data.toList) :
    Calls Tryd.prog 23 #[.string s, .int .i64 i, .string c, .int .i64 least, .int .i64 most] w fun e w' => e = .returned noV ∧ Below w.heap.size w w' := by
  have c1 : ∀ W, Calls Tryd.prog 24 #[.string s, .int .i64 i, .string c] W fun e w' => e = .returned (.int .i64 (-1)) ∧ Below W.heap.size W w' := by
    intro W
    by_cases hlt : i < s.size
    · have := sign_in s c i W hs hlt hc
      rw [if_neg (h hlt)] at this
      exact this
    · exact sign_out s c i W hs hlt (by omega)
  clear h
  go_enter Tryd.func23, Tryd.ntmps23
  go_wp2_with fail
  refine (c1 _).mono ?_
  rintro r w1 ⟨rfl, hb⟩
  go_wp2_with fail
  go_ret2
  exact ⟨rfl, hb⟩
set_option maxRecDepth 100000 in
set_option maxHeartbeats 1000000 in
theorem part_yes (s c : ByteArray) (i least most : Nat) (w : World) (hs : s.size ≤ 100000) (hc : c.size ≤ 2) (hlt : i < s.size) (h : s[i] ∈ c.data.toList) (hm : most ≤ 4) (hl4 : least ≤ 4) :
    Calls Tryd.prog 23 #[.string s, .int .i64 i, .string c, .int .i64 least, .int .i64 most] w fun e w' => e = .returned (dgV s (i + 1) least most) ∧ Below w.heap.size w w' := by
  have c1 : ∀ W, Calls Tryd.prog 24 #[.string s, .int .i64 i, .string c] W fun e w' => e = .returned (.int .i64 ((i + 1 : Nat) : Int)) ∧ Below W.heap.size W w' := by
    intro W
    have := sign_in s c i W hs hlt hc
    rw [if_pos h] at this
    exact this
  have c2 := fun W => rdigits_any s (i + 1) least most W hs (by omega) hm hl4
  obtain ⟨V, C, hVC⟩ := dgV_form s (i + 1) least most
  rw [hVC] at c2 ⊢
  have hk : i + 1 ≤ 100000 := by omega
  clear h hVC hlt
  generalize i + 1 = k at *
  go_enter Tryd.func23, Tryd.ntmps23
  go_wp2_with fail
  refine (c1 _).mono ?_
  rintro r w1 ⟨rfl, hb⟩
  have d0 : decide ((k : Int) < 0) = false := decide_eq_false (by omega)
  go_wp2_with fail
  refine (c2 _).mono ?_
  rintro r w2 ⟨rfl, rfl⟩
  go_wp2_with fail
  go_ret2
  exact ⟨rfl, hb⟩

set_option maxRecDepth 100000 in
set_option maxHeartbeats 1000000 in
theorem rtwo_any (n : Nat) (w : World) (hn : n < 100) : Calls Tryd.prog 39 #[.int .i64 n] w fun e w' => e = .returned (.string (bA (M.d2 n))) ∧ Below w.heap.size w w' := by
  obtain ⟨a, ha⟩ : ∃ a, n / 10 = a := ⟨_, rfl⟩
  obtain ⟨b, hb⟩ : ∃ b, n % 10 = b := ⟨_, rfl⟩
  have c1 := fun W => rdig_any a W (by omega)
  have c2 := fun W => rdig_any b W (by omega)
  have f1 : (n : Int) / 10 = (a : Int) := by omega
  have f2 : (n : Int) % 10 = (b : Int) := by omega
  have hr : bA [M.dch a] ++ bA [M.dch b] = bA (M.d2 n) := by unfold M.d2; rw [ha, hb]; exact bA_append _ _
  have HR := Lib.hid hr
  have z1 : (bA [M.dch a]).size = 1 := bA_size _
  have z2 : (bA [M.dch b]).size = 1 := bA_size _
  clear ha hb hr
  generalize bA [M.dch a] = A at *
  generalize bA [M.dch b] = B at *
  have a1 : ∀ W, (Op.stringOp .add A B).run Tryd.prog W = .ok (.string (A ++ B)) W := fun W => run_string_add_sum _ _ _ (by omega)
  go_enter Tryd.func39, Tryd.ntmps39
  go_wp2_with fail
  refine (c1 _).mono ?_
  rintro r w1 ⟨rfl, hb1⟩
  go_wp2_with fail
  refine (c2 _).mono ?_
  rintro r w2 ⟨rfl, hb2⟩
  have HB := Lib.hid (hb1.trans (hb2.mono hb1.size))
  clear hb1 hb2 c1 c2 z1 z2
  go_wp2
  go_ret
  exact ⟨ret_str HR.out, HB.out⟩

/-- A date's text. -/
def dl (y m d : Nat) : List UInt8 := M.d4 y ++ (45 :: (M.d2 m ++ (45 :: M.d2 d)))
theorem dl_len (y m d : Nat) : (dl y m d).length = 10 := rfl
set_option maxRecDepth 100000 in
set_option maxHeartbeats 1000000 in
theorem rday_any (y m d : Nat) (w : World) (hy : y < 10000) (hm : m < 100) (hd : d < 100) : Calls Tryd.prog 48 #[.int .i64 y, .int .i64 m, .int .i64 d] w fun e w' => e = .returned (.string (bA (dl y m d))) ∧ Below w.heap.size w w' := by
  obtain ⟨a, ha⟩ : ∃ a, y / 100 = a := ⟨_, rfl⟩
  obtain ⟨b, hb⟩ : ∃ b, y % 100 = b := ⟨_, rfl⟩
  have c1 := fun W => rtwo_any a W (by omega)
  have c2 := fun W => rtwo_any b W (by omega)
  have c3 := fun W => rtwo_any m W hm
  have c4 := fun W => rtwo_any d W hd
  have f1 : (y : Int) / 100 = (a : Int) := by omega
  have f2 : (y : Int) % 100 = (b : Int) := by omega
  have hr : bA (M.d2 a) ++ bA (M.d2 b) ++ ⟨#[45]⟩ ++ bA (M.d2 m) ++ ⟨#[45]⟩ ++ bA (M.d2 d) = bA (dl y m d) := by
    unfold dl M.d4; rw [ha, hb]
    apply bA_inj.2 rfl
  have HR := Lib.hid hr
  have z1 : (bA (M.d2 a)).size = 2 := bA_size _
  have z2 : (bA (M.d2 b)).size = 2 := bA_size _
  have z3 : (bA (M.d2 m)).size = 2 := bA_size _
  have z4 : (bA (M.d2 d)).size = 2 := bA_size _
  have z5 : (⟨#[45]⟩ : ByteArray).size = 1 := rfl
  clear ha hb hr
  generalize bA (M.d2 a) = A at *
  generalize bA (M.d2 b) = B at *
  generalize bA (M.d2 m) = C at *
  generalize bA (M.d2 d) = D at *
  have y1 := append_sz A B
  have y2 := append_sz (A ++ B) ⟨#[45]⟩
  have y3 := append_sz (A ++ B ++ ⟨#[45]⟩) C
  have y4 := append_sz (A ++ B ++ ⟨#[45]⟩ ++ C) ⟨#[45]⟩
  have a1 : ∀ W, (Op.stringOp .add A B).run Tryd.prog W = .ok (.string (A ++ B)) W := fun W => run_string_add_sum _ _ _ (by omega)
  have a2 : ∀ W, (Op.stringOp .add (A ++ B) ⟨#[45]⟩).run Tryd.prog W = .ok (.string (A ++ B ++ ⟨#[45]⟩)) W := fun W => run_string_add_sum _ _ _ (by omega)
  have a3 : ∀ W, (Op.stringOp .add (A ++ B ++ ⟨#[45]⟩) C).run Tryd.prog W = .ok (.string (A ++ B ++ ⟨#[45]⟩ ++ C)) W := fun W => run_string_add_sum _ _ _ (by omega)
  have a4 : ∀ W, (Op.stringOp .add (A ++ B ++ ⟨#[45]⟩ ++ C) ⟨#[45]⟩).run Tryd.prog W = .ok (.string (A ++ B ++ ⟨#[45]⟩ ++ C ++ ⟨#[45]⟩)) W := fun W => run_string_add_sum _ _ _ (by omega)
  have a5 : ∀ W, (Op.stringOp .add (A ++ B ++ ⟨#[45]⟩ ++ C ++ ⟨#[45]⟩) D).run Tryd.prog W = .ok (.string (A ++ B ++ ⟨#[45]⟩ ++ C ++ ⟨#[45]⟩ ++ D)) W := fun W => run_string_add_sum _ _ _ (by omega)
  clear y1 y2 y3 y4 z1 z2 z3 z4 z5
  go_enter Tryd.func48, Tryd.ntmps48
  go_wp2_with fail
  refine (c1 _).mono ?_
  rintro r w1 ⟨rfl, hb1⟩
  go_wp2_with fail
  refine (c2 _).mono ?_
  rintro r w2 ⟨rfl, hb2⟩
  have B2 := hb1.trans (hb2.mono hb1.size)
  clear hb1 hb2 c1 c2
  go_wp2_with fail
  refine (c3 _).mono ?_
  rintro r w3 ⟨rfl, hb3⟩
  have B3 := B2.trans (hb3.mono B2.size)
  clear B2 hb3 c3
  go_wp2_with fail
  refine (c4 _).mono ?_
  rintro r w4 ⟨rfl, hb4⟩
  have HB := Lib.hid (B3.trans (hb4.mono B3.size))
  clear B3 hb4 c4
  go_wp2
  go_ret
  exact ⟨ret_str HR.out, HB.out⟩
end Go.Proofs.YtoidlgopibnaaaaDoor
