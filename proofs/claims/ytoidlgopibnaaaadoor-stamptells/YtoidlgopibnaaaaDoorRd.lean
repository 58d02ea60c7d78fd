/- Walks: targumref10's moved. -/
import Derived.Test.YtoidlgopibnaaaaDoorRc
set_option linter.unusedVariables false
namespace Go.Proofs.YtoidlgopibnaaaaDoor
open Go.RowKit

/-- A text up to the minute. -/
def ml (y m d n : Nat) : List UInt8 := dl y m d ++ (84 :: (M.d2 (n / 60) ++ (58 :: M.d2 (n % 60))))
theorem ml_ttx (y m d n se : Nat) (f : List UInt8) : M.ttx y m d n se f = ml y m d n ++ (58 :: (M.d2 se ++ (M.dot (M.tz f) ++ [90]))) := by
  unfold M.ttx ml dl; simp
theorem ml_len (y m d n : Nat) : (ml y m d n).length = 16 := rfl

set_option maxRecDepth 100000 in
set_option maxHeartbeats 1000000 in
/-- moved's end: a year that there is. -/
theorem moved_in (y m d n : Nat) (w : World) (hy : y < 10000) (hm : 1 ≤ m ∧ m ≤ 12) (hd : 1 ≤ d ∧ d ≤ M.days y m) (hn : n < 1440) :
    Calls Tryd.prog 38 #[.int .i64 y, .int .i64 m, .int .i64 d, .int .i64 n] w fun e w' => e = .returned (.tuple #[.string (bA (ml y m d n)), .bool true]) ∧ Below w.heap.size w w' := by
  have hd31 := M.days_le y m
  have cD := fun W => rdays_nat y m W (by omega)
  obtain ⟨D, hD⟩ : ∃ D, M.days y m = D := ⟨_, rfl⟩
  rw [hD] at cD hd hd31
  clear hD
  obtain ⟨a, ha⟩ : ∃ a, n / 60 = a := ⟨_, rfl⟩
  obtain ⟨b, hb⟩ : ∃ b, n % 60 = b := ⟨_, rfl⟩
  have c1 := fun W => rday_any y m d W hy (by omega) (by omega)
  have c2 := fun W => rtwo_any a W (by omega)
  have c3 := fun W => rtwo_any b W (by omega)
  have f1 : (n : Int) / 60 = (a : Int) := by omega
  have f2 : (n : Int) % 60 = (b : Int) := by omega
  have hr : bA (dl y m d) ++ ⟨#[84]⟩ ++ bA (M.d2 a) ++ ⟨#[58]⟩ ++ bA (M.d2 b) = bA (ml y m d n) := by
    unfold ml; rw [ha, hb]
    apply bA_inj.2 rfl
  have HR := Lib.hid hr
  have z1 : (bA (dl y m d)).size = 10 := bA_size _
  have z2 : (bA (M.d2 a)).size = 2 := bA_size _
  have z3 : (bA (M.d2 b)).size = 2 := bA_size _
  have z4 : (⟨#[84]⟩ : ByteArray).size = 1 := rfl
  have z5 : (⟨#[58]⟩ : ByteArray).size = 1 := rfl
  clear ha hb hr
  generalize bA (dl y m d) = A at *
  generalize bA (M.d2 a) = B at *
  generalize bA (M.d2 b) = C at *
  generalize bA (ml y m d n) = Z at *
  have y1 := append_sz A ⟨#[84]⟩
  have y2 := append_sz (A ++ ⟨#[84]⟩) B
  have y3 := append_sz (A ++ ⟨#[84]⟩ ++ B) ⟨#[58]⟩
  have a1 : ∀ W, (Op.stringOp .add A ⟨#[84]⟩).run Tryd.prog W = .ok (.string (A ++ ⟨#[84]⟩)) W := fun W => run_string_add_sum _ _ _ (by omega)
  have a2 : ∀ W, (Op.stringOp .add (A ++ ⟨#[84]⟩) B).run Tryd.prog W = .ok (.string (A ++ ⟨#[84]⟩ ++ B)) W := fun W => run_string_add_sum _ _ _ (by omega)
  have a3 : ∀ W, (Op.stringOp .add (A ++ ⟨#[84]⟩ ++ B) ⟨#[58]⟩).run Tryd.prog W = .ok (.string (A ++ ⟨#[84]⟩ ++ B ++ ⟨#[58]⟩)) W := fun W => run_string_add_sum _ _ _ (by omega)
  have a4 : ∀ W, (Op.stringOp .add (A ++ ⟨#[84]⟩ ++ B ++ ⟨#[58]⟩) C).run Tryd.prog W = .ok (.string (A ++ ⟨#[84]⟩ ++ B ++ ⟨#[58]⟩ ++ C)) W := fun W => run_string_add_sum _ _ _ (by omega)
  clear y1 y2 y3 z1 z2 z3 z4 z5
  have d1 : decide ((n : Int) < 0) = false := decide_eq_false (by omega)
  have d2 : decide ((1440 : Int) ≤ (n : Int)) = false := decide_eq_false (by omega)
  have d3 : decide ((d : Int) < 1) = false := decide_eq_false (by omega)
  have d4 : decide ((D : Int) < (d : Int)) = false := decide_eq_false (by omega)
  have d5 : decide (D < d) = false := decide_eq_false (by omega)
  have d6 : decide ((y : Int) < 0) = false := decide_eq_false (by omega)
  have d7 : decide ((9999 : Int) < (y : Int)) = false := decide_eq_false (by omega)
  have d8 : decide (9999 < y) = false := decide_eq_false (by omega)
  go_enter Tryd.func38, Tryd.ntmps38
  go_wp2_with fail
  refine (cD _).mono ?_
  rintro r w0 ⟨rfl, rfl⟩
  clear cD
  go_wp2_with fail
  refine (c1 _).mono ?_
  rintro r w1 ⟨rfl, hb1⟩
  go_wp2_with fail
  refine (c2 _).mono ?_
  rintro r w2 ⟨rfl, hb2⟩
  have B2 := hb1.trans (hb2.mono hb1.size)
  clear hb1 hb2 c1 c2
  go_wp2_with fail
  refine (c3 _).mono ?_
  rintro r w3 ⟨rfl, hb3⟩
  have HB := Lib.hid (B2.trans (hb3.mono B2.size))
  clear B2 hb3 c3
  have HR2 := HR.out
  clear HR
  subst HR2
  go_wp2
  go_ret2
  exact ⟨rfl, HB.out⟩
end Go.Proofs.YtoidlgopibnaaaaDoor
