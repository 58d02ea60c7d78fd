/- Walks: targumref10's moved, out of the day (g/gre.py). -/
import Derived.Test.YtipgipgehnhgkaaGreatDoorTj
set_option linter.unusedVariables false
namespace Go.Proofs.YtipgipgehnhgkaaGreatDoor.S10
open Go.RowKit

set_option maxRecDepth 100000 in
set_option maxHeartbeats 1000000 in
theorem moved_b (y m d D N : Nat) (n : Int) (w : World) (hy : y < 10000) (hm : m ≤ 12) (hd : d ≤ M.days y m) (hD : (d : Int) - 1 = (D : Int)) (h1 : 1 ≤ D) (hn : n < 0) (hN : n + 1440 = (N : Int)) (hN2 : N < 1440) :
    Calls Tryz.prog 121 #[.int .i64 y, .int .i64 m, .int .i64 d, .int .i64 n] w fun e w' => e = .returned (.tuple #[.string (bA (ml y m D N)), .bool true]) ∧ Below w.heap.size w w' := by
  have cD : ∀ W, Calls Tryz.prog 77 #[.int .i64 y, .int .i64 m] W fun e w' => e = .returned (.int .i64 (M.days y m : Nat)) ∧ W = w' := fun W => rdays_nat y m W (by omega)
  have hT31 := M.days_le y m
  obtain ⟨T, hT⟩ : ∃ T, M.days y m = T := ⟨_, rfl⟩
  rw [hT] at cD hT31 hd
  clear hT
  obtain ⟨a, ha⟩ : ∃ a, N / 60 = a := ⟨_, rfl⟩
  obtain ⟨b, hb⟩ : ∃ b, N % 60 = b := ⟨_, rfl⟩
  have c1 : ∀ W, Calls Tryz.prog 164 #[.int .i64 y, .int .i64 m, .int .i64 D] W fun e w' => e = .returned (.string (bA (dl y m D))) ∧ Below W.heap.size W w' := fun W => rday_any y m D W (by omega) (by omega) (by omega)
  have c2 := fun W => rtwo_any a W (by omega)
  have c3 := fun W => rtwo_any b W (by omega)
  have f1 : (N : Int) / 60 = (a : Int) := by omega
  have f2 : (N : Int) % 60 = (b : Int) := by omega
  have hr : bA (dl y m D) ++ ⟨#[84]⟩ ++ bA (M.d2 a) ++ ⟨#[58]⟩ ++ bA (M.d2 b) = bA (ml y m D N) := by
    unfold ml; rw [ha, hb]
    apply bA_inj.2 rfl
  have HR := Lib.hid hr
  have z1 : (bA (dl y m D)).size = 10 := bA_size _
  have z2 : (bA (M.d2 a)).size = 2 := bA_size _
  have z3 : (bA (M.d2 b)).size = 2 := bA_size _
  have z4 : (⟨#[84]⟩ : ByteArray).size = 1 := rfl
  have z5 : (⟨#[58]⟩ : ByteArray).size = 1 := rfl
  clear ha hb hr
  generalize bA (dl y m D) = A at *
  generalize bA (M.d2 a) = B at *
  generalize bA (M.d2 b) = C at *
  generalize bA (ml y m D N) = Z at *
  have y1 := append_sz A ⟨#[84]⟩
  have y2 := append_sz (A ++ ⟨#[84]⟩) B
  have y3 := append_sz (A ++ ⟨#[84]⟩ ++ B) ⟨#[58]⟩
  have a1 : ∀ W, (Op.stringOp .add A ⟨#[84]⟩).run Tryz.prog W = .ok (.string (A ++ ⟨#[84]⟩)) W := fun W => run_string_add_sum _ _ _ (by omega)
  have a2 : ∀ W, (Op.stringOp .add (A ++ ⟨#[84]⟩) B).run Tryz.prog W = .ok (.string (A ++ ⟨#[84]⟩ ++ B)) W := fun W => run_string_add_sum _ _ _ (by omega)
  have a3 : ∀ W, (Op.stringOp .add (A ++ ⟨#[84]⟩ ++ B) ⟨#[58]⟩).run Tryz.prog W = .ok (.string (A ++ ⟨#[84]⟩ ++ B ++ ⟨#[58]⟩)) W := fun W => run_string_add_sum _ _ _ (by omega)
  have a4 : ∀ W, (Op.stringOp .add (A ++ ⟨#[84]⟩ ++ B ++ ⟨#[58]⟩) C).run Tryz.prog W = .ok (.string (A ++ ⟨#[84]⟩ ++ B ++ ⟨#[58]⟩ ++ C)) W := fun W => run_string_add_sum _ _ _ (by omega)
  clear y1 y2 y3 z1 z2 z3 z4 z5
  have k1 : decide (n < 0) = true := decide_eq_true (by omega)
  have k2 : decide ((1440 : Int) ≤ (N : Int)) = false := decide_eq_false (by omega)
  have k5 : decide ((D : Int) < 1) = false := decide_eq_false (by omega)
  have k6 : decide ((T : Int) < (D : Int)) = false := decide_eq_false (by omega)
  have k7 : decide (T < D) = false := decide_eq_false (by omega)
  have k8 : decide ((y : Int) < 0) = false := decide_eq_false (by omega)
  have k9 : decide ((9999 : Int) < (y : Int)) = false := decide_eq_false (by omega)
  have k10 : decide (9999 < y) = false := decide_eq_false (by omega)
  go_enter Tryz.func121, Tryz.ntmps121
  go_wp2_with fail
  refine (cD _).mono ?_
  rintro r w0 ⟨rfl, rfl⟩
  clear cD
  go_wp2_with fail
  refine (c1 _).mono ?_
  rintro r w1 ⟨rfl, hb1⟩
  go_wp2_with fail
  refine (c2 _).mono ?_
  rintro r w2 ⟨rfl, hb2⟩
  have B2 := hb1.trans (hb2.mono hb1.size)
  clear hb1 hb2 c1 c2
  go_wp2_with fail
  refine (c3 _).mono ?_
  rintro r w3 ⟨rfl, hb3⟩
  have HB := Lib.hid (B2.trans (hb3.mono B2.size))
  clear B2 hb3 c3
  have HR2 := HR.out
  clear HR
  subst HR2
  go_wp2
  go_ret2
  exact ⟨rfl, HB.out⟩

set_option maxRecDepth 100000 in
set_option maxHeartbeats 1000000 in
theorem moved_c (y m P T N : Nat) (n : Int) (w : World) (hy : y < 10000) (hm : (m : Int) - 1 = (P : Int)) (h1 : 1 ≤ P) (h2 : P ≤ 12) (hd : M.days y P = T) (hn : n < 0) (hN : n + 1440 = (N : Int)) (hN2 : N < 1440) :
    Calls Tryz.prog 121 #[.int .i64 y, .int .i64 m, .int .i64 1, .int .i64 n] w fun e w' => e = .returned (.tuple #[.string (bA (ml y P T N)), .bool true]) ∧ Below w.heap.size w w' := by
  have cD : ∀ W, Calls Tryz.prog 77 #[.int .i64 y, .int .i64 P] W fun e w' => e = .returned (.int .i64 (M.days y P : Nat)) ∧ W = w' := fun W => rdays_nat y P W (by omega)
  have hT31 := M.days_le y P
  rw [hd] at cD hT31
  clear hd
  obtain ⟨a, ha⟩ : ∃ a, N / 60 = a := ⟨_, rfl⟩
  obtain ⟨b, hb⟩ : ∃ b, N % 60 = b := ⟨_, rfl⟩
  have c1 : ∀ W, Calls Tryz.prog 164 #[.int .i64 y, .int .i64 P, .int .i64 T] W fun e w' => e = .returned (.string (bA (dl y P T))) ∧ Below W.heap.size W w' := fun W => rday_any y P T W (by omega) (by omega) (by omega)
  have c2 := fun W => rtwo_any a W (by omega)
  have c3 := fun W => rtwo_any b W (by omega)
  have f1 : (N : Int) / 60 = (a : Int) := by omega
  have f2 : (N : Int) % 60 = (b : Int) := by omega
  have hr : bA (dl y P T) ++ ⟨#[84]⟩ ++ bA (M.d2 a) ++ ⟨#[58]⟩ ++ bA (M.d2 b) = bA (ml y P T N) := by
    unfold ml; rw [ha, hb]
    apply bA_inj.2 rfl
  have HR := Lib.hid hr
  have z1 : (bA (dl y P T)).size = 10 := bA_size _
  have z2 : (bA (M.d2 a)).size = 2 := bA_size _
  have z3 : (bA (M.d2 b)).size = 2 := bA_size _
  have z4 : (⟨#[84]⟩ : ByteArray).size = 1 := rfl
  have z5 : (⟨#[58]⟩ : ByteArray).size = 1 := rfl
  clear ha hb hr
  generalize bA (dl y P T) = A at *
  generalize bA (M.d2 a) = B at *
  generalize bA (M.d2 b) = C at *
  generalize bA (ml y P T N) = Z at *
  have y1 := append_sz A ⟨#[84]⟩
  have y2 := append_sz (A ++ ⟨#[84]⟩) B
  have y3 := append_sz (A ++ ⟨#[84]⟩ ++ B) ⟨#[58]⟩
  have a1 : ∀ W, (Op.stringOp .add A ⟨#[84]⟩).run Tryz.prog W = .ok (.string (A ++ ⟨#[84]⟩)) W := fun W => run_string_add_sum _ _ _ (by omega)
  have a2 : ∀ W, (Op.stringOp .add (A ++ ⟨#[84]⟩) B).run Tryz.prog W = .ok (.string (A ++ ⟨#[84]⟩ ++ B)) W := fun W => run_string_add_sum _ _ _ (by omega)
  have a3 : ∀ W, (Op.stringOp .add (A ++ ⟨#[84]⟩ ++ B) ⟨#[58]⟩).run Tryz.prog W = .ok (.string (A ++ ⟨#[84]⟩ ++ B ++ ⟨#[58]⟩)) W := fun W => run_string_add_sum _ _ _ (by omega)
  have a4 : ∀ W, (Op.stringOp .add (A ++ ⟨#[84]⟩ ++ B ++ ⟨#[58]⟩) C).run Tryz.prog W = .ok (.string (A ++ ⟨#[84]⟩ ++ B ++ ⟨#[58]⟩ ++ C)) W := fun W => run_string_add_sum _ _ _ (by omega)
  clear y1 y2 y3 z1 z2 z3 z4 z5
  have k1 : decide (n < 0) = true := decide_eq_true (by omega)
  have k2 : decide ((1440 : Int) ≤ (N : Int)) = false := decide_eq_false (by omega)
  have k11 : decide ((P : Int) < 1) = false := decide_eq_false (by omega)
  have k12 : decide ((y : Int) < 0) = false := decide_eq_false (by omega)
  have k13 : decide ((9999 : Int) < (y : Int)) = false := decide_eq_false (by omega)
  have k14 : decide (9999 < y) = false := decide_eq_false (by omega)
  go_enter Tryz.func121, Tryz.ntmps121
  go_wp2_with fail
  refine (cD _).mono ?_
  rintro r w0 ⟨rfl, rfl⟩
  clear cD
  go_wp2_with fail
  refine (c1 _).mono ?_
  rintro r w1 ⟨rfl, hb1⟩
  go_wp2_with fail
  refine (c2 _).mono ?_
  rintro r w2 ⟨rfl, hb2⟩
  have B2 := hb1.trans (hb2.mono hb1.size)
  clear hb1 hb2 c1 c2
  go_wp2_with fail
  refine (c3 _).mono ?_
  rintro r w3 ⟨rfl, hb3⟩
  have HB := Lib.hid (B2.trans (hb3.mono B2.size))
  clear B2 hb3 c3
  have HR2 := HR.out
  clear HR
  subst HR2
  go_wp2
  go_ret2
  exact ⟨rfl, HB.out⟩

set_option maxRecDepth 100000 in
set_option maxHeartbeats 1000000 in
theorem moved_d (y Y N : Nat) (n : Int) (w : World) (hy : y < 10000) (hY : (y : Int) - 1 = (Y : Int)) (hn : n < 0) (hN : n + 1440 = (N : Int)) (hN2 : N < 1440) :
    Calls Tryz.prog 121 #[.int .i64 y, .int .i64 1, .int .i64 1, .int .i64 n] w fun e w' => e = .returned (.tuple #[.string (bA (ml Y 12 31 N)), .bool true]) ∧ Below w.heap.size w w' := by
  have cD : ∀ W, Calls Tryz.prog 77 #[.int .i64 Y, .int .i64 12] W fun e w' => e = .returned (.int .i64 31) ∧ W = w' := fun W => rdays_nat Y 12 W (by omega)
  obtain ⟨a, ha⟩ : ∃ a, N / 60 = a := ⟨_, rfl⟩
  obtain ⟨b, hb⟩ : ∃ b, N % 60 = b := ⟨_, rfl⟩
  have c1 : ∀ W, Calls Tryz.prog 164 #[.int .i64 Y, .int .i64 12, .int .i64 31] W fun e w' => e = .returned (.string (bA (dl Y 12 31))) ∧ Below W.heap.size W w' := fun W => rday_any Y 12 31 W (by omega) (by omega) (by omega)
  have c2 := fun W => rtwo_any a W (by omega)
  have c3 := fun W => rtwo_any b W (by omega)
  have f1 : (N : Int) / 60 = (a : Int) := by omega
  have f2 : (N : Int) % 60 = (b : Int) := by omega
  have hr : bA (dl Y 12 31) ++ ⟨#[84]⟩ ++ bA (M.d2 a) ++ ⟨#[58]⟩ ++ bA (M.d2 b) = bA (ml Y 12 31 N) := by
    unfold ml; rw [ha, hb]
    apply bA_inj.2 rfl
  have HR := Lib.hid hr
  have z1 : (bA (dl Y 12 31)).size = 10 := bA_size _
  have z2 : (bA (M.d2 a)).size = 2 := bA_size _
  have z3 : (bA (M.d2 b)).size = 2 := bA_size _
  have z4 : (⟨#[84]⟩ : ByteArray).size = 1 := rfl
  have z5 : (⟨#[58]⟩ : ByteArray).size = 1 := rfl
  clear ha hb hr
  generalize bA (dl Y 12 31) = A at *
  generalize bA (M.d2 a) = B at *
  generalize bA (M.d2 b) = C at *
  generalize bA (ml Y 12 31 N) = Z at *
  have y1 := append_sz A ⟨#[84]⟩
  have y2 := append_sz (A ++ ⟨#[84]⟩) B
  have y3 := append_sz (A ++ ⟨#[84]⟩ ++ B) ⟨#[58]⟩
  have a1 : ∀ W, (Op.stringOp .add A ⟨#[84]⟩).run Tryz.prog W = .ok (.string (A ++ ⟨#[84]⟩)) W := fun W => run_string_add_sum _ _ _ (by omega)
  have a2 : ∀ W, (Op.stringOp .add (A ++ ⟨#[84]⟩) B).run Tryz.prog W = .ok (.string (A ++ ⟨#[84]⟩ ++ B)) W := fun W => run_string_add_sum _ _ _ (by omega)
  have a3 : ∀ W, (Op.stringOp .add (A ++ ⟨#[84]⟩ ++ B) ⟨#[58]⟩).run Tryz.prog W = .ok (.string (A ++ ⟨#[84]⟩ ++ B ++ ⟨#[58]⟩)) W := fun W => run_string_add_sum _ _ _ (by omega)
  have a4 : ∀ W, (Op.stringOp .add (A ++ ⟨#[84]⟩ ++ B ++ ⟨#[58]⟩) C).run Tryz.prog W = .ok (.string (A ++ ⟨#[84]⟩ ++ B ++ ⟨#[58]⟩ ++ C)) W := fun W => run_string_add_sum _ _ _ (by omega)
  clear y1 y2 y3 z1 z2 z3 z4 z5
  have k1 : decide (n < 0) = true := decide_eq_true (by omega)
  have k2 : decide ((1440 : Int) ≤ (N : Int)) = false := decide_eq_false (by omega)
  have k15 : decide ((Y : Int) < 0) = false := decide_eq_false (by omega)
  have k16 : decide ((9999 : Int) < (Y : Int)) = false := decide_eq_false (by omega)
  have k17 : decide (9999 < Y) = false := decide_eq_false (by omega)
  go_enter Tryz.func121, Tryz.ntmps121
  go_wp2_with fail
  refine (cD _).mono ?_
  rintro r w0 ⟨rfl, rfl⟩
  clear cD
  go_wp2_with fail
  refine (c1 _).mono ?_
  rintro r w1 ⟨rfl, hb1⟩
  go_wp2_with fail
  refine (c2 _).mono ?_
  rintro r w2 ⟨rfl, hb2⟩
  have B2 := hb1.trans (hb2.mono hb1.size)
  clear hb1 hb2 c1 c2
  go_wp2_with fail
  refine (c3 _).mono ?_
  rintro r w3 ⟨rfl, hb3⟩
  have HB := Lib.hid (B2.trans (hb3.mono B2.size))
  clear B2 hb3 c3
  have HR2 := HR.out
  clear HR
  subst HR2
  go_wp2
  go_ret2
  exact ⟨rfl, HB.out⟩

set_option maxRecDepth 100000 in
set_option maxHeartbeats 1000000 in
theorem moved_dx (N : Nat) (n : Int) (w : World) (hn : n < 0) (hN : n + 1440 = (N : Int)) (hN2 : N < 1440) :
    Calls Tryz.prog 121 #[.int .i64 0, .int .i64 1, .int .i64 1, .int .i64 n] w fun e w' => e = .returned (.tuple #[.string ⟨#[]⟩, .bool false]) ∧ Below w.heap.size w w' := by
  have cD : ∀ W, Calls Tryz.prog 77 #[.int .i64 (-1), .int .i64 12] W fun e w' => e = .returned (.int .i64 0) ∧ W = w' := fun W => rdays_any (-1) 12 W (by omega)
  have k1 : decide (n < 0) = true := decide_eq_true (by omega)
  have k2 : decide ((1440 : Int) ≤ (N : Int)) = false := decide_eq_false (by omega)
  go_enter Tryz.func121, Tryz.ntmps121
  go_wp2_with fail
  refine (cD _).mono ?_
  rintro r w0 ⟨rfl, rfl⟩
  clear cD
  go_wp2
  go_ret2
  exact ⟨rfl, Below.refl _ _⟩

set_option maxRecDepth 100000 in
set_option maxHeartbeats 1000000 in
theorem moved_e (y m d D N : Nat) (n : Int) (w : World) (hy : y < 10000) (hm : m ≤ 12) (hD : (d : Int) + 1 = (D : Int)) (hd : D ≤ M.days y m) (hn : 1440 ≤ n) (hN : n - 1440 = (N : Int)) (hN2 : N < 1440) :
    Calls Tryz.prog 121 #[.int .i64 y, .int .i64 m, .int .i64 d, .int .i64 n] w fun e w' => e = .returned (.tuple #[.string (bA (ml y m D N)), .bool true]) ∧ Below w.heap.size w w' := by
  have cD : ∀ W, Calls Tryz.prog 77 #[.int .i64 y, .int .i64 m] W fun e w' => e = .returned (.int .i64 (M.days y m : Nat)) ∧ W = w' := fun W => rdays_nat y m W (by omega)
  have hT31 := M.days_le y m
  obtain ⟨T, hT⟩ : ∃ T, M.days y m = T := ⟨_, rfl⟩
  rw [hT] at cD hT31 hd
  clear hT
  obtain ⟨a, ha⟩ : ∃ a, N / 60 = a := ⟨_, rfl⟩
  obtain ⟨b, hb⟩ : ∃ b, N % 60 = b := ⟨_, rfl⟩
  have c1 : ∀ W, Calls Tryz.prog 164 #[.int .i64 y, .int .i64 m, .int .i64 D] W fun e w' => e = .returned (.string (bA (dl y m D))) ∧ Below W.heap.size W w' := fun W => rday_any y m D W (by omega) (by omega) (by omega)
  have c2 := fun W => rtwo_any a W (by omega)
  have c3 := fun W => rtwo_any b W (by omega)
  have f1 : (N : Int) / 60 = (a : Int) := by omega
  have f2 : (N : Int) % 60 = (b : Int) := by omega
  have hr : bA (dl y m D) ++ ⟨#[84]⟩ ++ bA (M.d2 a) ++ ⟨#[58]⟩ ++ bA (M.d2 b) = bA (ml y m D N) := by
    unfold ml; rw [ha, hb]
    apply bA_inj.2 rfl
  have HR := Lib.hid hr
  have z1 : (bA (dl y m D)).size = 10 := bA_size _
  have z2 : (bA (M.d2 a)).size = 2 := bA_size _
  have z3 : (bA (M.d2 b)).size = 2 := bA_size _
  have z4 : (⟨#[84]⟩ : ByteArray).size = 1 := rfl
  have z5 : (⟨#[58]⟩ : ByteArray).size = 1 := rfl
  clear ha hb hr
  generalize bA (dl y m D) = A at *
  generalize bA (M.d2 a) = B at *
  generalize bA (M.d2 b) = C at *
  generalize bA (ml y m D N) = Z at *
  have y1 := append_sz A ⟨#[84]⟩
  have y2 := append_sz (A ++ ⟨#[84]⟩) B
  have y3 := append_sz (A ++ ⟨#[84]⟩ ++ B) ⟨#[58]⟩
  have a1 : ∀ W, (Op.stringOp .add A ⟨#[84]⟩).run Tryz.prog W = .ok (.string (A ++ ⟨#[84]⟩)) W := fun W => run_string_add_sum _ _ _ (by omega)
  have a2 : ∀ W, (Op.stringOp .add (A ++ ⟨#[84]⟩) B).run Tryz.prog W = .ok (.string (A ++ ⟨#[84]⟩ ++ B)) W := fun W => run_string_add_sum _ _ _ (by omega)
  have a3 : ∀ W, (Op.stringOp .add (A ++ ⟨#[84]⟩ ++ B) ⟨#[58]⟩).run Tryz.prog W = .ok (.string (A ++ ⟨#[84]⟩ ++ B ++ ⟨#[58]⟩)) W := fun W => run_string_add_sum _ _ _ (by omega)
  have a4 : ∀ W, (Op.stringOp .add (A ++ ⟨#[84]⟩ ++ B ++ ⟨#[58]⟩) C).run Tryz.prog W = .ok (.string (A ++ ⟨#[84]⟩ ++ B ++ ⟨#[58]⟩ ++ C)) W := fun W => run_string_add_sum _ _ _ (by omega)
  clear y1 y2 y3 z1 z2 z3 z4 z5
  have k3 : decide (n < 0) = false := decide_eq_false (by omega)
  have k4 : decide ((1440 : Int) ≤ n) = true := decide_eq_true (by omega)
  have k18 : decide ((D : Int) < 1) = false := decide_eq_false (by omega)
  have k19 : decide ((T : Int) < (D : Int)) = false := decide_eq_false (by omega)
  have k20 : decide (T < D) = false := decide_eq_false (by omega)
  have k21 : decide ((y : Int) < 0) = false := decide_eq_false (by omega)
  have k22 : decide ((9999 : Int) < (y : Int)) = false := decide_eq_false (by omega)
  have k23 : decide (9999 < y) = false := decide_eq_false (by omega)
  go_enter Tryz.func121, Tryz.ntmps121
  go_wp2_with fail
  refine (cD _).mono ?_
  rintro r w0 ⟨rfl, rfl⟩
  clear cD
  go_wp2_with fail
  refine (c1 _).mono ?_
  rintro r w1 ⟨rfl, hb1⟩
  go_wp2_with fail
  refine (c2 _).mono ?_
  rintro r w2 ⟨rfl, hb2⟩
  have B2 := hb1.trans (hb2.mono hb1.size)
  clear hb1 hb2 c1 c2
  go_wp2_with fail
  refine (c3 _).mono ?_
  rintro r w3 ⟨rfl, hb3⟩
  have HB := Lib.hid (B2.trans (hb3.mono B2.size))
  clear B2 hb3 c3
  have HR2 := HR.out
  clear HR
  subst HR2
  go_wp2
  go_ret2
  exact ⟨rfl, HB.out⟩

set_option maxRecDepth 100000 in
set_option maxHeartbeats 1000000 in
theorem moved_f (y m P d D N : Nat) (n : Int) (w : World) (hy : y < 10000) (hm : m < 12) (hP : (m : Int) + 1 = (P : Int)) (hD : (d : Int) + 1 = (D : Int)) (hd : M.days y m = d) (hn : 1440 ≤ n) (hN : n - 1440 = (N : Int)) (hN2 : N < 1440) :
    Calls Tryz.prog 121 #[.int .i64 y, .int .i64 m, .int .i64 d, .int .i64 n] w fun e w' => e = .returned (.tuple #[.string (bA (ml y P 1 N)), .bool true]) ∧ Below w.heap.size w w' := by
  have cD : ∀ W, Calls Tryz.prog 77 #[.int .i64 y, .int .i64 m] W fun e w' => e = .returned (.int .i64 (M.days y m : Nat)) ∧ W = w' := fun W => rdays_nat y m W (by omega)
  have hT31 := M.days_le y m
  rw [hd] at cD hT31
  clear hd
  obtain ⟨a, ha⟩ : ∃ a, N / 60 = a := ⟨_, rfl⟩
  obtain ⟨b, hb⟩ : ∃ b, N % 60 = b := ⟨_, rfl⟩
  have c1 : ∀ W, Calls Tryz.prog 164 #[.int .i64 y, .int .i64 P, .int .i64 1] W fun e w' => e = .returned (.string (bA (dl y P 1))) ∧ Below W.heap.size W w' := fun W => rday_any y P 1 W (by omega) (by omega) (by omega)
  have c2 := fun W => rtwo_any a W (by omega)
  have c3 := fun W => rtwo_any b W (by omega)
  have f1 : (N : Int) / 60 = (a : Int) := by omega
  have f2 : (N : Int) % 60 = (b : Int) := by omega
  have hr : bA (dl y P 1) ++ ⟨#[84]⟩ ++ bA (M.d2 a) ++ ⟨#[58]⟩ ++ bA (M.d2 b) = bA (ml y P 1 N) := by
    unfold ml; rw [ha, hb]
    apply bA_inj.2 rfl
  have HR := Lib.hid hr
  have z1 : (bA (dl y P 1)).size = 10 := bA_size _
  have z2 : (bA (M.d2 a)).size = 2 := bA_size _
  have z3 : (bA (M.d2 b)).size = 2 := bA_size _
  have z4 : (⟨#[84]⟩ : ByteArray).size = 1 := rfl
  have z5 : (⟨#[58]⟩ : ByteArray).size = 1 := rfl
  clear ha hb hr
  generalize bA (dl y P 1) = A at *
  generalize bA (M.d2 a) = B at *
  generalize bA (M.d2 b) = C at *
  generalize bA (ml y P 1 N) = Z at *
  have y1 := append_sz A ⟨#[84]⟩
  have y2 := append_sz (A ++ ⟨#[84]⟩) B
  have y3 := append_sz (A ++ ⟨#[84]⟩ ++ B) ⟨#[58]⟩
  have a1 : ∀ W, (Op.stringOp .add A ⟨#[84]⟩).run Tryz.prog W = .ok (.string (A ++ ⟨#[84]⟩)) W := fun W => run_string_add_sum _ _ _ (by omega)
  have a2 : ∀ W, (Op.stringOp .add (A ++ ⟨#[84]⟩) B).run Tryz.prog W = .ok (.string (A ++ ⟨#[84]⟩ ++ B)) W := fun W => run_string_add_sum _ _ _ (by omega)
  have a3 : ∀ W, (Op.stringOp .add (A ++ ⟨#[84]⟩ ++ B) ⟨#[58]⟩).run Tryz.prog W = .ok (.string (A ++ ⟨#[84]⟩ ++ B ++ ⟨#[58]⟩)) W := fun W => run_string_add_sum _ _ _ (by omega)
  have a4 : ∀ W, (Op.stringOp .add (A ++ ⟨#[84]⟩ ++ B ++ ⟨#[58]⟩) C).run Tryz.prog W = .ok (.string (A ++ ⟨#[84]⟩ ++ B ++ ⟨#[58]⟩ ++ C)) W := fun W => run_string_add_sum _ _ _ (by omega)
  clear y1 y2 y3 z1 z2 z3 z4 z5
  have k3 : decide (n < 0) = false := decide_eq_false (by omega)
  have k4 : decide ((1440 : Int) ≤ n) = true := decide_eq_true (by omega)
  have k24 : decide ((D : Int) < 1) = false := decide_eq_false (by omega)
  have k25 : decide ((d : Int) < (D : Int)) = true := decide_eq_true (by omega)
  have k26 : decide (d < D) = true := decide_eq_true (by omega)
  have k27 : decide ((12 : Int) < (P : Int)) = false := decide_eq_false (by omega)
  have k28 : decide (12 < P) = false := decide_eq_false (by omega)
  have k29 : decide ((y : Int) < 0) = false := decide_eq_false (by omega)
  have k30 : decide ((9999 : Int) < (y : Int)) = false := decide_eq_false (by omega)
  have k31 : decide (9999 < y) = false := decide_eq_false (by omega)
  go_enter Tryz.func121, Tryz.ntmps121
  go_wp2_with fail
  refine (cD _).mono ?_
  rintro r w0 ⟨rfl, rfl⟩
  clear cD
  go_wp2_with fail
  refine (c1 _).mono ?_
  rintro r w1 ⟨rfl, hb1⟩
  go_wp2_with fail
  refine (c2 _).mono ?_
  rintro r w2 ⟨rfl, hb2⟩
  have B2 := hb1.trans (hb2.mono hb1.size)
  clear hb1 hb2 c1 c2
  go_wp2_with fail
  refine (c3 _).mono ?_
  rintro r w3 ⟨rfl, hb3⟩
  have HB := Lib.hid (B2.trans (hb3.mono B2.size))
  clear B2 hb3 c3
  have HR2 := HR.out
  clear HR
  subst HR2
  go_wp2
  go_ret2
  exact ⟨rfl, HB.out⟩

set_option maxRecDepth 100000 in
set_option maxHeartbeats 1000000 in
theorem moved_g (y Y N : Nat) (n : Int) (w : World) (hy : y < 9999) (hY : (y : Int) + 1 = (Y : Int)) (hn : 1440 ≤ n) (hN : n - 1440 = (N : Int)) (hN2 : N < 1440) :
    Calls Tryz.prog 121 #[.int .i64 y, .int .i64 12, .int .i64 31, .int .i64 n] w fun e w' => e = .returned (.tuple #[.string (bA (ml Y 1 1 N)), .bool true]) ∧ Below w.heap.size w w' := by
  have cD : ∀ W, Calls Tryz.prog 77 #[.int .i64 y, .int .i64 12] W fun e w' => e = .returned (.int .i64 31) ∧ W = w' := fun W => rdays_nat y 12 W (by omega)
  obtain ⟨a, ha⟩ : ∃ a, N / 60 = a := ⟨_, rfl⟩
  obtain ⟨b, hb⟩ : ∃ b, N % 60 = b := ⟨_, rfl⟩
  have c1 : ∀ W, Calls Tryz.prog 164 #[.int .i64 Y, .int .i64 1, .int .i64 1] W fun e w' => e = .returned (.string (bA (dl Y 1 1))) ∧ Below W.heap.size W w' := fun W => rday_any Y 1 1 W (by omega) (by omega) (by omega)
  have c2 := fun W => rtwo_any a W (by omega)
  have c3 := fun W => rtwo_any b W (by omega)
  have f1 : (N : Int) / 60 = (a : Int) := by omega
  have f2 : (N : Int) % 60 = (b : Int) := by omega
  have hr : bA (dl Y 1 1) ++ ⟨#[84]⟩ ++ bA (M.d2 a) ++ ⟨#[58]⟩ ++ bA (M.d2 b) = bA (ml Y 1 1 N) := by
    unfold ml; rw [ha, hb]
    apply bA_inj.2 rfl
  have HR := Lib.hid hr
  have z1 : (bA (dl Y 1 1)).size = 10 := bA_size _
  have z2 : (bA (M.d2 a)).size = 2 := bA_size _
  have z3 : (bA (M.d2 b)).size = 2 := bA_size _
  have z4 : (⟨#[84]⟩ : ByteArray).size = 1 := rfl
  have z5 : (⟨#[58]⟩ : ByteArray).size = 1 := rfl
  clear ha hb hr
  generalize bA (dl Y 1 1) = A at *
  generalize bA (M.d2 a) = B at *
  generalize bA (M.d2 b) = C at *
  generalize bA (ml Y 1 1 N) = Z at *
  have y1 := append_sz A ⟨#[84]⟩
  have y2 := append_sz (A ++ ⟨#[84]⟩) B
  have y3 := append_sz (A ++ ⟨#[84]⟩ ++ B) ⟨#[58]⟩
  have a1 : ∀ W, (Op.stringOp .add A ⟨#[84]⟩).run Tryz.prog W = .ok (.string (A ++ ⟨#[84]⟩)) W := fun W => run_string_add_sum _ _ _ (by omega)
  have a2 : ∀ W, (Op.stringOp .add (A ++ ⟨#[84]⟩) B).run Tryz.prog W = .ok (.string (A ++ ⟨#[84]⟩ ++ B)) W := fun W => run_string_add_sum _ _ _ (by omega)
  have a3 : ∀ W, (Op.stringOp .add (A ++ ⟨#[84]⟩ ++ B) ⟨#[58]⟩).run Tryz.prog W = .ok (.string (A ++ ⟨#[84]⟩ ++ B ++ ⟨#[58]⟩)) W := fun W => run_string_add_sum _ _ _ (by omega)
  have a4 : ∀ W, (Op.stringOp .add (A ++ ⟨#[84]⟩ ++ B ++ ⟨#[58]⟩) C).run Tryz.prog W = .ok (.string (A ++ ⟨#[84]⟩ ++ B ++ ⟨#[58]⟩ ++ C)) W := fun W => run_string_add_sum _ _ _ (by omega)
  clear y1 y2 y3 z1 z2 z3 z4 z5
  have k3 : decide (n < 0) = false := decide_eq_false (by omega)
  have k4 : decide ((1440 : Int) ≤ n) = true := decide_eq_true (by omega)
  have k32 : decide ((Y : Int) < 0) = false := decide_eq_false (by omega)
  have k33 : decide ((9999 : Int) < (Y : Int)) = false := decide_eq_false (by omega)
  have k34 : decide (9999 < Y) = false := decide_eq_false (by omega)
  go_enter Tryz.func121, Tryz.ntmps121
  go_wp2_with fail
  refine (cD _).mono ?_
  rintro r w0 ⟨rfl, rfl⟩
  clear cD
  go_wp2_with fail
  refine (c1 _).mono ?_
  rintro r w1 ⟨rfl, hb1⟩
  go_wp2_with fail
  refine (c2 _).mono ?_
  rintro r w2 ⟨rfl, hb2⟩
  have B2 := hb1.trans (hb2.mono hb1.size)
  clear hb1 hb2 c1 c2
  go_wp2_with fail
  refine (c3 _).mono ?_
  rintro r w3 ⟨rfl, hb3⟩
  have HB := Lib.hid (B2.trans (hb3.mono B2.size))
  clear B2 hb3 c3
  have HR2 := HR.out
  clear HR
  subst HR2
  go_wp2
  go_ret2
  exact ⟨rfl, HB.out⟩

set_option maxRecDepth 100000 in
set_option maxHeartbeats 1000000 in
theorem moved_gx (N : Nat) (n : Int) (w : World) (hn : 1440 ≤ n) (hN : n - 1440 = (N : Int)) (hN2 : N < 1440) :
    Calls Tryz.prog 121 #[.int .i64 9999, .int .i64 12, .int .i64 31, .int .i64 n] w fun e w' => e = .returned (.tuple #[.string ⟨#[]⟩, .bool false]) ∧ Below w.heap.size w w' := by
  have cD : ∀ W, Calls Tryz.prog 77 #[.int .i64 9999, .int .i64 12] W fun e w' => e = .returned (.int .i64 31) ∧ W = w' := fun W => rdays_nat 9999 12 W (by omega)
  have k3 : decide (n < 0) = false := decide_eq_false (by omega)
  have k4 : decide ((1440 : Int) ≤ n) = true := decide_eq_true (by omega)
  go_enter Tryz.func121, Tryz.ntmps121
  go_wp2_with fail
  refine (cD _).mono ?_
  rintro r w0 ⟨rfl, rfl⟩
  clear cD
  go_wp2
  go_ret2
  exact ⟨rfl, Below.refl _ _⟩
end Go.Proofs.YtipgipgehnhgkaaGreatDoor.S10
