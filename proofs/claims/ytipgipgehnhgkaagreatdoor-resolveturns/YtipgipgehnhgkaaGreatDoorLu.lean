/- The law ResolveTurns: its walk. -/
import Derived.Test.YtipgipgehnhgkaaGreatDoorWg
import Derived.Test.YtipgipgehnhgkaaGreatDoorWe
import Derived.Test.YtipgipgehnhgkaaGreatDoorBc
import Derived.Deep.RegionHeld3
set_option linter.unusedVariables false
namespace Go.Proofs.YtipgipgehnhgkaaGreatDoor
open Go.RowKit
open Go

set_option maxRecDepth 100000 in
theorem one_any (s a x b y : ByteArray) (w : World) (hE : Env w) (h : Par s a x b y) :
    Calls Tryz.prog 13 #[.string s, .string a, .string x, .string b, .string y] w fun e w' => e = .returned (.bool true) ∧ Below w.heap.size w w' := by
  have eq := eql2
  have gg := eqGv
  obtain ⟨c1, c2⟩ := h
  unfold Tel at c1 c2
  go_enter Tryz.func13, Tryz.ntmps13
  go_wp2_with fail
  refine (c1 _ hE).mono ?_
  rintro r w1 ⟨rfl, B1⟩
  have E1 := env_next _ _ hE B1
  go_wp2_with fail
  refine (c2 _ E1).mono ?_
  rintro r w2 ⟨rfl, hb⟩
  have B2 := B1.trans (hb.mono B1.size)
  go_wp2
  go_ret
  exact ⟨rfl, B2⟩

theorem cut1 (c : UInt8) (r : List UInt8) : (bA (c :: r)).extract 0 1 = bA [c] := by
  rw [← bA_of ((bA (c :: r)).extract 0 1)]
  congr 1
  simp only [ByteArray.data_extract, Array.toList_extract, bA_toList, List.extract_eq_take_drop]
  rfl
theorem fld_tag (T X : ByteArray) (w : World) : (Instr.field 27 (vV T X) 0).run Tryz.prog w = .ok (.string T) w := by
  simp [go_sem, Instr.field, asAgg]
theorem fld_text (T X : ByteArray) (w : World) : (Instr.field 27 (vV T X) 1).run Tryz.prog w = .ok (.string X) w := by
  simp [go_sem, Instr.field, asAgg]
set_option maxRecDepth 100000 in
set_option maxHeartbeats 4000000 in
theorem turns_core (n k : Nat) (w : World) (hE : Env w) (hn : n ≤ 4294967295) (hk : k ≤ 255) :
    Calls Tryz.prog 5 #[.int .u32 (n : Int), .int .u8 (k : Int)] w fun e w' => e = .returned (.bool true) ∧ Below w.heap.size w w' := by
  have hn' : n ≤ 1099511627776 := by omega
  go_enter Tryz.func5, Tryz.ntmps5
  go_wp2_with fail
  refine (known_any _ hE).mono ?_
  rintro r w1 ⟨rfl, B1⟩
  have E1 := env_next _ _ hE B1
  clear hE
  go_wp2_with fail
  refine (text_any n _ hn').mono ?_
  rintro r w2 ⟨rfl, hb⟩
  have B2 := B1.trans (hb.mono B1.size)
  have E2 := env_next _ _ E1 hb
  clear B1 E1 hb
  have hl := dg_short n hn'
  have q8 : k % 8 = 0 ∨ k % 8 = 1 ∨ k % 8 = 2 ∨ k % 8 = 3 ∨ k % 8 = 4 ∨ k % 8 = 5 ∨ k % 8 = 6 ∨ k % 8 = 7 := by omega
  have add : ∀ (x : ByteArray), x.size ≤ 20 → ∀ W : World, (Op.stringOp .add x (bA (M.dg n))).run Tryz.prog W = .ok (.string (x ++ bA (M.dg n))) W := fun x hx W => run_string_add_sum _ _ _ (by rw [bA_size]; omega)
  have cat : ∀ l : List UInt8, bA (l ++ M.dg n) = bA l ++ bA (M.dg n) := fun l => (bA_append l (M.dg n)).symm
  rcases q8 with hq | hq | hq | hq | hq | hq | hq | hq
  · have f1 : (k : Int) % 8 = 0 := by omega
    have f3 : Int.tmod (k : Int) 8 = 0 := by rw [show (8 : Int) = ((8 : Nat) : Int) from rfl, ← Int.ofNat_tmod, hq]; rfl
    clear hq
    clear add cat
    go_wp2_with fail
    refine (one_any _ _ _ _ _ _ E2 p_0o7).mono ?_
    rintro r w3 ⟨rfl, hb⟩
    have B3 := B2.trans (hb.mono B2.size)
    have E3 := env_next _ _ E2 hb
    clear B2 E2 hb
    go_wp2_with fail
    refine (one_any _ _ _ _ _ _ E3 p_010).mono ?_
    rintro r w4 ⟨rfl, hb⟩
    have B4 := B3.trans (hb.mono B3.size)
    have E4 := env_next _ _ E3 hb
    clear B3 E3 hb
    go_wp2_with fail
    refine (one_any _ _ _ _ _ _ E4 p_08).mono ?_
    rintro r w5 ⟨rfl, hb⟩
    have B5 := B4.trans (hb.mono B4.size)
    have E5 := env_next _ _ E4 hb
    clear B4 E4 hb
    go_wp2
    go_ret
    exact ⟨rfl, B5⟩
  · have f1 : (k : Int) % 8 = 1 := by omega
    have f3 : Int.tmod (k : Int) 8 = 1 := by rw [show (8 : Int) = ((8 : Nat) : Int) from rfl, ← Int.ofNat_tmod, hq]; rfl
    clear hq
    obtain ⟨c0, r0, e0, hc0, _, _⟩ := M.dg_cons n
    have P := p_six c0 hc0
    rw [e0]
    rw [e0, List.length_cons] at hl
    have hsz : (bA (c0 :: r0)).size = r0.length + 1 := by rw [bA_size, List.length_cons]
    have sl : ∀ W : World, (Instr.slice 9 (.string (bA (c0 :: r0))) none (some (.int .i64 1)) none).run Tryz.prog W = .ok (.string (bA [c0])) W := fun W => by
      rw [run_slice_string_h W 9 _ (by kernel_rfl) .i64 1 (by omega) (by omega), show Int.toNat 1 = 1 from rfl, cut1]
    have ix : ∀ W : World, (Instr.index 9 (.string (bA (c0 :: r0))) (.int .i64 0)).run Tryz.prog W = .ok (.int .u8 (c0.toNat : Int)) W := fun W => by
      rw [run_index_string _ _ _ _ _ (by kernel_rfl), dif_pos ⟨by omega, by omega⟩]
      rfl
    have a1 : ∀ W : World, (Op.stringOp .add ⟨#[49, 58, 48]⟩ (bA [c0])).run Tryz.prog W = .ok (.string (bA [49, 58, 48, c0])) W := fun W => by
      rw [run_string_add_sum _ _ _ (by rw [bA_size, show (⟨#[49, 58, 48]⟩ : ByteArray).size = 3 from rfl, List.length_singleton]; omega)]
      exact congrArg (fun x => Result.ok (Value.string x) W) (bA_append [49, 58, 48] [c0])
    have g1 : (1 : Int) ≤ ((bA (c0 :: r0)).size : Int) := by omega
    have g2 : (0 : Int) < ((bA (c0 :: r0)).size : Int) := by omega
    have hx := M.dv_lt10 hc0
    have hd : M.dv c0 = c0.toNat - 48 := M.dv_dec (by omega) (by omega)
    have s1 : IntKind.u8.wrap ((c0.toNat : Int) - 48) = (M.dv c0 : Int) := by rw [hd, IntKind.wrap_u8]; omega
    have s2 : IntKind.i64.wrap (M.dv c0 : Int) = (M.dv c0 : Int) := IntWalk.i64_in _ (by omega)
    have s3 : IntKind.i64.wrap (60 + (M.dv c0 : Int)) = 60 + (M.dv c0 : Int) := IntWalk.i64_in _ (by omega)
    have cT : ∀ W, Calls Tryz.prog 12 #[.int .i64 (60 + (M.dv c0 : Int))] W fun e w' => e = .returned (.string (bA (M.dg (60 + M.dv c0)))) ∧ Below W.heap.size W w' := fun W => by
      have := text_any (60 + M.dv c0) W (by omega)
      rwa [show ((60 + M.dv c0 : Nat) : Int) = 60 + (M.dv c0 : Int) by omega] at this
    have c1 := fun W (hW : Env W) => one_any _ _ _ _ _ W hW P
    clear e0 add cat hsz hl hd hx P
    generalize bA (c0 :: r0) = t at *
    generalize bA [c0] = t1 at *
    generalize bA [49, 58, 48, c0] = t2 at *
    generalize M.dv c0 = d at *
    generalize M.dg (60 + d) = t3 at *
    generalize c0.toNat = x at *
    have hS1 : ∀ wx, Below w2.heap.size w2 wx → Below w2.heap.size w2 wx := fun wx h => h
    have HS1 := Lib.hid hS1
    have HE : Hid (∀ wx, Below w2.heap.size w2 wx → Env wx) := fun wx h => env_next _ _ E2 h
    have HB := Lib.hid B2
    clear hS1 B2 E2
    go_wp2_with fail
    go_region_held3 (fun wx => Below w2.heap.size w2 wx)
      (first | exact hS | exact (Below.refl _ _).drew)
      (first
        | (go_at_call 12; (with_reducible refine (liftC HS1.out HS1.out (cT _) ?_).mono ?_); (exact ‹Below _ _ _›); rintro r wq ⟨rfl, hS⟩)
        | (go_at_call 13; (with_reducible refine (liftC HS1.out HS1.out (c1 _ (HE.out _ ‹Below _ _ _›)) ?_).mono ?_); (exact ‹Below _ _ _›); rintro r wq ⟨rfl, hS⟩))
    have B3 := HB.out.trans (hS.mono HB.out.size)
    clear hS HB HE HS1
    go_wp2
    go_ret
    exact ⟨rfl, B3⟩
  · have f1 : (k : Int) % 8 = 2 := by omega
    have f3 : Int.tmod (k : Int) 8 = 2 := by rw [show (8 : Int) = ((8 : Nat) : Int) from rfl, ← Int.ofNat_tmod, hq]; rfl
    clear hq
    have a1 := add ⟨#[49, 95]⟩ (by decide)
    have a2 := add ⟨#[49]⟩ (by decide)
    have P : Par (⟨#[49, 95]⟩ ++ bA (M.dg n)) tInt (⟨#[49]⟩ ++ bA (M.dg n)) tStr (⟨#[49, 95]⟩ ++ bA (M.dg n)) := by
      have P := p_gap n hn'
      have e1 : bA (49 :: 95 :: M.dg n) = ⟨#[49, 95]⟩ ++ bA (M.dg n) := cat [49, 95]
      have e2 : bA (49 :: M.dg n) = ⟨#[49]⟩ ++ bA (M.dg n) := cat [49]
      rwa [e1, e2] at P
    clear add cat
    generalize bA (M.dg n) = t at *
    go_wp2_with fail
    refine (one_any _ _ _ _ _ _ E2 P).mono ?_
    rintro r w3 ⟨rfl, hb⟩
    have B3 := B2.trans (hb.mono B2.size)
    have E3 := env_next _ _ E2 hb
    clear B2 E2 hb
    go_wp2
    go_ret
    exact ⟨rfl, B3⟩
  · have f1 : (k : Int) % 8 = 3 := by omega
    have f3 : Int.tmod (k : Int) 8 = 3 := by rw [show (8 : Int) = ((8 : Nat) : Int) from rfl, ← Int.ofNat_tmod, hq]; rfl
    clear hq
    have a1 := add ⟨#[49, 101]⟩ (by decide)
    have a2 := add ⟨#[49, 46, 48, 101]⟩ (by decide)
    have a3 := add ⟨#[49, 46, 101, 43]⟩ (by decide)
    have e1 : bA (49 :: 101 :: M.dg n) = ⟨#[49, 101]⟩ ++ bA (M.dg n) := cat [49, 101]
    have e2 : bA (49 :: 46 :: 48 :: 101 :: M.dg n) = ⟨#[49, 46, 48, 101]⟩ ++ bA (M.dg n) := cat [49, 46, 48, 101]
    have e3 : bA (49 :: 46 :: 101 :: 43 :: M.dg n) = ⟨#[49, 46, 101, 43]⟩ ++ bA (M.dg n) := cat [49, 46, 101, 43]
    have P := p_e n hn'
    have Q := p_pe n hn'
    rw [e1, e3] at P
    rw [e2, e3] at Q
    clear add cat e1 e2 e3
    generalize bA (M.dg n) = t at *
    go_wp2_with fail
    refine (one_any _ _ _ _ _ _ E2 P).mono ?_
    rintro r w3 ⟨rfl, hb⟩
    have B3 := B2.trans (hb.mono B2.size)
    have E3 := env_next _ _ E2 hb
    clear B2 E2 hb
    go_wp2_with fail
    refine (one_any _ _ _ _ _ _ E3 Q).mono ?_
    rintro r w4 ⟨rfl, hb⟩
    have B4 := B3.trans (hb.mono B3.size)
    have E4 := env_next _ _ E3 hb
    clear B3 E3 hb
    go_wp2
    go_ret
    exact ⟨rfl, B4⟩
  · have f1 : (k : Int) % 8 = 4 := by omega
    have f3 : Int.tmod (k : Int) 8 = 4 := by rw [show (8 : Int) = ((8 : Nat) : Int) from rfl, ← Int.ofNat_tmod, hq]; rfl
    clear hq
    clear add cat
    go_wp2_with fail
    refine (one_any _ _ _ _ _ _ E2 p_0x1).mono ?_
    rintro r w3 ⟨rfl, hb⟩
    have B3 := B2.trans (hb.mono B2.size)
    have E3 := env_next _ _ E2 hb
    clear B2 E2 hb
    go_wp2_with fail
    refine (one_any _ _ _ _ _ _ E3 p_0b1).mono ?_
    rintro r w4 ⟨rfl, hb⟩
    have B4 := B3.trans (hb.mono B3.size)
    have E4 := env_next _ _ E3 hb
    clear B3 E3 hb
    go_wp2
    go_ret
    exact ⟨rfl, B4⟩
  · have f1 : (k : Int) % 8 = 5 := by omega
    have f3 : Int.tmod (k : Int) 8 = 5 := by rw [show (8 : Int) = ((8 : Nat) : Int) from rfl, ← Int.ofNat_tmod, hq]; rfl
    clear hq
    clear add cat
    go_wp2_with fail
    refine (one_any _ _ _ _ _ _ E2 p_day).mono ?_
    rintro r w3 ⟨rfl, hb⟩
    have B3 := B2.trans (hb.mono B2.size)
    have E3 := env_next _ _ E2 hb
    clear B2 E2 hb
    go_wp2
    go_ret
    exact ⟨rfl, B3⟩
  · have f1 : (k : Int) % 8 = 6 := by omega
    have f3 : Int.tmod (k : Int) 8 = 6 := by rw [show (8 : Int) = ((8 : Nat) : Int) from rfl, ← Int.ofNat_tmod, hq]; rfl
    clear hq
    clear add cat
    go_wp2_with fail
    refine (one_any _ _ _ _ _ _ E2 p_off).mono ?_
    rintro r w3 ⟨rfl, hb⟩
    have B3 := B2.trans (hb.mono B2.size)
    have E3 := env_next _ _ E2 hb
    clear B2 E2 hb
    go_wp2_with fail
    refine (one_any _ _ _ _ _ _ E3 p_true).mono ?_
    rintro r w4 ⟨rfl, hb⟩
    have B4 := B3.trans (hb.mono B3.size)
    have E4 := env_next _ _ E3 hb
    clear B3 E3 hb
    go_wp2
    go_ret
    exact ⟨rfl, B4⟩
  · have f1 : (k : Int) % 8 = 7 := by omega
    have f3 : Int.tmod (k : Int) 8 = 7 := by rw [show (8 : Int) = ((8 : Nat) : Int) from rfl, ← Int.ofNat_tmod, hq]; rfl
    clear hq
    have a1 := add ⟨#[49]⟩ (by decide)
    have a2 := add ⟨#[48, 46]⟩ (by decide)
    have a3 : ∀ W : World, (Op.stringOp .add (⟨#[48, 46]⟩ ++ bA (M.dg n)) ⟨#[49]⟩).run Tryz.prog W = .ok (.string (⟨#[48, 46]⟩ ++ bA (M.dg n) ++ ⟨#[49]⟩)) W := fun W => run_string_add_sum _ _ _ (by
      rw [append_sz, bA_size]; have h1 : (⟨#[48, 46]⟩ : ByteArray).size = 2 := rfl; have h2 : (⟨#[49]⟩ : ByteArray).size = 1 := rfl; omega)
    have e1 : bA (49 :: M.dg n) = ⟨#[49]⟩ ++ bA (M.dg n) := cat [49]
    have e2 : bA (48 :: 46 :: (M.dg n ++ [49])) = ⟨#[48, 46]⟩ ++ bA (M.dg n) ++ ⟨#[49]⟩ := by
      rw [show (⟨#[48, 46]⟩ : ByteArray) = bA [48, 46] from rfl, show (⟨#[49]⟩ : ByteArray) = bA [49] from rfl, bA_append, bA_append]; rfl
    have P := p_one n hn'
    obtain ⟨F, Q⟩ := p_pt n hn'
    rw [e1] at P
    rw [e2] at Q
    clear add cat e1 e2
    generalize bA (M.dg n) = t at *
    go_wp2_with fail
    refine (one_any _ _ _ _ _ _ E2 P).mono ?_
    rintro r w3 ⟨rfl, hb⟩
    have B3 := B2.trans (hb.mono B2.size)
    have E3 := env_next _ _ E2 hb
    clear B2 E2 hb
    have fd0 := fld_tag
    have fd1 := fld_text
    obtain ⟨c1, c2⟩ := id Q
    unfold Tel at c1 c2
    go_wp2_with fail
    refine (c2 _ E3).mono ?_
    rintro r w4 ⟨rfl, hb⟩
    have B4 := B3.trans (hb.mono B3.size)
    have E4 := env_next _ _ E3 hb
    clear B3 E3 hb
    go_wp2_with fail
    refine (c2 _ E4).mono ?_
    rintro r w5 ⟨rfl, hb⟩
    have B5 := B4.trans (hb.mono B4.size)
    have E5 := env_next _ _ E4 hb
    clear B4 E4 hb
    go_wp2_with fail
    refine (c1 _ E5).mono ?_
    rintro r w6 ⟨rfl, hb⟩
    have B6 := B5.trans (hb.mono B5.size)
    have E6 := env_next _ _ E5 hb
    clear B5 E5 hb
    go_wp2_with fail
    refine (one_any _ _ _ _ _ _ E6 Q).mono ?_
    rintro r w7 ⟨rfl, hb⟩
    have B7 := B6.trans (hb.mono B6.size)
    have E7 := env_next _ _ E6 hb
    clear B6 E6 hb
    go_wp2
    go_ret
    exact ⟨rfl, B7⟩
end Go.Proofs.YtipgipgehnhgkaaGreatDoor
