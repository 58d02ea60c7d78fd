/- Walks: targumlaw13's known. -/
import Derived.Test.YtipgipgehnhgkaaGreatDoorWb
set_option linter.unusedVariables false
namespace Go.Proofs.YtipgipgehnhgkaaGreatDoor
open Go.RowKit
open Go

theorem alike_tel (s T X T' X' : ByteArray) (h1 : Tel 11 s T X) (h2 : Tel 12 s T' X') : ∀ W, Env W → Calls Tryz.prog 10 #[.string s] W fun e w' => e = .returned (.bool (decide (T = T') && decide (X = X'))) ∧ Below W.heap.size W w' :=
  fun W hW => alike_any s T X T' X' env_next W hW h1 h2
theorem k_yes : Tel 11 ⟨#[121, 101, 115]⟩ tBool xTrue := tel_bool 11 _ true (by decide) (by decide)
theorem tx_eq {z : Int} {X : ByteArray} (h : M.txt z = X.data.toList) : tx z = X := by unfold tx; rw [h]; exact bA_of X
theorem k_0o17 : Tel 12 ⟨#[48, 111, 49, 55]⟩ tInt ⟨#[49, 53]⟩ := by
  have := tel_intN 12 (by decide) ⟨#[48, 111, 49, 55]⟩ 15 (by decide) (by decide) (by decide) (by decide)
  rwa [tx_eq (X := ⟨#[49, 53]⟩) (by rw [show (15 : Int) = ((15 : Nat) : Int) from rfl, M.txt_nat, M.dg_big (by decide), M.dg_small (by decide)]; rfl)] at this
theorem k_yes12 : Tel 12 ⟨#[121, 101, 115]⟩ tStr ⟨#[121, 101, 115]⟩ := tel_strN 12 (by decide) _ (by decide) (by decide) (by decide) (by decide) (by decide) (by decide) (by decide)
theorem k_day : Tel 11 ⟨#[50, 48, 48, 49, 45, 48, 49, 45, 48, 49]⟩ tTime ⟨#[50, 48, 48, 49, 45, 48, 49, 45, 48, 49]⟩ :=
  tel_time ⟨#[50, 48, 48, 49, 45, 48, 49, 45, 48, 49]⟩ [50, 48, 48, 49, 45, 48, 49, 45, 48, 49] (by decide) (by decide) (by decide) (by decide) (by decide) (by decide)
theorem k_nil : Tel 11 ⟨#[]⟩ tNull ⟨#[]⟩ := tel_null 11 _ (by decide)
theorem dg8 : M.txt 8 = [56] := by rw [show (8 : Int) = ((8 : Nat) : Int) from rfl, M.txt_nat, M.dg_small (by decide)]; rfl
theorem dg10 : M.txt 10 = [49, 48] := by rw [show (10 : Int) = ((10 : Nat) : Int) from rfl, M.txt_nat, M.dg_big (by decide), M.dg_small (by decide)]; rfl
theorem k_010 : Tel 11 ⟨#[48, 49, 48]⟩ tInt ⟨#[56]⟩ := by
  have := tel_intO ⟨#[48, 49, 48]⟩ 8 (by decide) (by decide) (by decide) (by decide) (by decide)
  rwa [tx_eq (X := ⟨#[56]⟩) dg8] at this
theorem k_010n : Tel 12 ⟨#[48, 49, 48]⟩ tInt ⟨#[49, 48]⟩ := by
  have := tel_intN 12 (by decide) ⟨#[48, 49, 48]⟩ 10 (by decide) (by decide) (by decide) (by decide)
  rwa [tx_eq (X := ⟨#[49, 48]⟩) dg10] at this
theorem k_mrg : Tel 11 ⟨#[60, 60]⟩ tStr ⟨#[60, 60]⟩ := tel_strO _ (by decide) (by decide) (by decide) (by decide) (by decide) (by decide)
theorem k_mrgn : Tel 12 ⟨#[60, 60]⟩ tStr ⟨#[60, 60]⟩ := tel_strN 12 (by decide) _ (by decide) (by decide) (by decide) (by decide) (by decide) (by decide) (by decide)
set_option maxRecDepth 100000 in
set_option maxHeartbeats 1000000 in
theorem known_any (w : World) (hE : Env w) : Calls Tryz.prog 6 #[] w fun e w' => e = .returned (.bool true) ∧ Below w.heap.size w w' := by
  have eq := eql2
  have gg := eqGv
  have c1 := k_yes
  have c2 := k_0o17
  have c3 := k_yes12
  have c4 := k_day
  have c5 := k_nil
  have c6 := alike_tel _ _ _ _ _ k_010 k_010n
  have c7 := alike_tel _ _ _ _ _ k_mrg k_mrgn
  unfold Tel at c1 c2 c3 c4 c5
  go_enter Tryz.func6, Tryz.ntmps6
  go_wp2_with fail
  refine (c1 _ hE).mono ?_
  rintro r w1 ⟨rfl, hb⟩
  have B := hb
  have E0 := env_next _ _ hE hb
  clear hb c1
  go_wp2_with fail
  refine (c2 _ E0).mono ?_
  rintro r w2 ⟨rfl, hb⟩
  replace B := B.trans (hb.mono B.size)
  replace E0 := env_next _ _ E0 hb
  clear hb c2
  go_wp2_with fail
  refine (c3 _ E0).mono ?_
  rintro r w3 ⟨rfl, hb⟩
  replace B := B.trans (hb.mono B.size)
  replace E0 := env_next _ _ E0 hb
  clear hb c3
  go_wp2_with fail
  refine (c4 _ E0).mono ?_
  rintro r w4 ⟨rfl, hb⟩
  replace B := B.trans (hb.mono B.size)
  replace E0 := env_next _ _ E0 hb
  clear hb c4
  go_wp2_with fail
  refine (c5 _ E0).mono ?_
  rintro r w5 ⟨rfl, hb⟩
  replace B := B.trans (hb.mono B.size)
  replace E0 := env_next _ _ E0 hb
  clear hb c5
  go_wp2_with fail
  refine (c6 _ E0).mono ?_
  rintro r w6 ⟨rfl, hb⟩
  replace B := B.trans (hb.mono B.size)
  replace E0 := env_next _ _ E0 hb
  clear hb c6
  go_wp2_with fail
  refine (c7 _ E0).mono ?_
  rintro r w7 ⟨rfl, hb⟩
  replace B := B.trans (hb.mono B.size)
  clear hb c7
  go_wp2
  go_ret
  exact ⟨rfl, B⟩
end Go.Proofs.YtipgipgehnhgkaaGreatDoor
