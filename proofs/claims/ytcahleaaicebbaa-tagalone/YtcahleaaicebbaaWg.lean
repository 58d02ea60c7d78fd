/- Walks: known, targumhelp's Within. -/
import Derived.Test.YtcahleaaicebbaaWf
import Derived.Test.YtcahleaaicebbaaRb
set_option linter.unusedVariables false
namespace Go.Proofs.Ytcahleaaicebbaa
open Go.RowKit

set_option maxRecDepth 100000 in
theorem within_any (n : Int) (hi : Nat) (w : World) (h0 : -9223372036854775808 ≤ n) (h1 : n ≤ 9223372036854775807) (hh : hi ≤ 1000) :
    Calls Try.prog 8 #[.int .i64 n, .int .i64 0, .int .i64 hi] w fun e w' => (∃ k : Nat, k ≤ hi ∧ e = .returned (.int .i64 k)) ∧ w' = w := by
  obtain ⟨q, hq⟩ : ∃ q, Int.tmod n ((hi : Int) + 1) = q := ⟨_, rfl⟩
  have hq1 : -(hi : Int) - 1 < q ∧ q < (hi : Int) + 1 := by
    rw [← hq]
    have h2 := Int.tmod_lt_of_pos n (show (0 : Int) < (hi : Int) + 1 by omega)
    have h3 := Int.lt_tmod_of_pos n (show (0 : Int) < (hi : Int) + 1 by omega)
    omega
  obtain ⟨q1, q2⟩ := hq1
  go_enter Try.func8, Try.ntmps8
  go_wp2
  · go_ret
    obtain ⟨k, hk⟩ := Int.eq_ofNat_of_zero_le (show 0 ≤ q + (hi : Int) + 1 by omega)
    exact ⟨⟨k, by omega, ret_int hk⟩, rfl⟩
  · go_ret
    obtain ⟨k, hk⟩ := Int.eq_ofNat_of_zero_le (show 0 ≤ q by omega)
    exact ⟨⟨k, by omega, ret_int hk⟩, rfl⟩

theorem kk1 : M.rdI [33, 33, 105, 110, 116, 32, 49] 0 = (⟨false, [33, 33], [105, 110, 116]⟩, 5, true) := by decide +kernel
theorem kk2 : M.rdI [120, 33, 97, 33, 98, 44] 1 = (⟨false, [33, 97, 33], [98]⟩, 5, true) := by decide +kernel
theorem kk3 : M.rdI [33, 33] 0 = (⟨false, [], []⟩, 0, false) := by decide +kernel
theorem kk4 : M.ex ⟨false, [33], [120]⟩ [] = ([33, 120], true) := by decide +kernel
theorem kk5 : M.ex ⟨false, [33, 97, 33], [120]⟩ [] = ([], false) := by decide +kernel
theorem kk6 : M.wr [33, 120] = [33, 60, 33, 120, 62] := by decide +kernel
theorem kk7 : M.wr [] = [] := by decide +kernel
theorem eqT (v : Bool) (H S : ByteArray) (W : World) : (binOp .eql 23 (tV v H S) (tV v H S)).run Try.prog W = .ok (.bool true) W := by
  rw [eql3, decide_eq_true ⟨rfl, rfl, rfl⟩]
theorem neT (v : Bool) (H S : ByteArray) (W : World) : (binOp .neq 23 (tV v H S) (tV v H S)).run Try.prog W = .ok (.bool false) W := by
  rw [neq3, decide_eq_true ⟨rfl, rfl, rfl⟩]; rfl
set_option maxRecDepth 100000 in
set_option maxHeartbeats 1000000 in
theorem known_any (w : World) : Calls Try.prog 7 #[] w fun e w' => e = .returned (.bool true) ∧ Below w.heap.size w w' := by
  have c1 : ∀ W, Calls Try.prog 9 #[.string ⟨#[33, 33, 105, 110, 116, 32, 49]⟩, .int .i64 0] W fun e w' => e = .returned (.tuple #[tV false ⟨#[33, 33]⟩ ⟨#[105, 110, 116]⟩, .int .i64 5, .bool true]) ∧ Below W.heap.size W w' := fun W => by
    have c := rd_any ⟨#[33, 33, 105, 110, 116, 32, 49]⟩ 0 W (by decide)
    rw [show (⟨#[33, 33, 105, 110, 116, 32, 49]⟩ : ByteArray).data.toList = [33, 33, 105, 110, 116, 32, 49] from rfl, kk1] at c
    exact c
  have c2 : ∀ W, Calls Try.prog 9 #[.string ⟨#[120, 33, 97, 33, 98, 44]⟩, .int .i64 1] W fun e w' => e = .returned (.tuple #[tV false ⟨#[33, 97, 33]⟩ ⟨#[98]⟩, .int .i64 5, .bool true]) ∧ Below W.heap.size W w' := fun W => by
    have c := rd_any ⟨#[120, 33, 97, 33, 98, 44]⟩ 1 W (by decide)
    rw [show (⟨#[120, 33, 97, 33, 98, 44]⟩ : ByteArray).data.toList = [120, 33, 97, 33, 98, 44] from rfl, kk2] at c
    exact c
  have c3 : ∀ W, Calls Try.prog 9 #[.string ⟨#[33, 33]⟩, .int .i64 0] W fun e w' => e = .returned (.tuple #[tZ, .int .i64 0, .bool false]) ∧ Below W.heap.size W w' := fun W => by
    have c := rd_any ⟨#[33, 33]⟩ 0 W (by decide)
    rw [show (⟨#[33, 33]⟩ : ByteArray).data.toList = [33, 33] from rfl, kk3] at c
    exact c
  have c4 : ∀ W, Calls Try.prog 11 #[tV false ⟨#[33]⟩ ⟨#[120]⟩, .slice none 0 0] W fun e w' => e = .returned (.tuple #[.string ⟨#[33, 120]⟩, .bool true]) ∧ Below W.heap.size W w' := fun W => by
    have c := exp_any ⟨false, [33], [120]⟩ none 0 [] W (by simp) (by intro h hh; cases hh) (InH.nil _ _) (by simp) (by simp)
    rw [kk4] at c
    exact c
  have c5 : ∀ W, Calls Try.prog 11 #[tV false ⟨#[33, 97, 33]⟩ ⟨#[120]⟩, .slice none 0 0] W fun e w' => e = .returned (.tuple #[.string ⟨#[]⟩, .bool false]) ∧ Below W.heap.size W w' := fun W => by
    have c := exp_any ⟨false, [33, 97, 33], [120]⟩ none 0 [] W (by simp) (by intro h hh; cases hh) (InH.nil _ _) (by simp) (by simp)
    rw [kk5] at c
    exact c
  have c6 : ∀ W, Calls Try.prog 15 #[.string ⟨#[33, 120]⟩] W fun e w' => e = .returned (.string ⟨#[33, 60, 33, 120, 62]⟩) ∧ W = w' := fun W => by
    have c := wr_any ⟨#[33, 120]⟩ W (by decide)
    rw [show (⟨#[33, 120]⟩ : ByteArray).data.toList = [33, 120] from rfl, kk6] at c
    exact c
  have c7 : ∀ W, Calls Try.prog 15 #[.string ⟨#[]⟩] W fun e w' => e = .returned (.string ⟨#[]⟩) ∧ W = w' := fun W => by
    have c := wr_any ⟨#[]⟩ W (by decide)
    rw [show (⟨#[]⟩ : ByteArray).data.toList = [] from rfl, kk7] at c
    exact c
  have e1 := eqT false ⟨#[33, 33]⟩ ⟨#[105, 110, 116]⟩
  have e2 := eqT false ⟨#[33, 97, 33]⟩ ⟨#[98]⟩
  have eg := eqG .eql
  go_enter Try.func7, Try.ntmps7
  go_wp2_with fail
  refine (c1 _).mono ?_
  rintro r w1 ⟨rfl, hb1⟩
  have K1 := Blk.made w1 false ⟨#[33, 33]⟩ ⟨#[105, 110, 116]⟩
  have B1 := hb1.alloc hb1.size (.cells #[.bool false, .string ⟨#[33, 33]⟩, .string ⟨#[105, 110, 116]⟩] 23)
  obtain ⟨g1, hg1⟩ : ∃ g, w1.heap.size = g := ⟨_, rfl⟩
  rw [hg1] at K1
  clear hb1 c1
  go_wp2_with fail
  refine (c2 _).mono ?_
  rintro r w2 ⟨rfl, hb2⟩
  replace K1 := K1.next hb2
  replace B1 := B1.trans (hb2.mono B1.size)
  have K2 := Blk.made w2 false ⟨#[33, 97, 33]⟩ ⟨#[98]⟩
  replace K1 := K1.next (atG w2 false ⟨#[33, 97, 33]⟩ ⟨#[98]⟩)
  replace B1 := B1.alloc B1.size (.cells #[.bool false, .string ⟨#[33, 97, 33]⟩, .string ⟨#[98]⟩] 23)
  obtain ⟨g2, hg2⟩ : ∃ g, w2.heap.size = g := ⟨_, rfl⟩
  rw [hg2] at K2
  clear hb2 c2
  go_wp2_with fail
  refine (c3 _).mono ?_
  rintro r w3 ⟨rfl, hb3⟩
  replace K1 := (K1.next hb3).next (atG w3 false ⟨#[]⟩ ⟨#[]⟩)
  replace K2 := (K2.next hb3).next (atG w3 false ⟨#[]⟩ ⟨#[]⟩)
  replace B1 := B1.trans (hb3.mono B1.size)
  replace B1 := B1.alloc B1.size (.cells #[.bool false, .string ⟨#[]⟩, .string ⟨#[]⟩] 23)
  clear hb3 c3
  go_wp2_with fail
  refine (c4 _).mono ?_
  rintro r w4 ⟨rfl, hb4⟩
  replace K1 := K1.next hb4
  replace K2 := K2.next hb4
  replace B1 := B1.trans (hb4.mono B1.size)
  clear hb4 c4
  go_wp2_with fail
  refine (c5 _).mono ?_
  rintro r w5 ⟨rfl, hb5⟩
  replace K1 := K1.next hb5
  replace K2 := K2.next hb5
  replace B1 := B1.trans (hb5.mono B1.size)
  clear hb5 c5
  obtain ⟨j0, j1, j2⟩ := K1.cells
  obtain ⟨l0, l1, l2⟩ := K2.cells
  clear K1 K2
  go_wp2_with fail
  refine (c6 _).mono ?_
  rintro r w' ⟨rfl, rfl⟩
  go_wp2_with fail
  refine (c7 _).mono ?_
  rintro r w' ⟨rfl, rfl⟩
  go_wp2
  go_ret
  exact ⟨rfl, B1⟩
end Go.Proofs.Ytcahleaaicebbaa
