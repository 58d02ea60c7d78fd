/- Walks: cmp.Compare at int and at string, cmp.Or, compareDigits. Walk: big.Compare. -/
import Derived.Test.YtocegiffbgnogaaDoorWf
import Derived.Sort.Walk0
set_option linter.unusedVariables false
namespace Go.Proofs.YtocegiffbgnogaaDoor
open Go.RowKit

theorem nanI_any (x : Int) (w : World) : Calls Tryd.prog 94 #[.int .i64 x] w fun e w' => e = .returned (.bool false) ∧ w = w' := by
  go_enter Tryd.func94, Tryd.ntmps94
  go_wp2
  go_ret
  exact ⟨ret_bool (by simp), rfl⟩
theorem nanS_any (s : ByteArray) (w : World) : Calls Tryd.prog 95 #[.string s] w fun e w' => e = .returned (.bool false) ∧ w = w' := by
  go_enter Tryd.func95, Tryd.ntmps95
  go_wp2
  go_ret
  exact ⟨ret_bool (by simp), rfl⟩
set_option maxRecDepth 100000 in
theorem cmpI_any (x y : Int) (w : World) : Calls Tryd.prog 90 #[.int .i64 x, .int .i64 y] w fun e w' => e = .returned (.int .i64 (M.cmpZ x y)) ∧ w = w' := by
  have c1 := nanI_any x w
  have c2 := nanI_any y w
  unfold M.cmpZ
  by_cases h1 : x < y
  · rw [if_pos h1]
    have hd : decide (x < y) = true := decide_eq_true h1
    clear h1
    go_enter Tryd.func90, Tryd.ntmps90
    go_wp2_with fail
    refine c1.mono ?_
    rintro r w' ⟨rfl, rfl⟩
    go_wp2_with fail
    refine c2.mono ?_
    rintro r w' ⟨rfl, rfl⟩
    go_wp2
    go_ret
    exact ⟨rfl, rfl⟩
  · rw [if_neg h1]
    have hd : decide (x < y) = false := decide_eq_false h1
    by_cases h2 : y < x
    · rw [if_pos h2]
      have hd2 : decide (y < x) = true := decide_eq_true h2
      clear h1 h2
      go_enter Tryd.func90, Tryd.ntmps90
      go_wp2_with fail
      refine c1.mono ?_
      rintro r w' ⟨rfl, rfl⟩
      go_wp2_with fail
      refine c2.mono ?_
      rintro r w' ⟨rfl, rfl⟩
      go_wp2
      go_ret
      exact ⟨rfl, rfl⟩
    · rw [if_neg h2]
      have hd2 : decide (y < x) = false := decide_eq_false h2
      clear h1 h2
      go_enter Tryd.func90, Tryd.ntmps90
      go_wp2_with fail
      refine c1.mono ?_
      rintro r w' ⟨rfl, rfl⟩
      go_wp2_with fail
      refine c2.mono ?_
      rintro r w' ⟨rfl, rfl⟩
      go_wp2
      go_ret
      exact ⟨rfl, rfl⟩
def cmpL (l m : List UInt8) : Int := if l < m then -1 else if m < l then 1 else 0
theorem less_is (a b : ByteArray) : Op.bytesLess a.toList b.toList = decide (a.data.toList < b.data.toList) := by
  rw [bytesLess_eq, ByteArray.toList_eq, ByteArray.toList_eq]
theorem gtr_is (a b : ByteArray) : (!(Op.bytesLess a.toList b.toList || a.toList == b.toList)) = decide (b.data.toList < a.data.toList) := by
  rw [bytesLess_eq, ByteArray.toList_eq, ByteArray.toList_eq]
  rw [Bool.eq_iff_iff]
  simp
  constructor
  · rintro ⟨h1, h2⟩
    exact Std.lt_of_le_of_ne h1 (Ne.symm h2)
  · intro h
    exact ⟨Std.le_of_lt h, fun e => by rw [e] at h; exact absurd h (List.lt_irrefl _)⟩
set_option maxRecDepth 100000 in
theorem cmpT_any (x y : ByteArray) (w : World) : Calls Tryd.prog 91 #[.string x, .string y] w fun e w' => e = .returned (.int .i64 (cmpL x.data.toList y.data.toList)) ∧ w = w' := by
  have c1 := nanS_any x w
  have c2 := nanS_any y w
  have e1 := less_is x y
  have e2 := gtr_is x y
  unfold cmpL
  obtain ⟨p, hp⟩ : ∃ p, Op.bytesLess x.toList y.toList = p := ⟨_, rfl⟩
  obtain ⟨q, hq⟩ : ∃ q, (x.toList == y.toList) = q := ⟨_, rfl⟩
  rw [hp] at e1
  rw [hp, hq] at e2
  by_cases h1 : x.data.toList < y.data.toList
  · rw [if_pos h1]
    rw [decide_eq_true h1] at e1
    subst e1
    clear e2 h1 hq
    go_enter Tryd.func91, Tryd.ntmps91
    go_wp2_with fail
    refine c1.mono ?_
    rintro r w' ⟨rfl, rfl⟩
    go_wp2_with fail
    refine c2.mono ?_
    rintro r w' ⟨rfl, rfl⟩
    go_wp2
    go_ret
    exact ⟨rfl, rfl⟩
  · rw [if_neg h1]
    rw [decide_eq_false h1] at e1
    subst e1
    rw [Bool.false_or] at e2
    by_cases h2 : y.data.toList < x.data.toList
    · rw [if_pos h2]
      rw [decide_eq_true h2] at e2
      have e3 : q = false := by simpa using e2
      subst e3
      clear e2 h1 h2
      go_enter Tryd.func91, Tryd.ntmps91
      go_wp2_with fail
      refine c1.mono ?_
      rintro r w' ⟨rfl, rfl⟩
      go_wp2_with fail
      refine c2.mono ?_
      rintro r w' ⟨rfl, rfl⟩
      go_wp2
      go_ret
      exact ⟨rfl, rfl⟩
    · rw [if_neg h2]
      rw [decide_eq_false h2] at e2
      have e3 : q = true := by simpa using e2
      subst e3
      clear e2 h1 h2
      go_enter Tryd.func91, Tryd.ntmps91
      go_wp2_with fail
      refine c1.mono ?_
      rintro r w' ⟨rfl, rfl⟩
      go_wp2_with fail
      refine c2.mono ?_
      rintro r w' ⟨rfl, rfl⟩
      go_wp2
      go_ret
      exact ⟨rfl, rfl⟩
set_option maxRecDepth 100000 in
theorem or_any (x y : Int) (g : Nat) (w : World) (h0 : w.cell? ⟨g, 0, none⟩ = some (.int .i64 x)) (h1 : w.cell? ⟨g, 1, none⟩ = some (.int .i64 y)) :
    Calls Tryd.prog 89 #[.slice (some ⟨g, 0, none⟩) 2 2] w fun e w' => e = .returned (.int .i64 (if x = 0 then y else x)) ∧ w = w' := by
  obtain ⟨R, hR⟩ : ∃ R, (if x = 0 then y else x) = R := ⟨_, rfl⟩
  rw [hR]
  have HR := Lib.hid hR
  clear hR
  go_enter Tryd.func89, Tryd.ntmps89
  go_wp2
  go_loop [8] (fun i => ∃ k : Nat, i = .int .i64 k ∧ Hid (k = 0 ∨ (k = 1 ∧ x = 0) ∨ (k = 2 ∧ x = 0 ∧ y = 0))) (fun i => 2 - (intOf i).toNat)
  case atStart => exact ⟨0, rfl, Or.inl rfl⟩
  case round =>
    obtain ⟨k, rfl, hk⟩ := hrel
    rcases hk.out with rfl | ⟨rfl, hx⟩ | ⟨rfl, hx, hy⟩
    · clear hk
      by_cases hx : x = 0
      · have hb : (x != 0) = false := by simpa using hx
        have HX := Lib.hid hx
        clear hx
        go_wp2
        go_round
        case rel => exact ⟨1, rfl, Or.inr (Or.inl ⟨rfl, HX.out⟩)⟩
        case measure => simp [intOf]
      · have hb : (x != 0) = true := by simpa using hx
        have HX := Lib.hid hx
        clear hx
        go_wp2
        go_ret
        exact ⟨ret_int (by rw [← HR.out, if_neg HX.out]), rfl⟩
    · have HX := Lib.hid hx
      clear hk hx
      by_cases hy : y = 0
      · have hb : (y != 0) = false := by simpa using hy
        have HY := Lib.hid hy
        clear hy
        go_wp2
        go_round
        case rel => exact ⟨2, rfl, Or.inr (Or.inr ⟨rfl, HX.out, HY.out⟩)⟩
        case measure => simp [intOf]
      · have hb : (y != 0) = true := by simpa using hy
        clear hy
        go_wp2
        go_ret
        exact ⟨ret_int (by rw [← HR.out, if_pos HX.out]), rfl⟩
    · have HX := Lib.hid hx
      have HY := Lib.hid hy
      clear hk hx hy
      go_wp2
      go_ret
      exact ⟨ret_int (by rw [← HR.out, if_pos HX.out, HY.out]), rfl⟩
theorem cmpS_or (a b : ByteArray) : M.cmpS a.data.toList b.data.toList = if M.cmpZ (a.size : Int) (b.size : Int) = 0 then cmpL a.data.toList b.data.toList else M.cmpZ (a.size : Int) (b.size : Int) := by
  rw [sz_list, sz_list]
  generalize a.data.toList = l
  generalize b.data.toList = m
  unfold M.cmpS cmpL
  by_cases h1 : l.length < m.length
  · have e : M.cmpZ (l.length : Int) (m.length : Int) = -1 := by unfold M.cmpZ; rw [if_pos (by omega)]
    rw [if_pos h1, e]; rfl
  · by_cases h2 : m.length < l.length
    · have e : M.cmpZ (l.length : Int) (m.length : Int) = 1 := by unfold M.cmpZ; rw [if_neg (by omega), if_pos (by omega)]
      rw [if_neg h1, if_pos h2, e]; rfl
    · have e : M.cmpZ (l.length : Int) (m.length : Int) = 0 := by unfold M.cmpZ; rw [if_neg (by omega), if_neg (by omega)]
      rw [if_neg h1, if_neg h2, e, if_pos rfl]
set_option maxRecDepth 100000 in
theorem compareDigits_any (a b : ByteArray) (w : World) (ha : a.size ≤ 1000000) (hb : b.size ≤ 1000000) :
    Calls Tryd.prog 83 #[.string a, .string b] w fun e w' => e = .returned (.int .i64 (M.cmpS a.data.toList b.data.toList)) ∧ Below w.heap.size w w' := by
  rw [cmpS_or]
  have c1 := cmpI_any (a.size : Int) (b.size : Int)
  have c2 := cmpT_any a b
  generalize M.cmpZ (a.size : Int) (b.size : Int) = p at *
  generalize cmpL a.data.toList b.data.toList = q at *
  have c3 := or_any p q w.heap.size (w.alloc (Obj.cells #[Value.int IntKind.i64 p, Value.int IntKind.i64 q] 3)) (by simp) (by simp)
  generalize (if p = 0 then q else p) = R at *
  go_enter Tryd.func83, Tryd.ntmps83
  go_wp2_with fail
  refine (c1 _).mono ?_
  rintro r w' ⟨rfl, rfl⟩
  go_wp2_with fail
  refine (c2 _).mono ?_
  rintro r w' ⟨rfl, rfl⟩
  go_wp2_with fail
  refine c3.mono ?_
  rintro r w' ⟨rfl, rfl⟩
  go_wp2
  go_ret
  exact ⟨rfl, (Below.refl _ _).alloc (Nat.le_refl _) _⟩
end Go.Proofs.YtocegiffbgnogaaDoor

namespace Go.Proofs.YtocegiffbgnogaaDoor
open Go.RowKit

theorem split_tx (x : Int) (w : World) (hx : (tx x).size ≤ 100000) :
    Calls Tryd.prog 66 #[.string (tx x)] w fun e w' => e = .returned (.tuple #[.bool (decide (x < 0)), .string (bA (M.dg x.natAbs))]) ∧ w = w' := by
  have := split_any (tx x) w (by omega)
  rwa [tx_list, M.txt_isNeg, M.txt_unsign] at this
theorem cmpD_any (x y : Nat) (w : World) (hx : (bA (M.dg x)).size ≤ 1000000) (hy : (bA (M.dg y)).size ≤ 1000000) :
    Calls Tryd.prog 83 #[.string (bA (M.dg x)), .string (bA (M.dg y))] w fun e w' => e = .returned (.int .i64 (M.cmpZ x y)) ∧ Below w.heap.size w w' := by
  have := compareDigits_any (bA (M.dg x)) (bA (M.dg y)) w hx hy
  rwa [bA_toList, bA_toList, M.cmpS_dg] at this
theorem dg_tx_size (x : Int) : (bA (M.dg x.natAbs)).size ≤ (tx x).size := by
  rw [bA_size, tx_size]
  unfold M.txt
  split
  · simp
  · rw [show x.toNat = x.natAbs by omega]; omega
theorem cmp_sides (x y : Int) : M.cmpZ x y = if x < 0 then (if y < 0 then M.cmpZ (y.natAbs : Nat) (x.natAbs : Nat) else -1) else (if y < 0 then 1 else M.cmpZ (x.natAbs : Nat) (y.natAbs : Nat)) := by
  have := M.cmp_txt x y
  rwa [M.cmpS_dg, M.cmpS_dg] at this
end Go.Proofs.YtocegiffbgnogaaDoor
