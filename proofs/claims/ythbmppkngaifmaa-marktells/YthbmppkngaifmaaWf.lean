/- Walk of targum/mark's Off. -/
import Derived.Test.YthbmppkngaifmaaWe
set_option linter.unusedVariables false
namespace Go.Proofs.Ythbmppkngaifmaa
open Go.RowKit
open Fl (F)

theorem extract_mid_list (s : ByteArray) (i k : Nat) : (s.extract i (i + k)).data.toList = (s.data.toList.drop i).take k := by
  simp
theorem goZ_go (o : Bool) (L : List UInt8) (a b : Nat) : goZ o L a b = (((M.go o L (a, b)).1 : Int), ((M.go o L (a, b)).2 : Int)) := by
  rw [M.go_way]
  unfold goZ
  refine Prod.ext ?_ ?_
  · simp
  · simp only []
    split <;> simp
/-- Two places, one by one. -/
theorem eq_place (a b x y : Int) (ha : a.natAbs ≤ 2000000) (hb : b.natAbs ≤ 2000000) (hx : x.natAbs ≤ 2000000) (hy : y.natAbs ≤ 2000000) : ((FloatKind.f64.format.order (F a) (F x) == some Ordering.eq) && (FloatKind.f64.format.order (F b) (F y) == some Ordering.eq)) = decide (a = x ∧ b = y) := by
  rw [Fl.eq_F a x (by omega) (by omega), Fl.eq_F b y (by omega) (by omega)]
  by_cases h1 : a = x <;> by_cases h2 : b = y <;> simp [h1, h2]
theorem best_succ (o : Bool) (L : List UInt8) (x y : Int) (i a b : Nat) (h : M.pl o L i = (a, b)) : M.best o L x y (i + 1) = if ((a : Int) = x ∧ (b : Int) = y) then (i : Int) else M.best o L x y i := by
  rw [M.best]; unfold M.hit; rw [h]; simp

set_option maxRecDepth 100000 in
set_option maxHeartbeats 4000000 in
theorem off_any (v : Int) (s : ByteArray) (x y : Int) (w : World) (hs : s.size ≤ 100000) (hx : x.natAbs ≤ 1000000) (hy : y.natAbs ≤ 1000000) :
    Calls Try.prog 15 #[.int .i64 v, .string s, plV x y] w fun e w' => e = .returned (.int .i64 (M.best (isOld v) s.data.toList x y (s.size + 1))) ∧ w = w' := by
  have HLl := Lib.hid (sz_list s)
  obtain ⟨R, hR⟩ : ∃ R, M.best (isOld v) s.data.toList x y (s.size + 1) = R := ⟨_, rfl⟩
  rw [hR]
  have HR := Lib.hid hR
  clear hR
  go_enter Try.func15, Try.ntmps15
  go_wp2
  go_loop [7, 8, 9] (fun q p u => ∃ a b i : Nat, q = .int .i64 (M.best (isOld v) s.data.toList x y i) ∧ p = plV a b ∧ u = .int .i64 i ∧ i ≤ s.size ∧ a ≤ i ∧ b ≤ i ∧ M.At (isOld v) s.data.toList i (a, b)) (fun _ _ u => s.size - (intOf u).toNat)
  case atStart => exact ⟨0, 0, 0, rfl, by rw [show (((0 : Nat) : Int)) = 0 from rfl, plV, Fl.F_zero], rfl, Nat.zero_le _, Nat.le_refl _, Nat.le_refl _, M.at_zero _ _⟩
  case round =>
    obtain ⟨a, b, i, rfl, rfl, rfl, hi, ha, hb, hat⟩ := hrel
    have cL := less_any x y (a : Int) (b : Int) w (by omega) (by omega) (by omega) (by omega)
    have hpl := M.at_self hat
    by_cases hless : x < (a : Int) ∨ (x = (a : Int) ∧ y < (b : Int))
    · rw [show lessZ x y a b = true from decide_eq_true hless] at cL
      have hfin := M.best_past (isOld v) s.data.toList x y i (s.size + 1) (by omega) (by rw [hpl]; exact hless)
      rw [HR.out] at hfin
      have HF := Lib.hid hfin
      clear hfin hless hpl hat
      go_wp2_with (go_at_call 17; refine cL.mono ?_; rintro r w' ⟨rfl, rfl⟩)
      go_ret
      exact ⟨ret_int HF.out.symm, rfl⟩
    · rw [show lessZ x y a b = false from decide_eq_false hless] at cL
      clear hless
      have e1 := eq_place (a : Int) (b : Int) x y (by omega) (by omega) (by omega) (by omega)
      have hb1 := best_succ (isOld v) s.data.toList x y i a b hpl
      by_cases hend : i = s.size
      · subst hend
        have dE : ((s.size : Int) == (s.size : Int)) = true := by simp
        rw [HR.out] at hb1
        by_cases hH : ((a : Int) = x ∧ (b : Int) = y)
        · rw [if_pos hH] at hb1
          rw [decide_eq_true hH] at e1
          have HF := Lib.hid hb1
          clear hH hb1 hpl hat hi
          go_wp2_with (go_at_call 17; refine cL.mono ?_; rintro r w' ⟨rfl, rfl⟩)
          go_ret
          exact ⟨ret_int HF.out.symm, rfl⟩
        · rw [if_neg hH] at hb1
          rw [decide_eq_false hH] at e1
          have HF := Lib.hid hb1
          clear hH hb1 hpl hat hi
          go_wp2_with (go_at_call 17; refine cL.mono ?_; rintro r w' ⟨rfl, rfl⟩)
          go_ret
          exact ⟨ret_int HF.out.symm, rfl⟩
      · have hlt : i < s.size := by omega
        have dE : ((i : Int) == (s.size : Int)) = false := by simp; omega
        have cS := step_any v a b s i w hlt hs (by omega) (by omega)
        have hl : s.data.toList.drop i ≠ [] := by intro e; have := congrArg List.length e; rw [List.length_drop, ← HLl.out] at this; simp at this; omega
        have h1 := M.stp_pos (isOld v) (s.data.toList.drop i)
        have h2 := M.stp_le (isOld v) (s.data.toList.drop i) hl
        rw [List.length_drop, ← HLl.out] at h2
        have h4 := M.mv_le (isOld v) (s.data.toList.drop i) (a, b)
        have hnx := M.at_step hat (by rw [← HLl.out]; exact hlt)
        obtain ⟨n, hn⟩ : ∃ n, M.stp (isOld v) (s.data.toList.drop i) = n := ⟨_, rfl⟩
        obtain ⟨⟨a', b'⟩, hp⟩ : ∃ p, M.mv (isOld v) (s.data.toList.drop i) (a, b) = p := ⟨_, rfl⟩
        rw [hn] at cS h1 h2 hnx
        rw [hp] at cS hnx h4
        simp only at cS h4
        clear hn hp hl hend
        by_cases hH : ((a : Int) = x ∧ (b : Int) = y)
        · rw [if_pos hH] at hb1
          rw [decide_eq_true hH] at e1
          have HB := Lib.hid hb1
          clear hH hb1 hpl
          go_wp2_with fail
          refine cL.mono ?_
          rintro r w' ⟨rfl, rfl⟩
          go_wp2_with fail
          refine cS.mono ?_
          rintro r w' ⟨rfl, rfl⟩
          clear cL cS e1
          go_wp2_with fail
          go_loop [7, 12] (fun q u => ∃ k : Nat, q = .int .i64 (M.best (isOld v) s.data.toList x y (i + k)) ∧ u = .int .i64 k ∧ 1 ≤ k ∧ k ≤ n) (fun _ u => n - (intOf u).toNat)
          case atStart => exact ⟨1, by rw [HB.out], rfl, Nat.le_refl _, h1⟩
          case round =>
            obtain ⟨k, rfl, rfl, hk1, hkn⟩ := hrel
            by_cases hlk : k < n
            · have hlkd : decide (k < n) = true := by simpa using hlk
              have cG := go_any v a b (s.extract i (i + k)) w (by rw [sz_list, extract_mid_list, List.length_take, List.length_drop, ← sz_list]; omega) (by omega) (by omega)
              rw [extract_mid_list, goZ_go, ← hat k] at cG
              have hple := M.way_le (isOld v) (s.data.toList.take (i + k))
              rw [List.length_take, ← HLl.out] at hple
              have hb2 := M.pl (isOld v) s.data.toList (i + k)
              obtain ⟨⟨c, d⟩, hp⟩ : ∃ p, M.pl (isOld v) s.data.toList (i + k) = p := ⟨_, rfl⟩
              have hb3 := best_succ (isOld v) s.data.toList x y (i + k) c d hp
              unfold M.pl at hp
              rw [hp] at hple
              rw [show M.pl (isOld v) s.data.toList (i + k) = (c, d) from hp] at cG
              simp only at cG hple
              have e2 := eq_place (c : Int) (d : Int) x y (by omega) (by omega) (by omega) (by omega)
              clear hb2 hp hple
              by_cases hK : ((c : Int) = x ∧ (d : Int) = y)
              · rw [if_pos hK] at hb3
                rw [decide_eq_true hK] at e2
                have HB3 := Lib.hid hb3
                clear hK hb3
                go_wp2_with fail
                refine cG.mono ?_
                rintro r w' ⟨rfl, rfl⟩
                go_wp2
                go_round
                case rel => exact ⟨k + 1, by rw [← Nat.add_assoc, HB3.out]; go_num, by go_num, by omega, by omega⟩
                case measure => simp [intOf]; omega
              · rw [if_neg hK] at hb3
                rw [decide_eq_false hK] at e2
                have HB3 := Lib.hid hb3
                clear hK hb3
                go_wp2_with fail
                refine cG.mono ?_
                rintro r w' ⟨rfl, rfl⟩
                go_wp2
                go_round
                case rel => exact ⟨k + 1, by rw [← Nat.add_assoc, HB3.out], by go_num, by omega, by omega⟩
                case measure => simp [intOf]; omega
            · obtain rfl : k = n := by omega
              have hlkd : decide (k < k) = false := by simp
              go_wp2
              go_round
              case rel => exact ⟨a', b', i + k, rfl, rfl, by go_num, by omega, by omega, by omega, hnx⟩
              case measure => simp [intOf]; omega
        · rw [if_neg hH] at hb1
          rw [decide_eq_false hH] at e1
          have HB := Lib.hid hb1
          clear hH hb1 hpl
          go_wp2_with fail
          refine cL.mono ?_
          rintro r w' ⟨rfl, rfl⟩
          go_wp2_with fail
          refine cS.mono ?_
          rintro r w' ⟨rfl, rfl⟩
          clear cL cS e1
          go_wp2_with fail
          go_loop [7, 12] (fun q u => ∃ k : Nat, q = .int .i64 (M.best (isOld v) s.data.toList x y (i + k)) ∧ u = .int .i64 k ∧ 1 ≤ k ∧ k ≤ n) (fun _ u => n - (intOf u).toNat)
          case atStart => exact ⟨1, by rw [HB.out], rfl, Nat.le_refl _, h1⟩
          case round =>
            obtain ⟨k, rfl, rfl, hk1, hkn⟩ := hrel
            by_cases hlk : k < n
            · have hlkd : decide (k < n) = true := by simpa using hlk
              have cG := go_any v a b (s.extract i (i + k)) w (by rw [sz_list, extract_mid_list, List.length_take, List.length_drop, ← sz_list]; omega) (by omega) (by omega)
              rw [extract_mid_list, goZ_go, ← hat k] at cG
              have hple := M.way_le (isOld v) (s.data.toList.take (i + k))
              rw [List.length_take, ← HLl.out] at hple
              have hb2 := M.pl (isOld v) s.data.toList (i + k)
              obtain ⟨⟨c, d⟩, hp⟩ : ∃ p, M.pl (isOld v) s.data.toList (i + k) = p := ⟨_, rfl⟩
              have hb3 := best_succ (isOld v) s.data.toList x y (i + k) c d hp
              unfold M.pl at hp
              rw [hp] at hple
              rw [show M.pl (isOld v) s.data.toList (i + k) = (c, d) from hp] at cG
              simp only at cG hple
              have e2 := eq_place (c : Int) (d : Int) x y (by omega) (by omega) (by omega) (by omega)
              clear hb2 hp hple
              by_cases hK : ((c : Int) = x ∧ (d : Int) = y)
              · rw [if_pos hK] at hb3
                rw [decide_eq_true hK] at e2
                have HB3 := Lib.hid hb3
                clear hK hb3
                go_wp2_with fail
                refine cG.mono ?_
                rintro r w' ⟨rfl, rfl⟩
                go_wp2
                go_round
                case rel => exact ⟨k + 1, by rw [← Nat.add_assoc, HB3.out]; go_num, by go_num, by omega, by omega⟩
                case measure => simp [intOf]; omega
              · rw [if_neg hK] at hb3
                rw [decide_eq_false hK] at e2
                have HB3 := Lib.hid hb3
                clear hK hb3
                go_wp2_with fail
                refine cG.mono ?_
                rintro r w' ⟨rfl, rfl⟩
                go_wp2
                go_round
                case rel => exact ⟨k + 1, by rw [← Nat.add_assoc, HB3.out], by go_num, by omega, by omega⟩
                case measure => simp [intOf]; omega
            · obtain rfl : k = n := by omega
              have hlkd : decide (k < k) = false := by simp
              go_wp2
              go_round
              case rel => exact ⟨a', b', i + k, rfl, rfl, by go_num, by omega, by omega, by omega, hnx⟩
              case measure => simp [intOf]; omega

end Go.Proofs.Ythbmppkngaifmaa
