/- The law MarkGoes: its walk. -/
import Derived.Test.YthbmppkngaifmaaLc
set_option linter.unusedVariables false
namespace Go.Proofs.Ythbmppkngaifmaa
open Go.RowKit
open Fl (F)

theorem goZ_join (o : Bool) (a b : List UInt8) (x y : Int) (hf : M.Full a) (hap : M.Apart a b) : goZ o (a ++ b) x y = goZ o b (goZ o a x y).1 (goZ o a x y).2 := by
  have h := M.way_join o a b hf hap
  unfold goZ
  rw [h]
  simp only
  by_cases h1 : (M.way o a).1 = 0 <;> by_cases h2 : (M.way o b).1 = 0 <;> simp [h1, h2] <;> omega
theorem goZ_way (o : Bool) (a b : List UInt8) (hf : M.Full a) (hap : M.Apart a b) : goZ o b (M.way o a).1 (M.way o a).2 = (((M.way o (a ++ b)).1 : Int), ((M.way o (a ++ b)).2 : Int)) := by
  have h := M.way_join o a b hf hap
  unfold goZ
  rw [h]
  simp only
  by_cases h2 : (M.way o b).1 = 0 <;> simp [h2]
theorem goZ_nil (o : Bool) (x y : Int) : goZ o [] x y = (x, y) := by
  unfold goZ
  rw [show M.way o [] = (0, 0) from rfl]
  simp
theorem pl_front (o : Bool) (a b : List UInt8) : M.pl o (a ++ b) a.length = M.way o a := by
  unfold M.pl; rw [List.take_left]
theorem goZ_bound (o : Bool) (L : List UInt8) (x y : Int) (B : Nat) (h : L.length ≤ 200) (hx : x.natAbs ≤ B) (hy : y.natAbs ≤ B) : (goZ o L x y).1.natAbs ≤ B + 200 ∧ (goZ o L x y).2.natAbs ≤ B + 200 := by
  have := M.way_le o L
  unfold goZ
  simp only
  split <;> omega

/-- What the last row asks. -/
theorem goes_facts (v : Int) (s t : ByteArray) (x y : Int) (hs : s.size ≤ 200) (ht : t.size ≤ 200) (hx : x.natAbs ≤ 32768) (hy : y.natAbs ≤ 32768) (hv : Lib.validD s.data.toList = true) (hap : M.Apart s.data.toList t.data.toList) :
    ∃ u1 u2 r1 r2 : Int, ∃ a1 a2 m1 m2 : Nat, (∀ w, Calls Try.prog 14 #[.int .i64 v, plV x y, .string s] w fun e w' => e = .returned (plV u1 u2) ∧ w = w') ∧
      (∀ w, Calls Try.prog 14 #[.int .i64 v, plV u1 u2, .string t] w fun e w' => e = .returned (plV r1 r2) ∧ w = w') ∧
      (∀ w, Calls Try.prog 14 #[.int .i64 v, plV x y, .string (s ++ t)] w fun e w' => e = .returned (plV r1 r2) ∧ w = w') ∧
      (∀ w, Calls Try.prog 10 #[.int .i64 v, .string (s ++ t)] w fun e w' => e = .returned (plV m1 m2) ∧ w = w') ∧
      (∀ w, Calls Try.prog 10 #[.int .i64 v, .string s] w fun e w' => e = .returned (plV a1 a2) ∧ w = w') ∧
      (∀ w, Calls Try.prog 14 #[.int .i64 v, plV a1 a2, .string t] w fun e w' => e = .returned (plV m1 m2) ∧ w = w') ∧
      (∀ w, Calls Try.prog 14 #[.int .i64 v, plV x y, .string ByteArray.empty] w fun e w' => e = .returned (plV x y) ∧ w = w') ∧
      (∀ w, Calls Try.prog 13 #[.int .i64 v, .string (s ++ t), .int .i64 s.size] w fun e w' => e = .returned (plV a1 a2) ∧ w = w') ∧
      r1.natAbs ≤ 2000000 ∧ r2.natAbs ≤ 2000000 ∧ a1 ≤ 2000000 ∧ a2 ≤ 2000000 ∧ m1 ≤ 2000000 ∧ m2 ≤ 2000000 := by
  have hf := M.valid_full _ hv
  have hls := sz_list s
  have hlt := sz_list t
  have hap1 := append_list s t
  have hsz := append_sz s t
  have b1 := goZ_bound (isOld v) s.data.toList x y 32768 (by omega) hx hy
  have b2 := goZ_bound (isOld v) t.data.toList (goZ (isOld v) s.data.toList x y).1 (goZ (isOld v) s.data.toList x y).2 32968 (by omega) b1.1 b1.2
  have b3 := M.way_le (isOld v) s.data.toList
  have b4 := M.way_le (isOld v) (s ++ t).data.toList
  rw [← sz_list] at b3 b4
  refine ⟨_, _, _, _, _, _, _, _, fun w => go_any v x y s w (by omega) (by omega) (by omega), fun w => go_any v _ _ t w (by omega) (by omega) (by omega), fun w => ?_, fun w => way_any v (s ++ t) w (by omega), fun w => way_any v s w (by omega), fun w => ?_, fun w => ?_, fun w => ?_, by omega, by omega, by omega, by omega, by omega, by omega⟩
  · have c := go_any v x y (s ++ t) w (by omega) (by omega) (by omega)
    rw [hap1, goZ_join _ _ _ _ _ hf hap] at c
    exact c
  · have c := go_any v (M.way (isOld v) s.data.toList).1 (M.way (isOld v) s.data.toList).2 t w (by omega) (by omega) (by omega)
    rw [goZ_way _ _ _ hf hap, ← hap1] at c
    exact c
  · have c := go_any v x y ByteArray.empty w (by decide) (by omega) (by omega)
    rw [show ByteArray.empty.data.toList = [] from rfl, goZ_nil] at c
    exact c
  · have c := of_in v (s ++ t) s.size w (by omega) (by omega)
    rw [hap1, hls, pl_front] at c
    rw [hls]
    exact c

set_option maxRecDepth 100000 in
set_option maxHeartbeats 2000000 in
theorem goes_any (s t : ByteArray) (old : Bool) (x y : Int) (w : World) (hs : s.size ≤ maxLen) (ht : t.size ≤ maxLen) (hx : -32768 ≤ x ∧ x ≤ 32767) (hy : -32768 ≤ y ∧ y ≤ 32767) :
    Calls Try.prog 4 #[.string s, .string t, .bool old, .int .i16 x, .int .i16 y] w fun e w' => e = .returned (.bool true) ∧ Below w.heap.size w w' := by
  unfold maxLen at hs ht
  go_enter Try.func4, Try.ntmps4
  go_wp2_with fail
  refine (known_any w).mono ?_
  rintro r w' ⟨rfl, rfl⟩
  by_cases h3 : 200 < s.size
  · have d3 : decide ((200 : Int) < (s.size : Int)) = true := by simp; omega
    go_wp2
    go_ret
    exact ⟨rfl, Below.refl _ _⟩
  have d3 : decide ((200 : Int) < (s.size : Int)) = false := by simp; omega
  have hs3 : s.size ≤ 200 := by omega
  by_cases h4 : 200 < t.size
  · have d4 : decide ((200 : Int) < (t.size : Int)) = true := by simp; omega
    go_wp2
    go_ret
    exact ⟨rfl, Below.refl _ _⟩
  have d4 : decide ((200 : Int) < (t.size : Int)) = false := by simp; omega
  have ht3 : t.size ≤ 200 := by omega
  clear h3 hs h4 ht
  have cW := well_any s w (by omega)
  have cX := well_any t w (by omega)
  cases hval : Lib.validD s.data.toList with
  | false =>
    rw [hval] at cW
    clear hval
    go_wp2_with fail
    refine cW.mono ?_
    rintro r w' ⟨rfl, rfl⟩
    go_wp2
    go_ret
    exact ⟨rfl, Below.refl _ _⟩
  | true =>
  rw [hval] at cW
  have HV := Lib.hid hval
  clear hval
  go_wp2_with fail
  refine cW.mono ?_
  rintro r w' ⟨rfl, rfl⟩
  cases hvt : Lib.validD t.data.toList with
  | false =>
    rw [hvt] at cX
    clear hvt
    go_wp2_with fail
    refine cX.mono ?_
    rintro r w' ⟨rfl, rfl⟩
    go_wp2
    go_ret
    exact ⟨rfl, Below.refl _ _⟩
  | true =>
  rw [hvt] at cX
  clear hvt
  go_wp2_with fail
  refine cX.mono ?_
  rintro r w' ⟨rfl, rfl⟩
  clear cW cX
  have cV := version_any old w
  obtain ⟨v, hv⟩ : ∃ v : Int, (if old = true then (11 : Int) else 12) = v := ⟨_, rfl⟩
  rw [hv] at cV
  clear hv
  have cPt := point_any x y w
  have HLs := Lib.hid (sz_list s)
  have hfact := goes_facts v s t x y hs3 ht3 (by omega) (by omega) HV.out
  have hapd : ¬ (0 < s.size ∧ 0 < t.size ∧ M.by8 s.data.toList (s.size - 1) = 13 ∧ M.by8 t.data.toList 0 = 10) → M.Apart s.data.toList t.data.toList := by
    intro h hap
    refine h ⟨?_, ?_, ?_, hap.2.2⟩
    · rw [HLs.out]; exact hap.1
    · rw [sz_list]; exact M.by8_in _ _ (by rw [hap.2.2]; omega)
    · rw [HLs.out]; exact hap.2.1
  by_cases hz : 0 < s.size
  · have z1 : decide (0 < s.size) = true := by simpa using hz
    by_cases hzt : 0 < t.size
    · have z2 : decide (0 < t.size) = true := by simpa using hzt
      have g1 := getB s (s.size - 1) (by omega)
      have g2 := getB t 0 hzt
      obtain ⟨c1, hc1⟩ : ∃ c, M.by8 s.data.toList (s.size - 1) = c := ⟨_, rfl⟩
      obtain ⟨c2, hc2⟩ : ∃ c, M.by8 t.data.toList 0 = c := ⟨_, rfl⟩
      rw [hc1] at g1 hapd
      rw [hc2] at g2 hapd
      clear hc1 hc2
      by_cases h13 : c1 = 13
      · have d13 : ((c1 : Int) == 13) = true := by simp; omega
        by_cases h10 : c2 = 10
        · have d10 : ((c2 : Int) == 10) = true := by simp; omega
          clear hfact hapd cV cPt h13 h10
          go_wp2
          go_ret
          exact ⟨rfl, Below.refl _ _⟩
        · have d10 : ((c2 : Int) == 10) = false := by simp; omega
          obtain ⟨u1, u2, r1, r2, a1, a2, m1, m2, f1, f2, f3, f4, f5, f6, f7, f8, b1, b2, b3, b4, b5, b6⟩ := hfact (hapd (by omega))
          have e1 := eq_self r1 (by omega)
          have e2 := eq_self r2 (by omega)
          have e3 := eq_self (m1 : Int) (by omega)
          have e4 := eq_self (m2 : Int) (by omega)
          have e5 := eq_self (a1 : Int) (by omega)
          have e6 := eq_self (a2 : Int) (by omega)
          have e7 := eq_self x (by omega)
          have e8 := eq_self y (by omega)
          clear hapd hfact b1 b2 b3 b4 b5 b6
          clear h13 h10
          go_wp2_with fail
          refine cV.mono ?_
          rintro r w' ⟨rfl, rfl⟩
          go_wp2_with fail
          refine cPt.mono ?_
          rintro r w' ⟨rfl, rfl⟩
          go_wp2_with fail
          refine (f1 _).mono ?_
          rintro r w' ⟨rfl, rfl⟩
          go_wp2_with fail
          refine (f2 _).mono ?_
          rintro r w' ⟨rfl, rfl⟩
          go_wp2_with fail
          refine (f3 _).mono ?_
          rintro r w' ⟨rfl, rfl⟩
          go_wp2_with fail
          refine (f4 _).mono ?_
          rintro r w' ⟨rfl, rfl⟩
          go_wp2_with fail
          refine (f5 _).mono ?_
          rintro r w' ⟨rfl, rfl⟩
          go_wp2_with fail
          refine (f6 _).mono ?_
          rintro r w' ⟨rfl, rfl⟩
          go_wp2_with fail
          refine (f7 _).mono ?_
          rintro r w' ⟨rfl, rfl⟩
          go_wp2_with fail
          refine (f8 _).mono ?_
          rintro r w' ⟨rfl, rfl⟩
          go_wp2_with fail
          refine (f5 _).mono ?_
          rintro r w' ⟨rfl, rfl⟩
          go_wp2
          go_ret
          exact ⟨rfl, Below.refl _ _⟩
      · have d13 : ((c1 : Int) == 13) = false := by simp; omega
        obtain ⟨u1, u2, r1, r2, a1, a2, m1, m2, f1, f2, f3, f4, f5, f6, f7, f8, b1, b2, b3, b4, b5, b6⟩ := hfact (hapd (by omega))
        have e1 := eq_self r1 (by omega)
        have e2 := eq_self r2 (by omega)
        have e3 := eq_self (m1 : Int) (by omega)
        have e4 := eq_self (m2 : Int) (by omega)
        have e5 := eq_self (a1 : Int) (by omega)
        have e6 := eq_self (a2 : Int) (by omega)
        have e7 := eq_self x (by omega)
        have e8 := eq_self y (by omega)
        clear hapd hfact b1 b2 b3 b4 b5 b6
        clear h13
        go_wp2_with fail
        refine cV.mono ?_
        rintro r w' ⟨rfl, rfl⟩
        go_wp2_with fail
        refine cPt.mono ?_
        rintro r w' ⟨rfl, rfl⟩
        go_wp2_with fail
        refine (f1 _).mono ?_
        rintro r w' ⟨rfl, rfl⟩
        go_wp2_with fail
        refine (f2 _).mono ?_
        rintro r w' ⟨rfl, rfl⟩
        go_wp2_with fail
        refine (f3 _).mono ?_
        rintro r w' ⟨rfl, rfl⟩
        go_wp2_with fail
        refine (f4 _).mono ?_
        rintro r w' ⟨rfl, rfl⟩
        go_wp2_with fail
        refine (f5 _).mono ?_
        rintro r w' ⟨rfl, rfl⟩
        go_wp2_with fail
        refine (f6 _).mono ?_
        rintro r w' ⟨rfl, rfl⟩
        go_wp2_with fail
        refine (f7 _).mono ?_
        rintro r w' ⟨rfl, rfl⟩
        go_wp2_with fail
        refine (f8 _).mono ?_
        rintro r w' ⟨rfl, rfl⟩
        go_wp2_with fail
        refine (f5 _).mono ?_
        rintro r w' ⟨rfl, rfl⟩
        go_wp2
        go_ret
        exact ⟨rfl, Below.refl _ _⟩
    · have z2 : decide (0 < t.size) = false := by simpa using hzt
      obtain ⟨u1, u2, r1, r2, a1, a2, m1, m2, f1, f2, f3, f4, f5, f6, f7, f8, b1, b2, b3, b4, b5, b6⟩ := hfact (hapd (by omega))
      have e1 := eq_self r1 (by omega)
      have e2 := eq_self r2 (by omega)
      have e3 := eq_self (m1 : Int) (by omega)
      have e4 := eq_self (m2 : Int) (by omega)
      have e5 := eq_self (a1 : Int) (by omega)
      have e6 := eq_self (a2 : Int) (by omega)
      have e7 := eq_self x (by omega)
      have e8 := eq_self y (by omega)
      clear hapd hfact b1 b2 b3 b4 b5 b6
      skip
      go_wp2_with fail
      refine cV.mono ?_
      rintro r w' ⟨rfl, rfl⟩
      go_wp2_with fail
      refine cPt.mono ?_
      rintro r w' ⟨rfl, rfl⟩
      go_wp2_with fail
      refine (f1 _).mono ?_
      rintro r w' ⟨rfl, rfl⟩
      go_wp2_with fail
      refine (f2 _).mono ?_
      rintro r w' ⟨rfl, rfl⟩
      go_wp2_with fail
      refine (f3 _).mono ?_
      rintro r w' ⟨rfl, rfl⟩
      go_wp2_with fail
      refine (f4 _).mono ?_
      rintro r w' ⟨rfl, rfl⟩
      go_wp2_with fail
      refine (f5 _).mono ?_
      rintro r w' ⟨rfl, rfl⟩
      go_wp2_with fail
      refine (f6 _).mono ?_
      rintro r w' ⟨rfl, rfl⟩
      go_wp2_with fail
      refine (f7 _).mono ?_
      rintro r w' ⟨rfl, rfl⟩
      go_wp2_with fail
      refine (f8 _).mono ?_
      rintro r w' ⟨rfl, rfl⟩
      go_wp2_with fail
      refine (f5 _).mono ?_
      rintro r w' ⟨rfl, rfl⟩
      go_wp2
      go_ret
      exact ⟨rfl, Below.refl _ _⟩
  · have z1 : decide (0 < s.size) = false := by simpa using hz
    obtain ⟨u1, u2, r1, r2, a1, a2, m1, m2, f1, f2, f3, f4, f5, f6, f7, f8, b1, b2, b3, b4, b5, b6⟩ := hfact (hapd (by omega))
    have e1 := eq_self r1 (by omega)
    have e2 := eq_self r2 (by omega)
    have e3 := eq_self (m1 : Int) (by omega)
    have e4 := eq_self (m2 : Int) (by omega)
    have e5 := eq_self (a1 : Int) (by omega)
    have e6 := eq_self (a2 : Int) (by omega)
    have e7 := eq_self x (by omega)
    have e8 := eq_self y (by omega)
    clear hapd hfact b1 b2 b3 b4 b5 b6
    skip
    go_wp2_with fail
    refine cV.mono ?_
    rintro r w' ⟨rfl, rfl⟩
    go_wp2_with fail
    refine cPt.mono ?_
    rintro r w' ⟨rfl, rfl⟩
    go_wp2_with fail
    refine (f1 _).mono ?_
    rintro r w' ⟨rfl, rfl⟩
    go_wp2_with fail
    refine (f2 _).mono ?_
    rintro r w' ⟨rfl, rfl⟩
    go_wp2_with fail
    refine (f3 _).mono ?_
    rintro r w' ⟨rfl, rfl⟩
    go_wp2_with fail
    refine (f4 _).mono ?_
    rintro r w' ⟨rfl, rfl⟩
    go_wp2_with fail
    refine (f5 _).mono ?_
    rintro r w' ⟨rfl, rfl⟩
    go_wp2_with fail
    refine (f6 _).mono ?_
    rintro r w' ⟨rfl, rfl⟩
    go_wp2_with fail
    refine (f7 _).mono ?_
    rintro r w' ⟨rfl, rfl⟩
    go_wp2_with fail
    refine (f8 _).mono ?_
    rintro r w' ⟨rfl, rfl⟩
    go_wp2_with fail
    refine (f5 _).mono ?_
    rintro r w' ⟨rfl, rfl⟩
    go_wp2
    go_ret
    exact ⟨rfl, Below.refl _ _⟩

end Go.Proofs.Ythbmppkngaifmaa
