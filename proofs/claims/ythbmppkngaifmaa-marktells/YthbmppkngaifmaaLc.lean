/- The law MarkAdds: its walk. -/
import Derived.Test.YthbmppkngaifmaaLb
set_option linter.unusedVariables false
namespace Go.Proofs.Ythbmppkngaifmaa
open Go.RowKit
open Fl (F)

theorem extract_two (s : ByteArray) (i k : Nat) : (s.extract i k).data.toList = (s.data.toList.take k).drop i := by
  rw [List.drop_take]
  simp
theorem extract_two_size (s : ByteArray) (i k : Nat) (hs : s.size ≤ 100000) : (s.extract i k).size ≤ 100000 := by
  rw [sz_list, extract_two, List.length_drop, List.length_take, ← sz_list]; omega

theorem goZ_two (o : Bool) (L : List UInt8) (x y : Int) : goZ o L x y = (x + (M.way o L).1, if (M.way o L).1 = 0 then y + (M.way o L).2 else (M.way o L).2) := rfl

set_option maxRecDepth 100000 in
set_option maxHeartbeats 2000000 in
theorem adds_any (s : ByteArray) (old : Bool) (a b : Int) (w : World) (hs : s.size ≤ maxLen) :
    Calls Try.prog 7 #[.string s, .bool old, .int .i64 a, .int .i64 b] w fun e w' => e = .returned (.bool true) ∧ Below w.heap.size w w' := by
  unfold maxLen at hs
  go_enter Try.func7, Try.ntmps7
  go_wp2_with fail
  refine (known_any w).mono ?_
  rintro r w' ⟨rfl, rfl⟩
  by_cases h3 : 200 < s.size
  · have d3 : decide ((200 : Int) < (s.size : Int)) = true := by simp; omega
    go_wp2
    go_ret
    exact ⟨rfl, Below.refl _ _⟩
  have d3 : decide ((200 : Int) < (s.size : Int)) = false := by simp; omega
  have hs3 : s.size ≤ 200 := by omega
  clear h3 hs
  have cW := well_any s w (by omega)
  cases hval : Lib.validD s.data.toList with
  | false =>
    rw [hval] at cW
    clear hval
    go_wp2_with fail
    refine cW.mono ?_
    rintro r w' ⟨rfl, rfl⟩
    go_wp2
    go_ret
    exact ⟨rfl, Below.refl _ _⟩
  | true =>
  rw [hval] at cW
  clear hval
  have cV := version_any old w
  obtain ⟨v, hv⟩ : ∃ v : Int, (if old = true then (11 : Int) else 12) = v := ⟨_, rfl⟩
  rw [hv] at cV
  clear hv
  have cA := within_any a s.size w (by omega)
  have cB := within_any b s.size w (by omega)
  have hi := within0_le a s.size
  have hk := within0_le b s.size
  obtain ⟨i, hi'⟩ : ∃ i, within0 a s.size = i := ⟨_, rfl⟩
  obtain ⟨k, hk'⟩ : ∃ k, within0 b s.size = k := ⟨_, rfl⟩
  rw [hi'] at cA hi
  rw [hk'] at cB hk
  clear hi' hk'
  go_wp2_with fail
  refine cW.mono ?_
  rintro r w' ⟨rfl, rfl⟩
  go_wp2_with fail
  refine cV.mono ?_
  rintro r w' ⟨rfl, rfl⟩
  go_wp2_with fail
  refine cA.mono ?_
  rintro r w' ⟨rfl, rfl⟩
  go_wp2_with fail
  refine cB.mono ?_
  rintro r w' ⟨rfl, rfl⟩
  clear cV cA cB cW
  by_cases hik : k < i
  · have dik : decide (k < i) = true := by simpa using hik
    have hle : k ≤ i := by omega
    have cI := well_take s k w (by omega)
    have cK := well_take s i w (by omega)
    cases hvi : Lib.validD (s.data.toList.take k) with
    | false =>
      rw [hvi] at cI
      clear hvi hik
      go_wp2_with fail
      refine cI.mono ?_
      rintro r w' ⟨rfl, rfl⟩
      go_wp2
      go_ret
      exact ⟨rfl, Below.refl _ _⟩
    | true =>
    rw [hvi] at cI
    have HVI := Lib.hid hvi
    clear hvi
    cases hvk : Lib.validD (s.data.toList.take i) with
    | false =>
      rw [hvk] at cK
      clear hvk hik
      go_wp2_with fail
      refine cI.mono ?_
      rintro r w' ⟨rfl, rfl⟩
      go_wp2_with fail
      refine cK.mono ?_
      rintro r w' ⟨rfl, rfl⟩
      go_wp2
      go_ret
      exact ⟨rfl, Below.refl _ _⟩
    | true =>
    rw [hvk] at cK
    clear hvk hik
    have hmono := M.pl_le (isOld v) s.data.toList k i hle
    have hadd := M.adds (isOld v) s.data.toList k i hle HVI.out
    have bP := pl_bound (isOld v) s k
    have bQ := pl_bound (isOld v) s i
    have cO := fun k hk w => of_in v s k w (by omega) hk
    have cY := fun w => way_any v (s.extract k i) w (extract_two_size s k i (by omega))
    have cZ := fun w => rway_any v (s.extract k i) w (extract_two_size s k i (by omega))
    simp only [extract_two] at cY cZ
    have bW := M.way_le (isOld v) ((s.data.toList.take i).drop k)
    rw [List.length_drop, List.length_take, ← sz_list] at bW
    have hG := goZ_two (isOld v) ((s.data.toList.take i).drop k)
    have cG := fun x y w (hx : x.natAbs ≤ 1000000) (hy : y.natAbs ≤ 1000000) => go_any v x y (s.extract k i) w (extract_two_size s k i (by omega)) hx hy
    simp only [extract_two] at cG
    have hadd2 : (M.way (isOld v) ((s.data.toList.take i).drop k)).1 = 0 → (M.pl (isOld v) s.data.toList i).2 = (M.pl (isOld v) s.data.toList k).2 + (M.way (isOld v) ((s.data.toList.take i).drop k)).2 := fun h => congrArg Prod.snd (hadd h)
    unfold M.le2 at hmono
    clear hadd
    generalize goZ (isOld v) ((s.data.toList.take i).drop k) = g at *
    generalize M.way (isOld v) ((s.data.toList.take i).drop k) = n at *
    generalize M.pl (isOld v) s.data.toList = f at *
    go_wp2_with fail
    refine cI.mono ?_
    rintro r w' ⟨rfl, rfl⟩
    go_wp2_with fail
    refine cK.mono ?_
    rintro r w' ⟨rfl, rfl⟩
    clear cI cK
    have z1 : (0 : Int) ≤ (k : Int) := by omega
    have z2 : (k : Int) ≤ (i : Int) := by omega
    have z3 : (i : Int) ≤ (s.size : Int) := by omega
    go_wp2_with fail
    go_quiet ((first | (go_at_call 10; exact Calls.quiet_of_same ((cY _).mono fun _ _ h => ⟨h.1, h.2.symm⟩)) | (go_at_call 13; exact Calls.quiet_of_same ((cO _ (by assumption) _).mono fun _ _ h => ⟨h.1, h.2.symm⟩))))
    clear cO cY
    generalize (f k).1 = p1 at *
    generalize (f k).2 = p2 at *
    generalize (f i).1 = q1 at *
    generalize (f i).2 = q2 at *
    obtain ⟨n1, n2⟩ := n
    simp only at cZ bW hG hadd2 ⊢
    have le := Fl.lt_F (p1 : Int) q1 (by omega) (by omega)
    have eq0 := Fl.eq_F (p1 : Int) q1 (by omega) (by omega)
    by_cases hpq : p1 = q1
    · subst hpq
      have ne0 : (FloatKind.f64.format.order (F (p1 : Int)) (F (p1 : Int)) != some Ordering.eq) = false := by
        rw [bne, eq0]; simp
      clear eq0 le
      by_cases hn0 : n1 = 0
      · subst hn0
        have hq2 : q2 = p2 + n2 := hadd2 rfl
        have cG2 := fun w => cG (p1 : Int) (p2 : Int) w (by omega) (by omega)
        simp only [hG] at cG2
        simp only [if_true, show ((p2 : Int) + (n2 : Int)) = (q2 : Int) by omega, show ((p1 : Int) + ((0 : Nat) : Int)) = (p1 : Int) by omega] at cG2
        have s1 := fun t w => sub_place t (p1 : Int) (q2 : Int) (p1 : Int) (p2 : Int) (by omega) (by omega) (by omega) (by omega) w
        rw [show ((p1 : Int) - (p1 : Int)) = 0 by omega, show ((q2 : Int) - (p2 : Int)) = (n2 : Int) by omega] at s1
        have a1 := fun t w => add_place t (p1 : Int) (p2 : Int) 0 (n2 : Int) (by omega) (by omega) (by omega) (by omega) w
        rw [show ((p1 : Int) + 0) = (p1 : Int) by omega, show ((p2 : Int) + (n2 : Int)) = (q2 : Int) by omega] at a1
        have e0 := eq_self 0 (by decide)
        have e1 := eq_self (n2 : Int) (by omega)
        have e2 := eq_self (p1 : Int) (by omega)
        have e3 := eq_self (q2 : Int) (by omega)
        rw [show (((0 : Nat) : Int)) = 0 from rfl]
        simp only [plV, Fl.F_zero] at s1 a1 e0 cG2 ⊢
        clear hq2 hadd2 hmono HVI hG cG
        go_wp2_with fail
        refine (cZ _).mono ?_
        rintro r w' ⟨rfl, rfl⟩
        go_wp2_with fail
        refine (cG2 _).mono ?_
        rintro r w' ⟨rfl, rfl⟩
        go_wp2
        go_ret
        exact ⟨rfl, below_dN (Below.refl _ _) _⟩
      · have dn : decide (0 < n1) = true := by simp; omega
        clear hadd2 hmono hn0 hG cG
        go_wp2_with fail
        refine (cZ _).mono ?_
        rintro r w' ⟨rfl, rfl⟩
        go_wp2
        go_ret
        exact ⟨rfl, below_dN (Below.refl _ _) _⟩
    · have ne0 : (FloatKind.f64.format.order (F (p1 : Int)) (F (q1 : Int)) != some Ordering.eq) = true := by
        rw [bne, eq0]; simp; omega
      rw [decide_eq_true (by omega)] at le
      clear hadd2 hmono eq0 hpq hG cG
      go_wp2
      go_ret
      exact ⟨rfl, below_dN (Below.refl _ _) _⟩
  · have dik : decide (k < i) = false := by simpa using hik
    have hle : i ≤ k := by omega
    have cI := well_take s i w (by omega)
    have cK := well_take s k w (by omega)
    cases hvi : Lib.validD (s.data.toList.take i) with
    | false =>
      rw [hvi] at cI
      clear hvi hik
      go_wp2_with fail
      refine cI.mono ?_
      rintro r w' ⟨rfl, rfl⟩
      go_wp2
      go_ret
      exact ⟨rfl, Below.refl _ _⟩
    | true =>
    rw [hvi] at cI
    have HVI := Lib.hid hvi
    clear hvi
    cases hvk : Lib.validD (s.data.toList.take k) with
    | false =>
      rw [hvk] at cK
      clear hvk hik
      go_wp2_with fail
      refine cI.mono ?_
      rintro r w' ⟨rfl, rfl⟩
      go_wp2_with fail
      refine cK.mono ?_
      rintro r w' ⟨rfl, rfl⟩
      go_wp2
      go_ret
      exact ⟨rfl, Below.refl _ _⟩
    | true =>
    rw [hvk] at cK
    clear hvk hik
    have hmono := M.pl_le (isOld v) s.data.toList i k hle
    have hadd := M.adds (isOld v) s.data.toList i k hle HVI.out
    have bP := pl_bound (isOld v) s i
    have bQ := pl_bound (isOld v) s k
    have cO := fun k hk w => of_in v s k w (by omega) hk
    have cY := fun w => way_any v (s.extract i k) w (extract_two_size s i k (by omega))
    have cZ := fun w => rway_any v (s.extract i k) w (extract_two_size s i k (by omega))
    simp only [extract_two] at cY cZ
    have bW := M.way_le (isOld v) ((s.data.toList.take k).drop i)
    rw [List.length_drop, List.length_take, ← sz_list] at bW
    have hG := goZ_two (isOld v) ((s.data.toList.take k).drop i)
    have cG := fun x y w (hx : x.natAbs ≤ 1000000) (hy : y.natAbs ≤ 1000000) => go_any v x y (s.extract i k) w (extract_two_size s i k (by omega)) hx hy
    simp only [extract_two] at cG
    have hadd2 : (M.way (isOld v) ((s.data.toList.take k).drop i)).1 = 0 → (M.pl (isOld v) s.data.toList k).2 = (M.pl (isOld v) s.data.toList i).2 + (M.way (isOld v) ((s.data.toList.take k).drop i)).2 := fun h => congrArg Prod.snd (hadd h)
    unfold M.le2 at hmono
    clear hadd
    generalize goZ (isOld v) ((s.data.toList.take k).drop i) = g at *
    generalize M.way (isOld v) ((s.data.toList.take k).drop i) = n at *
    generalize M.pl (isOld v) s.data.toList = f at *
    go_wp2_with fail
    refine cI.mono ?_
    rintro r w' ⟨rfl, rfl⟩
    go_wp2_with fail
    refine cK.mono ?_
    rintro r w' ⟨rfl, rfl⟩
    clear cI cK
    have z1 : (0 : Int) ≤ (i : Int) := by omega
    have z2 : (i : Int) ≤ (k : Int) := by omega
    have z3 : (k : Int) ≤ (s.size : Int) := by omega
    go_wp2_with fail
    go_quiet ((first | (go_at_call 10; exact Calls.quiet_of_same ((cY _).mono fun _ _ h => ⟨h.1, h.2.symm⟩)) | (go_at_call 13; exact Calls.quiet_of_same ((cO _ (by assumption) _).mono fun _ _ h => ⟨h.1, h.2.symm⟩))))
    clear cO cY
    generalize (f i).1 = p1 at *
    generalize (f i).2 = p2 at *
    generalize (f k).1 = q1 at *
    generalize (f k).2 = q2 at *
    obtain ⟨n1, n2⟩ := n
    simp only at cZ bW hG hadd2 ⊢
    have le := Fl.lt_F (p1 : Int) q1 (by omega) (by omega)
    have eq0 := Fl.eq_F (p1 : Int) q1 (by omega) (by omega)
    by_cases hpq : p1 = q1
    · subst hpq
      have ne0 : (FloatKind.f64.format.order (F (p1 : Int)) (F (p1 : Int)) != some Ordering.eq) = false := by
        rw [bne, eq0]; simp
      clear eq0 le
      by_cases hn0 : n1 = 0
      · subst hn0
        have hq2 : q2 = p2 + n2 := hadd2 rfl
        have cG2 := fun w => cG (p1 : Int) (p2 : Int) w (by omega) (by omega)
        simp only [hG] at cG2
        simp only [if_true, show ((p2 : Int) + (n2 : Int)) = (q2 : Int) by omega, show ((p1 : Int) + ((0 : Nat) : Int)) = (p1 : Int) by omega] at cG2
        have s1 := fun t w => sub_place t (p1 : Int) (q2 : Int) (p1 : Int) (p2 : Int) (by omega) (by omega) (by omega) (by omega) w
        rw [show ((p1 : Int) - (p1 : Int)) = 0 by omega, show ((q2 : Int) - (p2 : Int)) = (n2 : Int) by omega] at s1
        have a1 := fun t w => add_place t (p1 : Int) (p2 : Int) 0 (n2 : Int) (by omega) (by omega) (by omega) (by omega) w
        rw [show ((p1 : Int) + 0) = (p1 : Int) by omega, show ((p2 : Int) + (n2 : Int)) = (q2 : Int) by omega] at a1
        have e0 := eq_self 0 (by decide)
        have e1 := eq_self (n2 : Int) (by omega)
        have e2 := eq_self (p1 : Int) (by omega)
        have e3 := eq_self (q2 : Int) (by omega)
        rw [show (((0 : Nat) : Int)) = 0 from rfl]
        simp only [plV, Fl.F_zero] at s1 a1 e0 cG2 ⊢
        clear hq2 hadd2 hmono HVI hG cG
        go_wp2_with fail
        refine (cZ _).mono ?_
        rintro r w' ⟨rfl, rfl⟩
        go_wp2_with fail
        refine (cG2 _).mono ?_
        rintro r w' ⟨rfl, rfl⟩
        go_wp2
        go_ret
        exact ⟨rfl, below_dN (Below.refl _ _) _⟩
      · have dn : decide (0 < n1) = true := by simp; omega
        clear hadd2 hmono hn0 hG cG
        go_wp2_with fail
        refine (cZ _).mono ?_
        rintro r w' ⟨rfl, rfl⟩
        go_wp2
        go_ret
        exact ⟨rfl, below_dN (Below.refl _ _) _⟩
    · have ne0 : (FloatKind.f64.format.order (F (p1 : Int)) (F (q1 : Int)) != some Ordering.eq) = true := by
        rw [bne, eq0]; simp; omega
      rw [decide_eq_true (by omega)] at le
      clear hadd2 hmono eq0 hpq hG cG
      go_wp2
      go_ret
      exact ⟨rfl, below_dN (Below.refl _ _) _⟩

end Go.Proofs.Ythbmppkngaifmaa
