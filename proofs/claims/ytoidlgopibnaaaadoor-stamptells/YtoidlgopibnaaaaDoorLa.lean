/- The law StampBack: its walk. -/
import Derived.Test.YtoidlgopibnaaaaDoorWm
set_option linter.unusedVariables false
namespace Go.Proofs.YtoidlgopibnaaaaDoor
open Go.RowKit

abbrev Env (w : World) : Prop := Tab w

theorem dW_len (l : List UInt8) : (M.tz l).length ≤ l.length := by
  unfold M.tz
  rw [List.length_reverse]
  have := (List.dropWhile_sublist (fun x : UInt8 => x == 48) (l := l.reverse)).length_le
  rwa [List.length_reverse] at this
theorem ttx_len (y m d n se : Nat) (f : List UInt8) : (M.ttx y m d n se f).length ≤ 21 + f.length := by
  unfold M.ttx M.dot
  have := dW_len f
  split <;> simp only [List.length_append, List.length_cons, M.len_d2, M.len_d4, List.length_nil] <;> omega
theorem of_len {l a : List UInt8} (h : M.ofS l = some a) : a.length ≤ l.length + 21 := by
  unfold M.ofS at h
  split at h
  · cases h
  · rename_i X hX
    have hf := (M.y_rd hX).2
    split at h
    · split at h
      · unfold M.zt at h
        split at h
        · cases h
        · split at h
          · cases h
          · rw [← Option.some.inj h]
            have := ttx_len (M.zy X).1 (M.zy X).2.1 (M.zy X).2.2.1 (M.zy X).2.2.2 X.se X.fr
            omega
      · rw [← Option.some.inj h]; omega
    · cases h
theorem e2_size (n : Nat) : (bA (e2 n)).size = 2 := bA_size _
set_option maxRecDepth 100000 in
theorem back_long (s : ByteArray) (y m d : Nat) (w : World) (ht : Tab w) (hs : s.size ≤ maxLen) (h : 60 < s.size) : Calls Tryd.prog 4 #[.string s, .int .u16 y, .int .u8 m, .int .u8 d] w fun e w' => e = .returned (.bool true) ∧ Below w.heap.size w w' := by
  unfold maxLen at hs
  have hd : decide (60 < s.size) = true := decide_eq_true h
  have hd2 : decide ((60 : Int) < (s.size : Int)) = true := decide_eq_true (by omega)
  go_enter Tryd.func4, Tryd.ntmps4
  go_wp2_with fail
  refine (known_any _ ht).mono ?_
  rintro r w1 ⟨rfl, hb⟩
  go_wp2
  go_ret
  exact ⟨rfl, hb⟩
set_option maxRecDepth 100000 in
set_option maxHeartbeats 4000000 in
theorem back_core (s : ByteArray) (y m d : Nat) (w : World) (ht : Tab w) (hs : s.size ≤ 60) (hy : y ≤ 65535) (hm : m ≤ 255) (hd : d ≤ 255) : Calls Tryd.prog 4 #[.string s, .int .u16 y, .int .u8 m, .int .u8 d] w fun e w' => e = .returned (.bool true) ∧ Below w.heap.size w w' := by
  obtain ⟨Y, hY⟩ : ∃ Y, y % 10000 = Y := ⟨_, rfl⟩
  obtain ⟨Mm, hM⟩ : ∃ Mm, m % 14 = Mm := ⟨_, rfl⟩
  obtain ⟨D, hD⟩ : ∃ D, d % 34 = D := ⟨_, rfl⟩
  obtain ⟨q, hq⟩ : ∃ q, Y / 100 = q := ⟨_, rfl⟩
  have y1 : Int.tmod (y : Int) 10000 = (Y : Int) := by rw [← hY]; exact tm (k := 10000) (by omega)
  have y2 : (y : Int) % 10000 = (Y : Int) := by rw [← hY]; rfl
  have m1 : Int.tmod (m : Int) 14 = (Mm : Int) := by rw [← hM]; exact tm (k := 14) (by omega)
  have m2 : (m : Int) % 14 = (Mm : Int) := by rw [← hM]; rfl
  have d1 : Int.tmod (d : Int) 34 = (D : Int) := by rw [← hD]; exact tm (k := 34) (by omega)
  have d2 : (d : Int) % 34 = (D : Int) := by rw [← hD]; rfl
  have q1 : (Y : Int) / 100 = (q : Int) := by rw [← hq]; rfl
  have hY9 : Y < 10000 := by omega
  have hM9 : Mm < 14 := by omega
  have hD9 : D < 34 := by omega
  have hq9 : q < 100 := by omega
  have c0 := fun W (hT : Tab W) => of_any s W hT (by omega)
  have cQ := fun W => two_any q W (by omega)
  have cY := fun W => two_any Y W (by omega)
  have cM := fun W => two_any Mm W (by omega)
  have cD := fun W => two_any D W (by omega)
  have zQ : (bA (e2 q)).size = 2 := e2_size _
  have zY : (bA (e2 Y)).size = 2 := e2_size _
  have zM : (bA (e2 Mm)).size = 2 := e2_size _
  have zD : (bA (e2 D)).size = 2 := e2_size _
  obtain ⟨TL, hTL⟩ : ∃ TL, M.d4 Y ++ (45 :: (M.d2 Mm ++ (45 :: M.d2 D))) = TL := ⟨_, rfl⟩
  have hT : bA (e2 q) ++ bA (e2 Y) ++ ⟨#[45]⟩ ++ bA (e2 Mm) ++ ⟨#[45]⟩ ++ bA (e2 D) = bA TL := by
    apply eq_bA
    simp only [append_list, bA_toList]
    rw [← hTL, ← e2_year Y hY9, hq, e2_small (n := Mm) (by omega), e2_small (n := D) (by omega)]
    simp
  have hTz : (bA TL).size = 10 := by rw [bA_size, ← hTL]; simp [M.len_d2, M.len_d4]
  have hO : M.ofS TL = if 1 ≤ D ∧ D ≤ M.days Y Mm then some TL else none := by rw [← hTL]; exact M.of_date hY9 (by omega) (by omega)
  have hU : (bA TL).extract 0 9 = bA (TL.take 9) := by apply eq_bA; rw [extract_take, bA_toList]
  have hUO : M.ofS (TL.take 9) = none := by
    rw [← hTL]
    exact M.of_short (y := Y) (m := Mm) (d := D / 10) hY9 (by omega) (by omega)
  have hUl : (TL.take 9).length ≤ 1000 := by rw [List.length_take]; omega
  have hTl : TL.length ≤ 1000 := by rw [← bA_size, hTz]; omega
  have cT := fun W (hT : Tab W) => kn TL _ rfl W hT hTl
  have cU := fun W (hT : Tab W) => kn (TL.take 9) _ rfl W hT hUl
  rw [hUO] at cU
  have cU : ∀ W, Tab W → Calls Tryd.prog 10 #[.string (bA (TL.take 9))] W fun e w' => e = .returned (.tuple #[.string ⟨#[]⟩, .bool false]) ∧ Below W.heap.size W w' := cU
  have hne : ∀ a, M.ofS s.data.toList = some a → (∀ W, Tab W → Calls Tryd.prog 10 #[.string (bA a)] W fun e w' => e = .returned (.tuple #[.string (bA a), .bool true]) ∧ Below W.heap.size W w') := fun a ha W hT => kn a _ (by rw [M.of_of ha]; rfl) W hT (by have := of_len ha; rw [← sz_list] at this; omega)
  have cDy := fun W => days_nat Y Mm W (by omega)
  have hs2 : decide (60 < s.size) = false := decide_eq_false (by omega)
  have hs3 : decide ((60 : Int) < (s.size : Int)) = false := decide_eq_false (by omega)
  have HT := Lib.hid hT
  have HTZ := Lib.hid hTz
  have HO := Lib.hid hO
  generalize bA (TL.take 9) = U at *
  generalize bA (e2 q) = AQ at *
  generalize bA (e2 Y) = AY at *
  generalize bA (e2 Mm) = AM at *
  generalize bA (e2 D) = AD at *
  have a1 : ∀ W, (Op.stringOp .add (AQ) (AY)).run Tryd.prog W = .ok (.string ((AQ) ++ AY)) W := fun W => run_string_add_sum _ _ _ (by have z2 : (⟨#[45]⟩ : ByteArray).size = 1 := rfl; have z4 : (⟨#[45]⟩ : ByteArray).size = 1 := rfl; first | omega | (simp only [append_sz]; omega))
  have a2 : ∀ W, (Op.stringOp .add (AQ ++ AY) (⟨#[45]⟩)).run Tryd.prog W = .ok (.string ((AQ ++ AY) ++ ⟨#[45]⟩)) W := fun W => run_string_add_sum _ _ _ (by have z2 : (⟨#[45]⟩ : ByteArray).size = 1 := rfl; have z4 : (⟨#[45]⟩ : ByteArray).size = 1 := rfl; first | omega | (simp only [append_sz]; omega))
  have a3 : ∀ W, (Op.stringOp .add (AQ ++ AY ++ ⟨#[45]⟩) (AM)).run Tryd.prog W = .ok (.string ((AQ ++ AY ++ ⟨#[45]⟩) ++ AM)) W := fun W => run_string_add_sum _ _ _ (by have z2 : (⟨#[45]⟩ : ByteArray).size = 1 := rfl; have z4 : (⟨#[45]⟩ : ByteArray).size = 1 := rfl; first | omega | (simp only [append_sz]; omega))
  have a4 : ∀ W, (Op.stringOp .add (AQ ++ AY ++ ⟨#[45]⟩ ++ AM) (⟨#[45]⟩)).run Tryd.prog W = .ok (.string ((AQ ++ AY ++ ⟨#[45]⟩ ++ AM) ++ ⟨#[45]⟩)) W := fun W => run_string_add_sum _ _ _ (by have z2 : (⟨#[45]⟩ : ByteArray).size = 1 := rfl; have z4 : (⟨#[45]⟩ : ByteArray).size = 1 := rfl; first | omega | (simp only [append_sz]; omega))
  have a5 : ∀ W, (Op.stringOp .add (AQ ++ AY ++ ⟨#[45]⟩ ++ AM ++ ⟨#[45]⟩) (AD)).run Tryd.prog W = .ok (.string ((AQ ++ AY ++ ⟨#[45]⟩ ++ AM ++ ⟨#[45]⟩) ++ AD)) W := fun W => run_string_add_sum _ _ _ (by have z2 : (⟨#[45]⟩ : ByteArray).size = 1 := rfl; have z4 : (⟨#[45]⟩ : ByteArray).size = 1 := rfl; first | omega | (simp only [append_sz]; omega))
  have zT : (AQ ++ AY ++ ⟨#[45]⟩ ++ AM ++ ⟨#[45]⟩ ++ AD).size = 10 := by rw [HT.out]; exact HTZ.out
  have HZT := Lib.hid zT
  generalize M.days Y Mm = N at *
  clear hT hTz hO hUO hUl hTl hTL hY hM hD hq hs zT zQ zY zM zD
  go_enter Tryd.func4, Tryd.ntmps4
  go_wp2_with fail
  refine (known_any _ ht).mono ?_
  rintro r w1 ⟨rfl, hb⟩
  have B1 : Below w.heap.size w w1 := hb
  have T1 : Tab w1 := ht.next B1
  clear hb
  cases hOs : M.ofS s.data.toList with
  | none =>
    rw [hOs] at c0
    have HOS := Lib.hid hOs
    clear hOs
    clear hne
    have c0 : ∀ W, Tab W → Calls Tryd.prog 10 #[.string s] W fun e w' => e = .returned (.tuple #[.string ⟨#[]⟩, .bool false]) ∧ Below W.heap.size W w' := c0
    go_wp2_with fail
    refine (c0 _ T1).mono ?_
    rintro r w2 ⟨rfl, hb⟩
    have B2 : Below w.heap.size w w2 := B1.trans (hb.mono B1.size)
    have T2 : Tab w2 := ht.next B2
    clear hb B1 T1
    go_wp2_with fail
    refine (cQ _).mono ?_
    rintro r w3 ⟨rfl, hb⟩
    have B3 : Below w.heap.size w w3 := B2.trans (hb.mono B2.size)
    have T3 : Tab w3 := ht.next B3
    clear hb B2 T2
    go_wp2_with fail
    refine (cY _).mono ?_
    rintro r w4 ⟨rfl, hb⟩
    have B4 : Below w.heap.size w w4 := B3.trans (hb.mono B3.size)
    have T4 : Tab w4 := ht.next B4
    clear hb B3 T3
    go_wp2_with fail
    refine (cM _).mono ?_
    rintro r w5 ⟨rfl, hb⟩
    have B5 : Below w.heap.size w w5 := B4.trans (hb.mono B4.size)
    have T5 : Tab w5 := ht.next B5
    clear hb B4 T4
    go_wp2_with fail
    refine (cD _).mono ?_
    rintro r w6 ⟨rfl, hb⟩
    have B6 : Below w.heap.size w w6 := B5.trans (hb.mono B5.size)
    have T6 : Tab w6 := ht.next B6
    clear hb B5 T5
    go_wp2_with fail
    rw [HT.out]
    have h9 : 9 ≤ (bA TL).size := by rw [HTZ.out]; omega
    have h9i : (9 : Int) ≤ ((bA TL).size : Int) := by omega
    clear a1 a2 a3 a4 a5 cQ cY cM cD HT HZT
    have hO2 := HO.out
    by_cases hD1 : 1 ≤ D
    · have g1 : decide ((1 : Int) ≤ (D : Int)) = true := decide_eq_true (by omega)
      by_cases hDN : D ≤ N
      · have g2 : decide ((D : Int) ≤ (N : Int)) = true := decide_eq_true (by omega)
        have g3 : decide (D ≤ N) = true := decide_eq_true hDN
        rw [if_pos ⟨hD1, hDN⟩] at hO2
        rw [hO2] at cT
        have cT : ∀ W, Tab W → Calls Tryd.prog 10 #[.string (bA TL)] W fun e w' => e = .returned (.tuple #[.string (bA TL), .bool true]) ∧ Below W.heap.size W w' := cT
        clear hO2
        generalize bA TL = TT at *
        refine (cT _ T6).mono ?_
        rintro r w7 ⟨rfl, hb⟩
        have B7 : Below w.heap.size w w7 := B6.trans (hb.mono B6.size)
        have T7 : Tab w7 := ht.next B7
        clear hb cT B6 T6
        go_wp2_with fail
        refine (cU _ T7).mono ?_
        rintro r w8 ⟨rfl, hb⟩
        have B8 : Below w.heap.size w w8 := B7.trans (hb.mono B7.size)
        have T8 : Tab w8 := ht.next B8
        clear hb B7 T7
        go_wp2_with fail
        refine (cDy _).mono ?_
        rintro r w' ⟨rfl, rfl⟩
        go_wp2
        go_ret
        exact ⟨rfl, B8⟩
      · have g2 : decide ((D : Int) ≤ (N : Int)) = false := decide_eq_false (by omega)
        have g3 : decide (D ≤ N) = false := decide_eq_false hDN
        rw [if_neg (fun k => hDN k.2)] at hO2
        rw [hO2] at cT
        have cT : ∀ W, Tab W → Calls Tryd.prog 10 #[.string (bA TL)] W fun e w' => e = .returned (.tuple #[.string ⟨#[]⟩, .bool false]) ∧ Below W.heap.size W w' := cT
        clear hO2
        generalize bA TL = TT at *
        refine (cT _ T6).mono ?_
        rintro r w7 ⟨rfl, hb⟩
        have B7 : Below w.heap.size w w7 := B6.trans (hb.mono B6.size)
        have T7 : Tab w7 := ht.next B7
        clear hb cT B6 T6
        go_wp2_with fail
        refine (cU _ T7).mono ?_
        rintro r w8 ⟨rfl, hb⟩
        have B8 : Below w.heap.size w w8 := B7.trans (hb.mono B7.size)
        have T8 : Tab w8 := ht.next B8
        clear hb B7 T7
        go_wp2_with fail
        refine (cDy _).mono ?_
        rintro r w' ⟨rfl, rfl⟩
        go_wp2
        go_ret
        exact ⟨rfl, B8⟩
    · have g1 : decide ((1 : Int) ≤ (D : Int)) = false := decide_eq_false (by omega)
      rw [if_neg (fun k => hD1 k.1)] at hO2
      rw [hO2] at cT
      have cT : ∀ W, Tab W → Calls Tryd.prog 10 #[.string (bA TL)] W fun e w' => e = .returned (.tuple #[.string ⟨#[]⟩, .bool false]) ∧ Below W.heap.size W w' := cT
      clear hO2
      generalize bA TL = TT at *
      refine (cT _ T6).mono ?_
      rintro r w7 ⟨rfl, hb⟩
      have B7 : Below w.heap.size w w7 := B6.trans (hb.mono B6.size)
      have T7 : Tab w7 := ht.next B7
      clear hb cT B6 T6
      go_wp2_with fail
      refine (cU _ T7).mono ?_
      rintro r w8 ⟨rfl, hb⟩
      have B8 : Below w.heap.size w w8 := B7.trans (hb.mono B7.size)
      have T8 : Tab w8 := ht.next B8
      clear hb B7 T7
      go_wp2
      go_ret
      exact ⟨rfl, B8⟩
  | some a =>
    rw [hOs] at c0
    have HOS := Lib.hid hOs
    have cA := hne _ HOS.out
    clear hOs
    clear hne
    have c0 : ∀ W, Tab W → Calls Tryd.prog 10 #[.string s] W fun e w' => e = .returned (.tuple #[.string (bA a), .bool true]) ∧ Below W.heap.size W w' := c0
    generalize bA a = A at *
    go_wp2_with fail
    refine (c0 _ T1).mono ?_
    rintro r w2 ⟨rfl, hb⟩
    have B2 : Below w.heap.size w w2 := B1.trans (hb.mono B1.size)
    have T2 : Tab w2 := ht.next B2
    clear hb B1 T1
    go_wp2_with fail
    refine (cA _ T2).mono ?_
    rintro r w3 ⟨rfl, hb⟩
    have B3 : Below w.heap.size w w3 := B2.trans (hb.mono B2.size)
    have T3 : Tab w3 := ht.next B3
    clear hb B2 T2
    go_wp2_with fail
    refine (cQ _).mono ?_
    rintro r w4 ⟨rfl, hb⟩
    have B4 : Below w.heap.size w w4 := B3.trans (hb.mono B3.size)
    have T4 : Tab w4 := ht.next B4
    clear hb B3 T3
    go_wp2_with fail
    refine (cY _).mono ?_
    rintro r w5 ⟨rfl, hb⟩
    have B5 : Below w.heap.size w w5 := B4.trans (hb.mono B4.size)
    have T5 : Tab w5 := ht.next B5
    clear hb B4 T4
    go_wp2_with fail
    refine (cM _).mono ?_
    rintro r w6 ⟨rfl, hb⟩
    have B6 : Below w.heap.size w w6 := B5.trans (hb.mono B5.size)
    have T6 : Tab w6 := ht.next B6
    clear hb B5 T5
    go_wp2_with fail
    refine (cD _).mono ?_
    rintro r w7 ⟨rfl, hb⟩
    have B7 : Below w.heap.size w w7 := B6.trans (hb.mono B6.size)
    have T7 : Tab w7 := ht.next B7
    clear hb B6 T6
    go_wp2_with fail
    rw [HT.out]
    have h9 : 9 ≤ (bA TL).size := by rw [HTZ.out]; omega
    have h9i : (9 : Int) ≤ ((bA TL).size : Int) := by omega
    clear a1 a2 a3 a4 a5 cQ cY cM cD HT HZT
    have hO2 := HO.out
    by_cases hD1 : 1 ≤ D
    · have g1 : decide ((1 : Int) ≤ (D : Int)) = true := decide_eq_true (by omega)
      by_cases hDN : D ≤ N
      · have g2 : decide ((D : Int) ≤ (N : Int)) = true := decide_eq_true (by omega)
        have g3 : decide (D ≤ N) = true := decide_eq_true hDN
        rw [if_pos ⟨hD1, hDN⟩] at hO2
        rw [hO2] at cT
        have cT : ∀ W, Tab W → Calls Tryd.prog 10 #[.string (bA TL)] W fun e w' => e = .returned (.tuple #[.string (bA TL), .bool true]) ∧ Below W.heap.size W w' := cT
        clear hO2
        generalize bA TL = TT at *
        refine (cT _ T7).mono ?_
        rintro r w8 ⟨rfl, hb⟩
        have B8 : Below w.heap.size w w8 := B7.trans (hb.mono B7.size)
        have T8 : Tab w8 := ht.next B8
        clear hb cT B7 T7
        go_wp2_with fail
        refine (cU _ T8).mono ?_
        rintro r w9 ⟨rfl, hb⟩
        have B9 : Below w.heap.size w w9 := B8.trans (hb.mono B8.size)
        have T9 : Tab w9 := ht.next B9
        clear hb B8 T8
        go_wp2_with fail
        refine (cDy _).mono ?_
        rintro r w' ⟨rfl, rfl⟩
        go_wp2
        go_ret
        exact ⟨rfl, B9⟩
      · have g2 : decide ((D : Int) ≤ (N : Int)) = false := decide_eq_false (by omega)
        have g3 : decide (D ≤ N) = false := decide_eq_false hDN
        rw [if_neg (fun k => hDN k.2)] at hO2
        rw [hO2] at cT
        have cT : ∀ W, Tab W → Calls Tryd.prog 10 #[.string (bA TL)] W fun e w' => e = .returned (.tuple #[.string ⟨#[]⟩, .bool false]) ∧ Below W.heap.size W w' := cT
        clear hO2
        generalize bA TL = TT at *
        refine (cT _ T7).mono ?_
        rintro r w8 ⟨rfl, hb⟩
        have B8 : Below w.heap.size w w8 := B7.trans (hb.mono B7.size)
        have T8 : Tab w8 := ht.next B8
        clear hb cT B7 T7
        go_wp2_with fail
        refine (cU _ T8).mono ?_
        rintro r w9 ⟨rfl, hb⟩
        have B9 : Below w.heap.size w w9 := B8.trans (hb.mono B8.size)
        have T9 : Tab w9 := ht.next B9
        clear hb B8 T8
        go_wp2_with fail
        refine (cDy _).mono ?_
        rintro r w' ⟨rfl, rfl⟩
        go_wp2
        go_ret
        exact ⟨rfl, B9⟩
    · have g1 : decide ((1 : Int) ≤ (D : Int)) = false := decide_eq_false (by omega)
      rw [if_neg (fun k => hD1 k.1)] at hO2
      rw [hO2] at cT
      have cT : ∀ W, Tab W → Calls Tryd.prog 10 #[.string (bA TL)] W fun e w' => e = .returned (.tuple #[.string ⟨#[]⟩, .bool false]) ∧ Below W.heap.size W w' := cT
      clear hO2
      generalize bA TL = TT at *
      refine (cT _ T7).mono ?_
      rintro r w8 ⟨rfl, hb⟩
      have B8 : Below w.heap.size w w8 := B7.trans (hb.mono B7.size)
      have T8 : Tab w8 := ht.next B8
      clear hb cT B7 T7
      go_wp2_with fail
      refine (cU _ T8).mono ?_
      rintro r w9 ⟨rfl, hb⟩
      have B9 : Below w.heap.size w w9 := B8.trans (hb.mono B8.size)
      have T9 : Tab w9 := ht.next B9
      clear hb B8 T8
      go_wp2
      go_ret
      exact ⟨rfl, B9⟩
theorem back_any (s : ByteArray) (y m d : Nat) (w : World) (hE : Env w) (hs : s.size ≤ maxLen) (hy : y ≤ 65535) (hm : m ≤ 255) (hd : d ≤ 255) : Calls Tryd.prog 4 #[.string s, .int .u16 y, .int .u8 m, .int .u8 d] w fun e w' => e = .returned (.bool true) ∧ Below w.heap.size w w' := by
  by_cases h : s.size ≤ 60
  · exact back_core s y m d w hE h hy hm hd
  · exact back_long s y m d w hE hs (by omega)
end Go.Proofs.YtoidlgopibnaaaaDoor
