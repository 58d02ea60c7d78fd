/- The law BrkBegins: its walk. -/
import Derived.Test.YtnmfiadljhbmiaaDoorWj
import Derived.Test.YtnmfiadljhbmiaaDoorWh
import Derived.Test.YtnmfiadljhbmiaaDoorRd
set_option linter.unusedVariables false
namespace Go.Proofs.YtnmfiadljhbmiaaDoor
open Go.RowKit

theorem below2 {w a b c : World} (h : Below w.heap.size w a) (h1 : Below a.heap.size a b) (h2 : Below b.heap.size b c) : Below w.heap.size w c := (h.trans (h1.mono h.size)).trans (h2.mono (Nat.le_trans h.size h1.size))

set_option maxRecDepth 100000 in
set_option maxHeartbeats 2000000 in
theorem begins_any (n : Nat) (rest : ByteArray) (points tab : Bool) (w : World) (hT : Tabs w) (hn : n ≤ 255) (hs : rest.size ≤ maxLen) :
    Calls Tryd.prog 8 #[.int .u8 n, .string rest, .bool points, .bool tab] w fun r w' => r = .returned (.bool true) ∧ Below w.heap.size w w' := by
  unfold maxLen at hs
  have hs2 : rest.size ≤ 9223372036854775807 := by omega
  clear hs
  go_enter Tryd.func8, Tryd.ntmps8
  go_wp2_with fail
  refine (known_any w hT).mono ?_
  rintro r w1 ⟨rfl, b1⟩
  by_cases h3 : 50 < rest.size
  · have d3 : decide ((50 : Int) < (rest.size : Int)) = true := by simp; omega
    go_wp2
    go_ret
    exact ⟨rfl, b1⟩
  have d3 : decide ((50 : Int) < (rest.size : Int)) = false := by simp; omega
  have hs3 : rest.size ≤ 50 := by omega
  clear h3
  go_wp2_with fail
  go_loop [9] (fun v => ∃ j : Nat, v = .int .i64 j ∧ j ≤ rest.size) (fun v => rest.size - (intOf v).toNat)
  case atStart => exact ⟨0, rfl, Nat.zero_le _⟩
  case round =>
    obtain ⟨j, rfl, hj⟩ := hrel
    by_cases hjl : j < rest.size
    · have d4 : decide (j < rest.size) = true := by simpa using hjl
      have cJ := rbreak_in 11 rest j w1 hjl (by omega)
      obtain ⟨m, hm⟩ : ∃ m, M.brkN (isOld 11) (rest.data.toList.drop j) = m := ⟨_, rfl⟩
      rw [hm] at cJ
      clear hm
      by_cases hm0 : m = 0
      · subst hm0
        go_wp2_with fail
        refine cJ.mono ?_
        rintro r w' ⟨rfl, rfl⟩
        go_wp2
        go_round
        case rel => exact ⟨j + 1, by go_num, by omega⟩
        case measure => simp [intOf]; omega
      · have d5 : 0 < m := by omega
        clear hm0
        go_wp2_with fail
        refine cJ.mono ?_
        rintro r w' ⟨rfl, rfl⟩
        go_wp2
        go_ret
        exact ⟨rfl, b1⟩
    · obtain rfl : j = rest.size := by omega
      have d4 : decide (rest.size < rest.size) = false := by simp
      clear hjl
      obtain ⟨k, hk⟩ : ∃ k, n % 40 = k := ⟨_, rfl⟩
      have hk40 : k < 40 := by omega
      have hk2 : ((n : Int) % 40) = (k : Int) := by omega
      go_wp2_with fail
      clear hk hk2
      go_loop [11, 12] (fun sv v => ∃ (j : Nat) (S : ByteArray), sv = .string S ∧ v = .int .i64 j ∧ j ≤ k ∧ S.size ≤ j ∧ Hid (S.data.toList = List.replicate j 32)) (fun _ v => k - (intOf v).toNat)
      case atStart => exact ⟨0, ⟨#[]⟩, rfl, rfl, Nat.zero_le _, Nat.le_refl _, rfl⟩
      case round =>
        obtain ⟨j, S, rfl, rfl, hjk, hSz, HS⟩ := hrel
        by_cases hjl : j < k
        · have d5 : decide (j < k) = true := by simpa using hjl
          have HA := Lib.hid (append_list S ⟨#[32]⟩)
          have HZ := Lib.hid (append_sz S ⟨#[32]⟩)
          go_wp2
          go_round
          case rel => exact ⟨j + 1, S ++ ⟨#[32]⟩, rfl, by go_num, by omega, by rw [HZ.out]; show S.size + 1 ≤ j + 1; omega, by rw [Hid, HA.out, HS.out, List.replicate_succ']⟩
          case measure => simp [intOf]; omega
        · obtain rfl : j = k := by omega
          have d5 : decide (j < j) = false := by simp
          clear hjl
          cases points
          · cases tab
            · go_wp2_with fail
              generalize hA : ByteArray.mk #[45, 45, 45] ++ ByteArray.mk #[32] ++ rest = A
              generalize hB : S ++ ByteArray.mk #[120] ++ rest = B
              have fA : A.data.toList = mB false ++ gB false ++ rest.data.toList := by rw [← hA, append_list, append_list]; rfl
              have fB : B.data.toList = List.replicate j 32 ++ [120] ++ rest.data.toList := by rw [← hB, append_list, append_list, HS.out]
              have zA : A.size ≤ 60 := by rw [← hA, append_sz, append_sz]; show 3 + 1 + rest.size ≤ 60; omega
              have zB : B.size ≤ 100 := by rw [← hB, append_sz, append_sz]; show S.size + 1 + rest.size ≤ 100; omega
              have c1 := fun w => mark_whole A w (by omega)
              simp only [fA, lemA, show wZ false = 1 from rfl] at c1
              have c2 := fun w => mark_whole ⟨#[45, 45, 45]⟩ w (by decide)
              simp only [show mkL (ByteArray.mk #[45, 45, 45]).data.toList = 1 from lemB false, show (ByteArray.mk #[45, 45, 45]).size = 3 from rfl] at c2
              have c5 := fun w => indent_whole B w (by omega)
              simp only [fB, lemE] at c5
              have c6 := fun w => blank_whole B w (by omega)
              simp only [fB, lemF] at c6
              have c7 := fun w => blank_whole S w (by omega)
              simp only [HS.out, lemG] at c7
              have c9 := fun w => blank_whole A w (by omega)
              simp only [fA, lemI] at c9
              have HFA := Lib.hid fA
              clear fA fB hA hB
              refine (wholeOf_any A _).mono ?_
              rintro r w2 ⟨rfl, e1⟩
              go_wp2_with fail
              refine (c1 _).mono ?_
              rintro r w3 ⟨rfl, e2⟩
              have B3 := below2 b1 e1 e2
              clear e1 e2 c1
              go_wp2_with fail
              refine (wholeOf_any ⟨#[45, 45, 45]⟩ _).mono ?_
              rintro r w4 ⟨rfl, e1⟩
              go_wp2_with fail
              refine (c2 _).mono ?_
              rintro r w5 ⟨rfl, e2⟩
              have B5 := below2 B3 e1 e2
              clear e1 e2 c2
              go_wp2_with fail
              generalize hC : ByteArray.mk #[45, 45, 45] ++ ByteArray.mk #[120] ++ rest = C
              have zC : C.size ≤ 60 := by rw [← hC, append_sz, append_sz]; show 3 + 1 + rest.size ≤ 60; omega
              have c3 := fun w => mark_whole C w (by omega)
              have fC : C.data.toList = mB false ++ [120] ++ rest.data.toList := by rw [← hC, append_list, append_list]; rfl
              simp only [fC, lemC] at c3
              clear fC hC
              refine (wholeOf_any C _).mono ?_
              rintro r w6 ⟨rfl, e1⟩
              go_wp2_with fail
              refine (c3 _).mono ?_
              rintro r w7 ⟨rfl, e2⟩
              have B7 := below2 B5 e1 e2
              clear e1 e2 c3
              go_wp2_with fail
              generalize hD : ByteArray.mk #[32] ++ A = D
              have zD : D.size ≤ 70 := by rw [← hD, append_sz]; show 1 + A.size ≤ 70; omega
              have c4 := fun w => mark_whole D w (by omega)
              have fD : D.data.toList = [32] ++ (mB false ++ gB false ++ rest.data.toList) := by rw [← hD, append_list, HFA.out]
              simp only [fD, lemD] at c4
              clear fD hD
              refine (wholeOf_any D _).mono ?_
              rintro r w8 ⟨rfl, e1⟩
              go_wp2_with fail
              refine (c4 _).mono ?_
              rintro r w9 ⟨rfl, e2⟩
              have B9 := below2 B7 e1 e2
              clear e1 e2 c4
              go_wp2_with fail
              refine (wholeOf_any B _).mono ?_
              rintro r w10 ⟨rfl, e1⟩
              go_wp2_with fail
              refine (c5 _).mono ?_
              rintro r w11 ⟨rfl, e2⟩
              have B11 := below2 B9 e1 e2
              clear e1 e2 c5
              go_wp2_with fail
              refine (wholeOf_any B _).mono ?_
              rintro r w12 ⟨rfl, e1⟩
              go_wp2_with fail
              refine (c6 _).mono ?_
              rintro r w13 ⟨rfl, e2⟩
              have B13 := below2 B11 e1 e2
              clear e1 e2 c6
              go_wp2_with fail
              refine (wholeOf_any S _).mono ?_
              rintro r w14 ⟨rfl, e1⟩
              go_wp2_with fail
              refine (c7 _).mono ?_
              rintro r w15 ⟨rfl, e2⟩
              have B15 := below2 B13 e1 e2
              clear e1 e2 c7
              go_wp2_with fail
              generalize hE : S ++ ByteArray.mk #[32] = E
              have zE : E.size ≤ 60 := by rw [← hE, append_sz]; show S.size + 1 ≤ 60; omega
              have c8 := fun w => blank_whole E w (by omega)
              have fE : E.data.toList = List.replicate j 32 ++ gB false := by rw [← hE, append_list, HS.out]; rfl
              simp only [fE, lemH] at c8
              clear fE hE
              refine (wholeOf_any E _).mono ?_
              rintro r w16 ⟨rfl, e1⟩
              go_wp2_with fail
              refine (c8 _).mono ?_
              rintro r w17 ⟨rfl, e2⟩
              have B17 := below2 B15 e1 e2
              clear e1 e2 c8
              go_wp2_with fail
              refine (wholeOf_any A _).mono ?_
              rintro r w18 ⟨rfl, e1⟩
              go_wp2_with fail
              refine (c9 _).mono ?_
              rintro r w19 ⟨rfl, e2⟩
              have B19 := below2 B17 e1 e2
              clear e1 e2 c9
              go_wp2
              go_ret
              exact ⟨rfl, B19⟩
            · go_wp2_with fail
              generalize hA : ByteArray.mk #[45, 45, 45] ++ ByteArray.mk #[9] ++ rest = A
              generalize hB : S ++ ByteArray.mk #[120] ++ rest = B
              have fA : A.data.toList = mB false ++ gB true ++ rest.data.toList := by rw [← hA, append_list, append_list]; rfl
              have fB : B.data.toList = List.replicate j 32 ++ [120] ++ rest.data.toList := by rw [← hB, append_list, append_list, HS.out]
              have zA : A.size ≤ 60 := by rw [← hA, append_sz, append_sz]; show 3 + 1 + rest.size ≤ 60; omega
              have zB : B.size ≤ 100 := by rw [← hB, append_sz, append_sz]; show S.size + 1 + rest.size ≤ 100; omega
              have c1 := fun w => mark_whole A w (by omega)
              simp only [fA, lemA, show wZ false = 1 from rfl] at c1
              have c2 := fun w => mark_whole ⟨#[45, 45, 45]⟩ w (by decide)
              simp only [show mkL (ByteArray.mk #[45, 45, 45]).data.toList = 1 from lemB false, show (ByteArray.mk #[45, 45, 45]).size = 3 from rfl] at c2
              have c5 := fun w => indent_whole B w (by omega)
              simp only [fB, lemE] at c5
              have c6 := fun w => blank_whole B w (by omega)
              simp only [fB, lemF] at c6
              have c7 := fun w => blank_whole S w (by omega)
              simp only [HS.out, lemG] at c7
              have c9 := fun w => blank_whole A w (by omega)
              simp only [fA, lemI] at c9
              have HFA := Lib.hid fA
              clear fA fB hA hB
              refine (wholeOf_any A _).mono ?_
              rintro r w2 ⟨rfl, e1⟩
              go_wp2_with fail
              refine (c1 _).mono ?_
              rintro r w3 ⟨rfl, e2⟩
              have B3 := below2 b1 e1 e2
              clear e1 e2 c1
              go_wp2_with fail
              refine (wholeOf_any ⟨#[45, 45, 45]⟩ _).mono ?_
              rintro r w4 ⟨rfl, e1⟩
              go_wp2_with fail
              refine (c2 _).mono ?_
              rintro r w5 ⟨rfl, e2⟩
              have B5 := below2 B3 e1 e2
              clear e1 e2 c2
              go_wp2_with fail
              generalize hC : ByteArray.mk #[45, 45, 45] ++ ByteArray.mk #[120] ++ rest = C
              have zC : C.size ≤ 60 := by rw [← hC, append_sz, append_sz]; show 3 + 1 + rest.size ≤ 60; omega
              have c3 := fun w => mark_whole C w (by omega)
              have fC : C.data.toList = mB false ++ [120] ++ rest.data.toList := by rw [← hC, append_list, append_list]; rfl
              simp only [fC, lemC] at c3
              clear fC hC
              refine (wholeOf_any C _).mono ?_
              rintro r w6 ⟨rfl, e1⟩
              go_wp2_with fail
              refine (c3 _).mono ?_
              rintro r w7 ⟨rfl, e2⟩
              have B7 := below2 B5 e1 e2
              clear e1 e2 c3
              go_wp2_with fail
              generalize hD : ByteArray.mk #[32] ++ A = D
              have zD : D.size ≤ 70 := by rw [← hD, append_sz]; show 1 + A.size ≤ 70; omega
              have c4 := fun w => mark_whole D w (by omega)
              have fD : D.data.toList = [32] ++ (mB false ++ gB true ++ rest.data.toList) := by rw [← hD, append_list, HFA.out]
              simp only [fD, lemD] at c4
              clear fD hD
              refine (wholeOf_any D _).mono ?_
              rintro r w8 ⟨rfl, e1⟩
              go_wp2_with fail
              refine (c4 _).mono ?_
              rintro r w9 ⟨rfl, e2⟩
              have B9 := below2 B7 e1 e2
              clear e1 e2 c4
              go_wp2_with fail
              refine (wholeOf_any B _).mono ?_
              rintro r w10 ⟨rfl, e1⟩
              go_wp2_with fail
              refine (c5 _).mono ?_
              rintro r w11 ⟨rfl, e2⟩
              have B11 := below2 B9 e1 e2
              clear e1 e2 c5
              go_wp2_with fail
              refine (wholeOf_any B _).mono ?_
              rintro r w12 ⟨rfl, e1⟩
              go_wp2_with fail
              refine (c6 _).mono ?_
              rintro r w13 ⟨rfl, e2⟩
              have B13 := below2 B11 e1 e2
              clear e1 e2 c6
              go_wp2_with fail
              refine (wholeOf_any S _).mono ?_
              rintro r w14 ⟨rfl, e1⟩
              go_wp2_with fail
              refine (c7 _).mono ?_
              rintro r w15 ⟨rfl, e2⟩
              have B15 := below2 B13 e1 e2
              clear e1 e2 c7
              go_wp2_with fail
              generalize hE : S ++ ByteArray.mk #[9] = E
              have zE : E.size ≤ 60 := by rw [← hE, append_sz]; show S.size + 1 ≤ 60; omega
              have c8 := fun w => blank_whole E w (by omega)
              have fE : E.data.toList = List.replicate j 32 ++ gB true := by rw [← hE, append_list, HS.out]; rfl
              simp only [fE, lemH] at c8
              clear fE hE
              refine (wholeOf_any E _).mono ?_
              rintro r w16 ⟨rfl, e1⟩
              go_wp2_with fail
              refine (c8 _).mono ?_
              rintro r w17 ⟨rfl, e2⟩
              have B17 := below2 B15 e1 e2
              clear e1 e2 c8
              go_wp2_with fail
              refine (wholeOf_any A _).mono ?_
              rintro r w18 ⟨rfl, e1⟩
              go_wp2_with fail
              refine (c9 _).mono ?_
              rintro r w19 ⟨rfl, e2⟩
              have B19 := below2 B17 e1 e2
              clear e1 e2 c9
              go_wp2
              go_ret
              exact ⟨rfl, B19⟩
          · cases tab
            · go_wp2_with fail
              generalize hA : ByteArray.mk #[46, 46, 46] ++ ByteArray.mk #[32] ++ rest = A
              generalize hB : S ++ ByteArray.mk #[120] ++ rest = B
              have fA : A.data.toList = mB true ++ gB false ++ rest.data.toList := by rw [← hA, append_list, append_list]; rfl
              have fB : B.data.toList = List.replicate j 32 ++ [120] ++ rest.data.toList := by rw [← hB, append_list, append_list, HS.out]
              have zA : A.size ≤ 60 := by rw [← hA, append_sz, append_sz]; show 3 + 1 + rest.size ≤ 60; omega
              have zB : B.size ≤ 100 := by rw [← hB, append_sz, append_sz]; show S.size + 1 + rest.size ≤ 100; omega
              have c1 := fun w => mark_whole A w (by omega)
              simp only [fA, lemA, show wZ true = 2 from rfl] at c1
              have c2 := fun w => mark_whole ⟨#[46, 46, 46]⟩ w (by decide)
              simp only [show mkL (ByteArray.mk #[46, 46, 46]).data.toList = 2 from lemB true, show (ByteArray.mk #[46, 46, 46]).size = 3 from rfl] at c2
              have c5 := fun w => indent_whole B w (by omega)
              simp only [fB, lemE] at c5
              have c6 := fun w => blank_whole B w (by omega)
              simp only [fB, lemF] at c6
              have c7 := fun w => blank_whole S w (by omega)
              simp only [HS.out, lemG] at c7
              have c9 := fun w => blank_whole A w (by omega)
              simp only [fA, lemI] at c9
              have HFA := Lib.hid fA
              clear fA fB hA hB
              refine (wholeOf_any A _).mono ?_
              rintro r w2 ⟨rfl, e1⟩
              go_wp2_with fail
              refine (c1 _).mono ?_
              rintro r w3 ⟨rfl, e2⟩
              have B3 := below2 b1 e1 e2
              clear e1 e2 c1
              go_wp2_with fail
              refine (wholeOf_any ⟨#[46, 46, 46]⟩ _).mono ?_
              rintro r w4 ⟨rfl, e1⟩
              go_wp2_with fail
              refine (c2 _).mono ?_
              rintro r w5 ⟨rfl, e2⟩
              have B5 := below2 B3 e1 e2
              clear e1 e2 c2
              go_wp2_with fail
              generalize hC : ByteArray.mk #[46, 46, 46] ++ ByteArray.mk #[120] ++ rest = C
              have zC : C.size ≤ 60 := by rw [← hC, append_sz, append_sz]; show 3 + 1 + rest.size ≤ 60; omega
              have c3 := fun w => mark_whole C w (by omega)
              have fC : C.data.toList = mB true ++ [120] ++ rest.data.toList := by rw [← hC, append_list, append_list]; rfl
              simp only [fC, lemC] at c3
              clear fC hC
              refine (wholeOf_any C _).mono ?_
              rintro r w6 ⟨rfl, e1⟩
              go_wp2_with fail
              refine (c3 _).mono ?_
              rintro r w7 ⟨rfl, e2⟩
              have B7 := below2 B5 e1 e2
              clear e1 e2 c3
              go_wp2_with fail
              generalize hD : ByteArray.mk #[32] ++ A = D
              have zD : D.size ≤ 70 := by rw [← hD, append_sz]; show 1 + A.size ≤ 70; omega
              have c4 := fun w => mark_whole D w (by omega)
              have fD : D.data.toList = [32] ++ (mB true ++ gB false ++ rest.data.toList) := by rw [← hD, append_list, HFA.out]
              simp only [fD, lemD] at c4
              clear fD hD
              refine (wholeOf_any D _).mono ?_
              rintro r w8 ⟨rfl, e1⟩
              go_wp2_with fail
              refine (c4 _).mono ?_
              rintro r w9 ⟨rfl, e2⟩
              have B9 := below2 B7 e1 e2
              clear e1 e2 c4
              go_wp2_with fail
              refine (wholeOf_any B _).mono ?_
              rintro r w10 ⟨rfl, e1⟩
              go_wp2_with fail
              refine (c5 _).mono ?_
              rintro r w11 ⟨rfl, e2⟩
              have B11 := below2 B9 e1 e2
              clear e1 e2 c5
              go_wp2_with fail
              refine (wholeOf_any B _).mono ?_
              rintro r w12 ⟨rfl, e1⟩
              go_wp2_with fail
              refine (c6 _).mono ?_
              rintro r w13 ⟨rfl, e2⟩
              have B13 := below2 B11 e1 e2
              clear e1 e2 c6
              go_wp2_with fail
              refine (wholeOf_any S _).mono ?_
              rintro r w14 ⟨rfl, e1⟩
              go_wp2_with fail
              refine (c7 _).mono ?_
              rintro r w15 ⟨rfl, e2⟩
              have B15 := below2 B13 e1 e2
              clear e1 e2 c7
              go_wp2_with fail
              generalize hE : S ++ ByteArray.mk #[32] = E
              have zE : E.size ≤ 60 := by rw [← hE, append_sz]; show S.size + 1 ≤ 60; omega
              have c8 := fun w => blank_whole E w (by omega)
              have fE : E.data.toList = List.replicate j 32 ++ gB false := by rw [← hE, append_list, HS.out]; rfl
              simp only [fE, lemH] at c8
              clear fE hE
              refine (wholeOf_any E _).mono ?_
              rintro r w16 ⟨rfl, e1⟩
              go_wp2_with fail
              refine (c8 _).mono ?_
              rintro r w17 ⟨rfl, e2⟩
              have B17 := below2 B15 e1 e2
              clear e1 e2 c8
              go_wp2_with fail
              refine (wholeOf_any A _).mono ?_
              rintro r w18 ⟨rfl, e1⟩
              go_wp2_with fail
              refine (c9 _).mono ?_
              rintro r w19 ⟨rfl, e2⟩
              have B19 := below2 B17 e1 e2
              clear e1 e2 c9
              go_wp2
              go_ret
              exact ⟨rfl, B19⟩
            · go_wp2_with fail
              generalize hA : ByteArray.mk #[46, 46, 46] ++ ByteArray.mk #[9] ++ rest = A
              generalize hB : S ++ ByteArray.mk #[120] ++ rest = B
              have fA : A.data.toList = mB true ++ gB true ++ rest.data.toList := by rw [← hA, append_list, append_list]; rfl
              have fB : B.data.toList = List.replicate j 32 ++ [120] ++ rest.data.toList := by rw [← hB, append_list, append_list, HS.out]
              have zA : A.size ≤ 60 := by rw [← hA, append_sz, append_sz]; show 3 + 1 + rest.size ≤ 60; omega
              have zB : B.size ≤ 100 := by rw [← hB, append_sz, append_sz]; show S.size + 1 + rest.size ≤ 100; omega
              have c1 := fun w => mark_whole A w (by omega)
              simp only [fA, lemA, show wZ true = 2 from rfl] at c1
              have c2 := fun w => mark_whole ⟨#[46, 46, 46]⟩ w (by decide)
              simp only [show mkL (ByteArray.mk #[46, 46, 46]).data.toList = 2 from lemB true, show (ByteArray.mk #[46, 46, 46]).size = 3 from rfl] at c2
              have c5 := fun w => indent_whole B w (by omega)
              simp only [fB, lemE] at c5
              have c6 := fun w => blank_whole B w (by omega)
              simp only [fB, lemF] at c6
              have c7 := fun w => blank_whole S w (by omega)
              simp only [HS.out, lemG] at c7
              have c9 := fun w => blank_whole A w (by omega)
              simp only [fA, lemI] at c9
              have HFA := Lib.hid fA
              clear fA fB hA hB
              refine (wholeOf_any A _).mono ?_
              rintro r w2 ⟨rfl, e1⟩
              go_wp2_with fail
              refine (c1 _).mono ?_
              rintro r w3 ⟨rfl, e2⟩
              have B3 := below2 b1 e1 e2
              clear e1 e2 c1
              go_wp2_with fail
              refine (wholeOf_any ⟨#[46, 46, 46]⟩ _).mono ?_
              rintro r w4 ⟨rfl, e1⟩
              go_wp2_with fail
              refine (c2 _).mono ?_
              rintro r w5 ⟨rfl, e2⟩
              have B5 := below2 B3 e1 e2
              clear e1 e2 c2
              go_wp2_with fail
              generalize hC : ByteArray.mk #[46, 46, 46] ++ ByteArray.mk #[120] ++ rest = C
              have zC : C.size ≤ 60 := by rw [← hC, append_sz, append_sz]; show 3 + 1 + rest.size ≤ 60; omega
              have c3 := fun w => mark_whole C w (by omega)
              have fC : C.data.toList = mB true ++ [120] ++ rest.data.toList := by rw [← hC, append_list, append_list]; rfl
              simp only [fC, lemC] at c3
              clear fC hC
              refine (wholeOf_any C _).mono ?_
              rintro r w6 ⟨rfl, e1⟩
              go_wp2_with fail
              refine (c3 _).mono ?_
              rintro r w7 ⟨rfl, e2⟩
              have B7 := below2 B5 e1 e2
              clear e1 e2 c3
              go_wp2_with fail
              generalize hD : ByteArray.mk #[32] ++ A = D
              have zD : D.size ≤ 70 := by rw [← hD, append_sz]; show 1 + A.size ≤ 70; omega
              have c4 := fun w => mark_whole D w (by omega)
              have fD : D.data.toList = [32] ++ (mB true ++ gB true ++ rest.data.toList) := by rw [← hD, append_list, HFA.out]
              simp only [fD, lemD] at c4
              clear fD hD
              refine (wholeOf_any D _).mono ?_
              rintro r w8 ⟨rfl, e1⟩
              go_wp2_with fail
              refine (c4 _).mono ?_
              rintro r w9 ⟨rfl, e2⟩
              have B9 := below2 B7 e1 e2
              clear e1 e2 c4
              go_wp2_with fail
              refine (wholeOf_any B _).mono ?_
              rintro r w10 ⟨rfl, e1⟩
              go_wp2_with fail
              refine (c5 _).mono ?_
              rintro r w11 ⟨rfl, e2⟩
              have B11 := below2 B9 e1 e2
              clear e1 e2 c5
              go_wp2_with fail
              refine (wholeOf_any B _).mono ?_
              rintro r w12 ⟨rfl, e1⟩
              go_wp2_with fail
              refine (c6 _).mono ?_
              rintro r w13 ⟨rfl, e2⟩
              have B13 := below2 B11 e1 e2
              clear e1 e2 c6
              go_wp2_with fail
              refine (wholeOf_any S _).mono ?_
              rintro r w14 ⟨rfl, e1⟩
              go_wp2_with fail
              refine (c7 _).mono ?_
              rintro r w15 ⟨rfl, e2⟩
              have B15 := below2 B13 e1 e2
              clear e1 e2 c7
              go_wp2_with fail
              generalize hE : S ++ ByteArray.mk #[9] = E
              have zE : E.size ≤ 60 := by rw [← hE, append_sz]; show S.size + 1 ≤ 60; omega
              have c8 := fun w => blank_whole E w (by omega)
              have fE : E.data.toList = List.replicate j 32 ++ gB true := by rw [← hE, append_list, HS.out]; rfl
              simp only [fE, lemH] at c8
              clear fE hE
              refine (wholeOf_any E _).mono ?_
              rintro r w16 ⟨rfl, e1⟩
              go_wp2_with fail
              refine (c8 _).mono ?_
              rintro r w17 ⟨rfl, e2⟩
              have B17 := below2 B15 e1 e2
              clear e1 e2 c8
              go_wp2_with fail
              refine (wholeOf_any A _).mono ?_
              rintro r w18 ⟨rfl, e1⟩
              go_wp2_with fail
              refine (c9 _).mono ?_
              rintro r w19 ⟨rfl, e2⟩
              have B19 := below2 B17 e1 e2
              clear e1 e2 c9
              go_wp2
              go_ret
              exact ⟨rfl, B19⟩

end Go.Proofs.YtnmfiadljhbmiaaDoor
