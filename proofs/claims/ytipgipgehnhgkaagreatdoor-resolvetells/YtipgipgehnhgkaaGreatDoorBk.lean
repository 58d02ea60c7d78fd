/- Ways of the document's Float11: z5 z6. -/
import Derived.Test.YtipgipgehnhgkaaGreatDoorBj
set_option linter.unusedVariables false
namespace Go.Proofs.YtipgipgehnhgkaaGreatDoor
open Go.RowKit

set_option maxRecDepth 100000 in
set_option maxHeartbeats 4000000 in
theorem rf_z5 (s : ByteArray) (w : World) (c : UInt8) (P l : List UInt8) (z : Int) (hs : s.size ≤ 900) (hi : M.body s.data.toList ∉ M.infs) (hn : M.body s.data.toList ∉ M.nans) (hL : M.body s.data.toList = c :: P ++ 46 :: l) (hP : ∀ x ∈ (c :: P), x ≠ 46) (ht : M.tl (M.bk l) = some z) (hd : M.dv c < 10) (ha : M.allD 10 (M.gone P) = false) (hA0 : M.fA P = 0) :
    Calls Tryz.prog 35 #[.string s] w fun e w' => e = .returned (.tuple #[dZ, .int .i64 0]) ∧ Below w.heap.size w w' := by
  have hbl := M.body_len s.data.toList
  rw [← sz_list] at hbl
  have c1 := fun W => rsign_any s W (by omega)
  have c2 := fun g W => rodd_no (bA (M.body s.data.toList)) (M.isNeg s.data.toList) g W (by rw [bA_toList]; exact hi) (by rw [bA_toList]; exact hn)
  have c3 := fun W => rfind46_yes (bA (M.body s.data.toList)) (c :: P) l W (by rw [bA_size]; omega) (by rw [bA_toList]; exact hL) hP
  have hUs : (bA (M.body s.data.toList)).size = (c :: P).length + 1 + l.length := by rw [bA_size, hL]; simp; omega
  have hlen : (c :: P).length + 1 + l.length ≤ 900 := by rw [← hUs, bA_size]; omega
  have hx1 : (bA (M.body s.data.toList)).extract ((c :: P).length + 1) (bA (M.body s.data.toList)).size = bA l := by
    apply eq_bA; rw [Lib.extract_to_end, bA_toList, hL, show c :: P ++ 46 :: l = ((c :: P) ++ [46]) ++ l by rw [List.append_assoc]; rfl]; exact List.drop_left' (by simp <;> omega)
  have hsp := M.fr_bk l
  have hRl : (bA l).data.toList = l := bA_toList l
  have hRs : (bA l).size = l.length := bA_size l
  obtain ⟨a, hae⟩ : ∃ a, (M.fr l).length = a := ⟨_, rfl⟩
  have hal : a + (M.bk l).length = l.length := by rw [← hae, ← List.length_append, hsp]
  have hx2 : (bA l).extract 0 a = bA (M.fr l) := by
    apply eq_bA
    rw [extract_take, hRl]
    have := List.take_left' (l₁ := M.fr l) (l₂ := M.bk l) hae
    rwa [hsp] at this
  have hx3 : (bA l).extract a (bA l).size = bA (M.bk l) := by
    apply eq_bA
    rw [Lib.extract_to_end, hRl]
    have := List.drop_left' (l₁ := M.fr l) (l₂ := M.bk l) hae
    rwa [hsp] at this
  have HD : Hid (∀ j (h : j < (bA l).size), j < a → M.dv (bA l)[j] < 10 ∨ (bA l)[j] = 95) := Lib.hid (by
    intro j h hj
    have g := get_list (bA l) j h
    rw [hRl, show l[j]? = (M.fr l ++ M.bk l)[j]? by rw [hsp], List.getElem?_append_left (by omega)] at g
    exact ((M.du_iff _).1 (M.fr_du l _ (List.mem_of_getElem? g))).symm)
  have HE : Hid (∀ (h : a < (bA l).size), ¬ M.dv (bA l)[a] < 10 ∧ (bA l)[a] ≠ 95) := Lib.hid (by
    intro h
    have g := get_list (bA l) a h
    rw [hRl, show l[a]? = (M.fr l ++ M.bk l)[a]? by rw [hsp], List.getElem?_append_right (by omega), hae, Nat.sub_self] at g
    have hnd := M.bk_head l
    cases hb : M.bk l with
    | nil => rw [hb] at g; cases g
    | cons x r =>
      rw [hb] at g hnd
      have hx : x = (bA l)[a] := by simpa using g
      have := hnd x r rfl
      rw [← hx]
      exact ⟨fun k => this (Or.inr k), fun k => this (Or.inl k)⟩)
  have c5 := fun W => rbare_any (bA (M.fr l)) 10 W (by rw [bA_size]; omega) (by omega)
  rw [bA_toList] at c5
  unfold bareV at c5
  rw [if_pos (M.gone_du (M.fr_du l))] at c5
  have c6 := fun W => rtail_any (M.bk l) W (by omega)
  rw [ht] at c6
  simp only [tailV] at c6
  have hat : ∃ h : 0 < (bA (M.body s.data.toList)).size, (bA (M.body s.data.toList))[0].toNat = c.toNat := by
    obtain ⟨q1, q2⟩ := head_cons c (P ++ 46 :: l)
    rw [hL]; exact ⟨q1, congrArg UInt8.toNat q2⟩
  obtain ⟨h00, hat⟩ := hat
  have c7 := fun W => isDigit_any c W
  rw [decide_eq_true hd] at c7
  have hx4 : (bA (M.body s.data.toList)).extract 0 (c :: P).length = bA (c :: P) := by apply eq_bA; rw [extract_take, bA_toList, hL]; exact List.take_left' rfl
  have c8 := fun W => rbare_any (bA (c :: P)) 10 W (by rw [bA_size]; omega) (by omega)
  rw [bA_toList] at c8
  unfold bareV at c8
  have h95 : c ≠ 95 := M.ne95 hd (by omega)
  rw [M.gone_ne P h95, M.allD_cons, decide_eq_true hd, ha, if_neg (by simp)] at c8
  have c9 := fun W => rsix_no c P W (by omega) hd hA0
  simp only [ansV] at c9
  have hkp : 0 < (c :: P).length := by simp
  have haR : a ≤ (bA l).size := by omega
  have hR9 : (bA l).size ≤ 900 := by omega
  generalize (!(M.gone (M.fr l)).isEmpty) = SM at c5
  clear hbl hi hn hP ht hsp hRl hal hae hRs hd ha h95 hA0 hL
  generalize hBU : bA (M.body s.data.toList) = U at *
  clear hBU
  generalize M.isNeg s.data.toList = N at *
  generalize tx z = Z at *
  generalize bA (M.gone (M.fr l)) = FG at *
  generalize bA (M.fr l) = FB at *
  generalize bA (M.bk l) = BB at *
  generalize bA (c :: P) = PB at *
  generalize hpl : (c :: P).length = p at *
  generalize c.toNat = cn at *
  generalize hRS : bA l = RS at *
  generalize hll : l.length = ll at *
  clear hRS hll hpl
  rw [hUs] at hx1
  go_enter Tryz.func35, Tryz.ntmps35
  go_wp2_with fail
  refine (c1 _).mono ?_
  rintro r w1 ⟨rfl, hw1⟩
  have K1 := (Blk.made w 0 false ⟨#[]⟩ ⟨#[]⟩).next hw1
  have B1 : Below w.heap.size w w1 := below_new hw1
  clear hw1 c1
  go_wp2_with fail
  refine (c2 _ _).mono ?_
  rintro r w2 ⟨rfl, hw2⟩
  have K2 := K1.next hw2
  have B2 : Below w.heap.size w w2 := below_on B1 hw2
  clear hw2 c2 K1 B1
  go_wp2_with fail
  refine (c3 _).mono ?_
  rintro r w' ⟨rfl, rfl⟩
  clear c3
  obtain ⟨W, hW⟩ : ∃ W, w2.alloc (Obj.cells #[.int .i64 0, .bool false, .string ⟨#[]⟩, .string ⟨#[]⟩] 46) = W := ⟨_, rfl⟩
  have K3 : Blk W w.heap.size 0 false ⟨#[]⟩ ⟨#[]⟩ := hW ▸ K2.alloc' _
  have B3 : Below w.heap.size w W := hW ▸ B2.alloc B2.size _
  rw [hW]
  clear K2 B2 hW
  go_wp2_with fail
  go_loop [10] (fun ev => ∃ j : Nat, ev = .int .i64 j ∧ j ≤ a) (fun ev => a - (intOf ev).toNat)
  case atStart => exact ⟨0, rfl, Nat.zero_le _⟩
  case round =>
    obtain ⟨j, rfl, hj⟩ := hrel
    by_cases hja : j < a
    · have hjs : j < RS.size := by omega
      have hltd : decide (j < RS.size) = true := by simpa using hjs
      have hjz : (j : Int) < (RS.size : Int) := by omega
      have hor := HD.out j hjs hja
      have cd := fun W => isDigit_any RS[j] W
      have h256 := RS[j].toNat_lt
      by_cases hdv : M.dv RS[j] < 10
      · rw [decide_eq_true hdv] at cd
        clear hor hdv
        go_wp2_with fail
        refine (cd _).mono ?_
        rintro r w' ⟨rfl, rfl⟩
        go_wp2
        go_round
        case rel => exact ⟨j + 1, by go_num, by omega⟩
        case measure => simp [intOf]; omega
      · have h95 : RS[j].toNat = 95 := by rw [hor.resolve_left hdv]; rfl
        rw [decide_eq_false hdv, h95] at cd
        clear hor hdv
        go_wp2_with fail
        refine (cd _).mono ?_
        rintro r w' ⟨rfl, rfl⟩
        go_wp2
        go_round
        case rel => exact ⟨j + 1, by go_num, by omega⟩
        case measure => simp [intOf]; omega
    · obtain rfl : j = a := by omega
      have ha1 : (j : Int) ≤ (RS.size : Int) := by omega
      by_cases hlt : j < RS.size
      · have hltd : decide (j < RS.size) = true := by simpa using hlt
        obtain ⟨hnd, hn95⟩ := HE.out hlt
        have cd := fun W => isDigit_any RS[j] W
        rw [decide_eq_false hnd] at cd
        have h256 := RS[j].toNat_lt
        have hx95 : ((RS[j].toNat : Int) == 95) = false := neC (k := 95) (by omega) hn95
        clear hnd hn95 HD
        go_wp2_with fail
        refine (cd _).mono ?_
        rintro r w' ⟨rfl, rfl⟩
        clear HE
        go_wp2_with fail
        refine (c5 _).mono ?_
        rintro r w4 ⟨rfl, hw4⟩
        have K4 := K3.next hw4
        have B4 := below_on B3 hw4
        clear hw4 K3 B3 c5
        go_wp2_with fail
        refine (c6 _).mono ?_
        rintro r w5 ⟨rfl, hw5⟩
        have K5 := K4.next hw5
        have B5 := below_on B4 hw5
        clear hw5 K4 B4 c6
        go_wp2_with fail
        refine (c7 _).mono ?_
        rintro r w' ⟨rfl, rfl⟩
        go_wp2_with fail
        refine (c8 _).mono ?_
        rintro r w6 ⟨rfl, hw6⟩
        have K6 := K5.next hw6
        have B6 := below_on B5 hw6
        clear hw6 K5 B5 c8
        go_wp2_with fail
        refine (c9 _).mono ?_
        rintro r w7 ⟨rfl, hw7⟩
        have K7 := K6.next hw7
        have B7 := below_on B6 hw7
        clear hw7 K6 B6 c9
        have KZ := K7
        have BZ : Below w.heap.size w _ := B7
        obtain ⟨g, hg⟩ : ∃ g, w.heap.size = g := ⟨_, rfl⟩
        rw [hg] at KZ ⊢
        obtain ⟨k0, k1, k2, k3⟩ := KZ.cells
        obtain ⟨f0, f1, f2, f3⟩ := KZ.fro
        go_wp2
        exact bodyPost_ret (ret_decI Tryz.results35 _ rfl rfl (KZ.set 0 false _ _)) rfl ⟨rfl, below_set4 BZ (by omega) _ _ _ _⟩
      · have hltd : decide (j < RS.size) = false := by simp; omega
        clear HE
        go_wp2_with fail
        refine (c5 _).mono ?_
        rintro r w4 ⟨rfl, hw4⟩
        have K4 := K3.next hw4
        have B4 := below_on B3 hw4
        clear hw4 K3 B3 c5
        go_wp2_with fail
        refine (c6 _).mono ?_
        rintro r w5 ⟨rfl, hw5⟩
        have K5 := K4.next hw5
        have B5 := below_on B4 hw5
        clear hw5 K4 B4 c6
        go_wp2_with fail
        refine (c7 _).mono ?_
        rintro r w' ⟨rfl, rfl⟩
        go_wp2_with fail
        refine (c8 _).mono ?_
        rintro r w6 ⟨rfl, hw6⟩
        have K6 := K5.next hw6
        have B6 := below_on B5 hw6
        clear hw6 K5 B5 c8
        go_wp2_with fail
        refine (c9 _).mono ?_
        rintro r w7 ⟨rfl, hw7⟩
        have K7 := K6.next hw7
        have B7 := below_on B6 hw7
        clear hw7 K6 B6 c9
        have KZ := K7
        have BZ : Below w.heap.size w _ := B7
        obtain ⟨g, hg⟩ : ∃ g, w.heap.size = g := ⟨_, rfl⟩
        rw [hg] at KZ ⊢
        obtain ⟨k0, k1, k2, k3⟩ := KZ.cells
        obtain ⟨f0, f1, f2, f3⟩ := KZ.fro
        go_wp2
        exact bodyPost_ret (ret_decI Tryz.results35 _ rfl rfl (KZ.set 0 false _ _)) rfl ⟨rfl, below_set4 BZ (by omega) _ _ _ _⟩
set_option maxRecDepth 100000 in
set_option maxHeartbeats 4000000 in
theorem rf_z6 (s : ByteArray) (w : World) (c : UInt8) (D0 R l : List UInt8) (z : Int) (hs : s.size ≤ 900) (hi : M.body s.data.toList ∉ M.infs) (hn : M.body s.data.toList ∉ M.nans) (hL : M.body s.data.toList = c :: (D0 ++ 58 :: R) ++ 46 :: l) (hP : ∀ x ∈ (c :: (D0 ++ 58 :: R)), x ≠ 46) (ht : M.tl (M.bk l) = some z) (hd : M.dv c < 10) (hD : ∀ x ∈ D0, x ≠ 58) (ha : M.allD 10 (M.gone D0) = true) (hR : M.fS 1 R = 6) (hbk : M.bk l ≠ []) :
    Calls Tryz.prog 35 #[.string s] w fun e w' => e = .returned (.tuple #[dZ, .int .i64 0]) ∧ Below w.heap.size w w' := by
  have hbl := M.body_len s.data.toList
  rw [← sz_list] at hbl
  have c1 := fun W => rsign_any s W (by omega)
  have c2 := fun g W => rodd_no (bA (M.body s.data.toList)) (M.isNeg s.data.toList) g W (by rw [bA_toList]; exact hi) (by rw [bA_toList]; exact hn)
  have c3 := fun W => rfind46_yes (bA (M.body s.data.toList)) (c :: (D0 ++ 58 :: R)) l W (by rw [bA_size]; omega) (by rw [bA_toList]; exact hL) hP
  have hUs : (bA (M.body s.data.toList)).size = (c :: (D0 ++ 58 :: R)).length + 1 + l.length := by rw [bA_size, hL]; simp; omega
  have hlen : (c :: (D0 ++ 58 :: R)).length + 1 + l.length ≤ 900 := by rw [← hUs, bA_size]; omega
  have hx1 : (bA (M.body s.data.toList)).extract ((c :: (D0 ++ 58 :: R)).length + 1) (bA (M.body s.data.toList)).size = bA l := by
    apply eq_bA; rw [Lib.extract_to_end, bA_toList, hL, show c :: (D0 ++ 58 :: R) ++ 46 :: l = ((c :: (D0 ++ 58 :: R)) ++ [46]) ++ l by rw [List.append_assoc]; rfl]; exact List.drop_left' (by simp <;> omega)
  have hsp := M.fr_bk l
  have hRl : (bA l).data.toList = l := bA_toList l
  have hRs : (bA l).size = l.length := bA_size l
  obtain ⟨a, hae⟩ : ∃ a, (M.fr l).length = a := ⟨_, rfl⟩
  have hal : a + (M.bk l).length = l.length := by rw [← hae, ← List.length_append, hsp]
  have hx2 : (bA l).extract 0 a = bA (M.fr l) := by
    apply eq_bA
    rw [extract_take, hRl]
    have := List.take_left' (l₁ := M.fr l) (l₂ := M.bk l) hae
    rwa [hsp] at this
  have hx3 : (bA l).extract a (bA l).size = bA (M.bk l) := by
    apply eq_bA
    rw [Lib.extract_to_end, hRl]
    have := List.drop_left' (l₁ := M.fr l) (l₂ := M.bk l) hae
    rwa [hsp] at this
  have HD : Hid (∀ j (h : j < (bA l).size), j < a → M.dv (bA l)[j] < 10 ∨ (bA l)[j] = 95) := Lib.hid (by
    intro j h hj
    have g := get_list (bA l) j h
    rw [hRl, show l[j]? = (M.fr l ++ M.bk l)[j]? by rw [hsp], List.getElem?_append_left (by omega)] at g
    exact ((M.du_iff _).1 (M.fr_du l _ (List.mem_of_getElem? g))).symm)
  have HE : Hid (∀ (h : a < (bA l).size), ¬ M.dv (bA l)[a] < 10 ∧ (bA l)[a] ≠ 95) := Lib.hid (by
    intro h
    have g := get_list (bA l) a h
    rw [hRl, show l[a]? = (M.fr l ++ M.bk l)[a]? by rw [hsp], List.getElem?_append_right (by omega), hae, Nat.sub_self] at g
    have hnd := M.bk_head l
    cases hb : M.bk l with
    | nil => rw [hb] at g; cases g
    | cons x r =>
      rw [hb] at g hnd
      have hx : x = (bA l)[a] := by simpa using g
      have := hnd x r rfl
      rw [← hx]
      exact ⟨fun k => this (Or.inr k), fun k => this (Or.inl k)⟩)
  have c5 := fun W => rbare_any (bA (M.fr l)) 10 W (by rw [bA_size]; omega) (by omega)
  rw [bA_toList] at c5
  unfold bareV at c5
  rw [if_pos (M.gone_du (M.fr_du l))] at c5
  have c6 := fun W => rtail_any (M.bk l) W (by omega)
  rw [ht] at c6
  simp only [tailV] at c6
  have hat : ∃ h : 0 < (bA (M.body s.data.toList)).size, (bA (M.body s.data.toList))[0].toNat = c.toNat := by
    obtain ⟨q1, q2⟩ := head_cons c ((D0 ++ 58 :: R) ++ 46 :: l)
    rw [hL]; exact ⟨q1, congrArg UInt8.toNat q2⟩
  obtain ⟨h00, hat⟩ := hat
  have c7 := fun W => isDigit_any c W
  rw [decide_eq_true hd] at c7
  have hx4 : (bA (M.body s.data.toList)).extract 0 (c :: (D0 ++ 58 :: R)).length = bA (c :: (D0 ++ 58 :: R)) := by apply eq_bA; rw [extract_take, bA_toList, hL]; exact List.take_left' rfl
  have c8 := fun W => rbare_any (bA (c :: (D0 ++ 58 :: R))) 10 W (by rw [bA_size]; omega) (by omega)
  rw [bA_toList] at c8
  unfold bareV at c8
  have h95 : c ≠ 95 := M.ne95 hd (by omega)
  rw [M.gone_ne _ h95, M.allD_cons, decide_eq_true hd, M.gone_append, M.gone_ne R (by decide), M.allD_append, M.allD_cons, M.dv58, if_neg (by simp)] at c8
  have c9 := fun W => rsix_yes c D0 R W (by omega) hd hD ha hR
  simp only [ansV] at c9
  have hkp : 0 < (c :: (D0 ++ 58 :: R)).length := by simp
  have haR : a ≤ (bA l).size := by omega
  have hlt : a < (bA l).size := by have := List.length_pos_iff.2 hbk; omega
  have hR9 : (bA l).size ≤ 900 := by omega
  generalize (!(M.gone (M.fr l)).isEmpty) = SM at c5
  clear hbl hi hn hP ht hsp hRl hal hae hRs hd ha h95 hD hR hbk hL
  generalize hBU : bA (M.body s.data.toList) = U at *
  clear hBU
  generalize M.isNeg s.data.toList = N at *
  generalize tx z = Z at *
  generalize bA (M.gone (M.fr l)) = FG at *
  generalize bA (M.fr l) = FB at *
  generalize bA (M.bk l) = BB at *
  generalize tx ((M.sx (M.val 10 (c :: M.gone D0)) 0 R : Nat) : Int) = WB at *
  generalize bA (c :: (D0 ++ 58 :: R)) = PB at *
  generalize hpl : (c :: (D0 ++ 58 :: R)).length = p at *
  generalize c.toNat = cn at *
  generalize hRS : bA l = RS at *
  generalize hll : l.length = ll at *
  clear hRS hll hpl
  rw [hUs] at hx1
  go_enter Tryz.func35, Tryz.ntmps35
  go_wp2_with fail
  refine (c1 _).mono ?_
  rintro r w1 ⟨rfl, hw1⟩
  have K1 := (Blk.made w 0 false ⟨#[]⟩ ⟨#[]⟩).next hw1
  have B1 : Below w.heap.size w w1 := below_new hw1
  clear hw1 c1
  go_wp2_with fail
  refine (c2 _ _).mono ?_
  rintro r w2 ⟨rfl, hw2⟩
  have K2 := K1.next hw2
  have B2 : Below w.heap.size w w2 := below_on B1 hw2
  clear hw2 c2 K1 B1
  go_wp2_with fail
  refine (c3 _).mono ?_
  rintro r w' ⟨rfl, rfl⟩
  clear c3
  obtain ⟨W, hW⟩ : ∃ W, w2.alloc (Obj.cells #[.int .i64 0, .bool false, .string ⟨#[]⟩, .string ⟨#[]⟩] 46) = W := ⟨_, rfl⟩
  have K3 : Blk W w.heap.size 0 false ⟨#[]⟩ ⟨#[]⟩ := hW ▸ K2.alloc' _
  have B3 : Below w.heap.size w W := hW ▸ B2.alloc B2.size _
  rw [hW]
  clear K2 B2 hW
  go_wp2_with fail
  go_loop [10] (fun ev => ∃ j : Nat, ev = .int .i64 j ∧ j ≤ a) (fun ev => a - (intOf ev).toNat)
  case atStart => exact ⟨0, rfl, Nat.zero_le _⟩
  case round =>
    obtain ⟨j, rfl, hj⟩ := hrel
    by_cases hja : j < a
    · have hjs : j < RS.size := by omega
      have hltd : decide (j < RS.size) = true := by simpa using hjs
      have hjz : (j : Int) < (RS.size : Int) := by omega
      have hor := HD.out j hjs hja
      have cd := fun W => isDigit_any RS[j] W
      have h256 := RS[j].toNat_lt
      by_cases hdv : M.dv RS[j] < 10
      · rw [decide_eq_true hdv] at cd
        clear hor hdv
        go_wp2_with fail
        refine (cd _).mono ?_
        rintro r w' ⟨rfl, rfl⟩
        go_wp2
        go_round
        case rel => exact ⟨j + 1, by go_num, by omega⟩
        case measure => simp [intOf]; omega
      · have h95 : RS[j].toNat = 95 := by rw [hor.resolve_left hdv]; rfl
        rw [decide_eq_false hdv, h95] at cd
        clear hor hdv
        go_wp2_with fail
        refine (cd _).mono ?_
        rintro r w' ⟨rfl, rfl⟩
        go_wp2
        go_round
        case rel => exact ⟨j + 1, by go_num, by omega⟩
        case measure => simp [intOf]; omega
    · obtain rfl : j = a := by omega
      have ha1 : (j : Int) ≤ (RS.size : Int) := by omega
      have hltd : decide (j < RS.size) = true := by simpa using hlt
      obtain ⟨hnd, hn95⟩ := HE.out hlt
      have cd := fun W => isDigit_any RS[j] W
      rw [decide_eq_false hnd] at cd
      have h256 := RS[j].toNat_lt
      have hx95 : ((RS[j].toNat : Int) == 95) = false := neC (k := 95) (by omega) hn95
      clear hnd hn95 HD
      go_wp2_with fail
      refine (cd _).mono ?_
      rintro r w' ⟨rfl, rfl⟩
      clear HE
      go_wp2_with fail
      refine (c5 _).mono ?_
      rintro r w4 ⟨rfl, hw4⟩
      have K4 := K3.next hw4
      have B4 := below_on B3 hw4
      clear hw4 K3 B3 c5
      go_wp2_with fail
      refine (c6 _).mono ?_
      rintro r w5 ⟨rfl, hw5⟩
      have K5 := K4.next hw5
      have B5 := below_on B4 hw5
      clear hw5 K4 B4 c6
      go_wp2_with fail
      refine (c7 _).mono ?_
      rintro r w' ⟨rfl, rfl⟩
      go_wp2_with fail
      refine (c8 _).mono ?_
      rintro r w6 ⟨rfl, hw6⟩
      have K6 := K5.next hw6
      have B6 := below_on B5 hw6
      clear hw6 K5 B5 c8
      go_wp2_with fail
      refine (c9 _).mono ?_
      rintro r w7 ⟨rfl, hw7⟩
      have K7 := K6.next hw7
      have B7 := below_on B6 hw7
      clear hw7 K6 B6 c9
      have KZ := K7
      have BZ : Below w.heap.size w _ := B7
      obtain ⟨g, hg⟩ : ∃ g, w.heap.size = g := ⟨_, rfl⟩
      rw [hg] at KZ ⊢
      obtain ⟨k0, k1, k2, k3⟩ := KZ.cells
      obtain ⟨f0, f1, f2, f3⟩ := KZ.fro
      go_wp2
      exact bodyPost_ret (ret_decI Tryz.results35 _ rfl rfl (KZ.set 0 false _ _)) rfl ⟨rfl, below_set4 BZ (by omega) _ _ _ _⟩
end Go.Proofs.YtipgipgehnhgkaaGreatDoor
