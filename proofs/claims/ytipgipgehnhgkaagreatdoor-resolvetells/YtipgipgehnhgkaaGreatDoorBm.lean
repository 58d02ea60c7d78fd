/- Ways of the document's Float11: z7. -/
import Derived.Test.YtipgipgehnhgkaaGreatDoorBj
import Derived.BigRegion
set_option linter.unusedVariables false
namespace Go.Proofs.YtipgipgehnhgkaaGreatDoor
open Go.RowKit

theorem Blk.drew' {w : World} {g : Nat} {k : Int} {n : Bool} {D E : ByteArray} (h : Blk w g k n D E) : Blk w.drew g k n D E := h
set_option maxRecDepth 100000 in
set_option maxHeartbeats 4000000 in
theorem rf_z7 (s : ByteArray) (w : World) (l : List UInt8) (hs : s.size ≤ 900) (hL : M.body s.data.toList = 46 :: l) (hP : ∀ x ∈ ([] : List UInt8), x ≠ 46) (ht : M.tl (M.bk l) = none)
    (hsg : (bA (M.body s.data.toList)).size < s.size) (c2 : ∀ W, Calls Tryz.prog 69 #[.string (bA (M.body s.data.toList)), .bool (M.isNeg s.data.toList), .bool true] W fun e w' => e = .returned (.tuple #[dZ, .bool false]) ∧ Below W.heap.size W w') :
    Calls Tryz.prog 35 #[.string s] w fun e w' => e = .returned (.tuple #[dZ, .int .i64 0]) ∧ Below w.heap.size w w' := by
  have hbl := M.body_len s.data.toList
  rw [← sz_list] at hbl
  have c1 := fun W => rsign_any s W (by omega)
  skip
  have c3 := fun W => rfind46_yes (bA (M.body s.data.toList)) ([] : List UInt8) l W (by rw [bA_size]; omega) (by rw [bA_toList]; exact hL) hP
  have hUs : (bA (M.body s.data.toList)).size = ([] : List UInt8).length + 1 + l.length := by rw [bA_size, hL]; simp; omega
  have hlen : ([] : List UInt8).length + 1 + l.length ≤ 900 := by rw [← hUs, bA_size]; omega
  have hx1 : (bA (M.body s.data.toList)).extract (([] : List UInt8).length + 1) (bA (M.body s.data.toList)).size = bA l := by
    apply eq_bA; rw [Lib.extract_to_end, bA_toList, hL, show 46 :: l = (([] : List UInt8) ++ [46]) ++ l by rw [List.append_assoc]; rfl]; exact List.drop_left' (by simp <;> omega)
  have hsp := M.fr_bk l
  have hRl : (bA l).data.toList = l := bA_toList l
  have hRs : (bA l).size = l.length := bA_size l
  obtain ⟨a, hae⟩ : ∃ a, (M.fr l).length = a := ⟨_, rfl⟩
  have hal : a + (M.bk l).length = l.length := by rw [← hae, ← List.length_append, hsp]
  have hx2 : (bA l).extract 0 a = bA (M.fr l) := by
    apply eq_bA
    rw [extract_take, hRl]
    have := List.take_left' (l₁ := M.fr l) (l₂ := M.bk l) hae
    rwa [hsp] at this
  have hx3 : (bA l).extract a (bA l).size = bA (M.bk l) := by
    apply eq_bA
    rw [Lib.extract_to_end, hRl]
    have := List.drop_left' (l₁ := M.fr l) (l₂ := M.bk l) hae
    rwa [hsp] at this
  have HD : Hid (∀ j (h : j < (bA l).size), j < a → M.dv (bA l)[j] < 10 ∨ (bA l)[j] = 95) := Lib.hid (by
    intro j h hj
    have g := get_list (bA l) j h
    rw [hRl, show l[j]? = (M.fr l ++ M.bk l)[j]? by rw [hsp], List.getElem?_append_left (by omega)] at g
    exact ((M.du_iff _).1 (M.fr_du l _ (List.mem_of_getElem? g))).symm)
  have HE : Hid (∀ (h : a < (bA l).size), ¬ M.dv (bA l)[a] < 10 ∧ (bA l)[a] ≠ 95) := Lib.hid (by
    intro h
    have g := get_list (bA l) a h
    rw [hRl, show l[a]? = (M.fr l ++ M.bk l)[a]? by rw [hsp], List.getElem?_append_right (by omega), hae, Nat.sub_self] at g
    have hnd := M.bk_head l
    cases hb : M.bk l with
    | nil => rw [hb] at g; cases g
    | cons x r =>
      rw [hb] at g hnd
      have hx : x = (bA l)[a] := by simpa using g
      have := hnd x r rfl
      rw [← hx]
      exact ⟨fun k => this (Or.inr k), fun k => this (Or.inl k)⟩)
  have c5 := fun W => rbare_any (bA (M.fr l)) 10 W (by rw [bA_size]; omega) (by omega)
  rw [bA_toList] at c5
  unfold bareV at c5
  rw [if_pos (M.gone_du (M.fr_du l))] at c5
  have c6 := fun W => rtail_any (M.bk l) W (by omega)
  rw [ht] at c6
  simp only [tailV] at c6
  have haR : a ≤ (bA l).size := by omega
  have hlt : a < (bA l).size := by
    have : M.bk l ≠ [] := by intro e; rw [e] at ht; cases ht
    have := List.length_pos_iff.2 this; omega
  have hR9 : (bA l).size ≤ 900 := by omega
  generalize (!(M.gone (M.fr l)).isEmpty) = SM at c5
  clear hbl hP ht hsp hRl hal hae hRs hL
  generalize hBU : bA (M.body s.data.toList) = U at *
  clear hBU
  generalize M.isNeg s.data.toList = N at *
  generalize bA (M.gone (M.fr l)) = FG at *
  generalize bA (M.fr l) = FB at *
  generalize bA (M.bk l) = BB at *
  skip
  generalize hRS : bA l = RS at *
  simp only [List.length_nil, Nat.zero_add] at hx1 hlen hUs c3
  generalize hll : l.length = ll at *
  clear hRS hll
  rw [hUs] at hx1
  rw [hUs] at hsg
  have hsd : decide ((1 : Int) + (ll : Int) < (s.size : Int)) = true := by simp; omega
  clear hsg
  go_enter Tryz.func35, Tryz.ntmps35
  go_wp2_with fail
  refine (c1 _).mono ?_
  rintro r w1 ⟨rfl, hw1⟩
  have K1 := (Blk.made w 0 false ⟨#[]⟩ ⟨#[]⟩).next hw1
  have B1 : Below w.heap.size w w1 := below_new hw1
  clear hw1 c1
  go_wp2_with fail
  refine (c2 _).mono ?_
  rintro r w2 ⟨rfl, hw2⟩
  have K2 := K1.next hw2
  have B2 : Below w.heap.size w w2 := below_on B1 hw2
  clear hw2 c2 K1 B1
  go_wp2_with fail
  refine (c3 _).mono ?_
  rintro r w' ⟨rfl, rfl⟩
  clear c3
  obtain ⟨W, hW⟩ : ∃ W, w2.alloc (Obj.cells #[.int .i64 0, .bool false, .string ⟨#[]⟩, .string ⟨#[]⟩] 46) = W := ⟨_, rfl⟩
  have K3 : Blk W w.heap.size 0 false ⟨#[]⟩ ⟨#[]⟩ := hW ▸ K2.alloc' _
  have B3 : Below w.heap.size w W := hW ▸ B2.alloc B2.size _
  rw [hW]
  clear K2 B2 hW
  go_wp2_with fail
  go_loop [10] (fun ev => ∃ j : Nat, ev = .int .i64 j ∧ j ≤ a) (fun ev => a - (intOf ev).toNat)
  case atStart => exact ⟨0, rfl, Nat.zero_le _⟩
  case round =>
    obtain ⟨j, rfl, hj⟩ := hrel
    by_cases hja : j < a
    · have hjs : j < RS.size := by omega
      have hltd : decide (j < RS.size) = true := by simpa using hjs
      have hjz : (j : Int) < (RS.size : Int) := by omega
      have hor := HD.out j hjs hja
      have cd := fun W => isDigit_any RS[j] W
      have h256 := RS[j].toNat_lt
      by_cases hdv : M.dv RS[j] < 10
      · rw [decide_eq_true hdv] at cd
        clear hor hdv
        go_wp2_with fail
        refine (cd _).mono ?_
        rintro r w' ⟨rfl, rfl⟩
        go_wp2
        go_round
        case rel => exact ⟨j + 1, by go_num, by omega⟩
        case measure => simp [intOf]; omega
      · have h95 : RS[j].toNat = 95 := by rw [hor.resolve_left hdv]; rfl
        rw [decide_eq_false hdv, h95] at cd
        clear hor hdv
        go_wp2_with fail
        refine (cd _).mono ?_
        rintro r w' ⟨rfl, rfl⟩
        go_wp2
        go_round
        case rel => exact ⟨j + 1, by go_num, by omega⟩
        case measure => simp [intOf]; omega
    · obtain rfl : j = a := by omega
      have ha1 : (j : Int) ≤ (RS.size : Int) := by omega
      have hltd : decide (j < RS.size) = true := by simpa using hlt
      obtain ⟨hnd, hn95⟩ := HE.out hlt
      have cd := fun W => isDigit_any RS[j] W
      rw [decide_eq_false hnd] at cd
      have h256 := RS[j].toNat_lt
      have hx95 : ((RS[j].toNat : Int) == 95) = false := neC (k := 95) (by omega) hn95
      clear hnd hn95 HD
      go_wp2_with fail
      refine (cd _).mono ?_
      rintro r w' ⟨rfl, rfl⟩
      clear HE
      go_wp2_with fail
      refine (c5 _).mono ?_
      rintro r w4 ⟨rfl, hw4⟩
      have K4 := K3.next hw4
      have B4 := below_on B3 hw4
      clear hw4 K3 B3 c5
      go_wp2_with fail
      refine (c6 _).mono ?_
      rintro r w5 ⟨rfl, hw5⟩
      have K5 := K4.next hw5
      have B5 := below_on B4 hw5
      clear hw5 K4 B4 c6
      have KZ := K5
      have BZ : Below w.heap.size w _ := B5
      obtain ⟨g, hg⟩ : ∃ g, w.heap.size = g := ⟨_, rfl⟩
      rw [hg] at KZ ⊢
      obtain ⟨k0, k1, k2, k3⟩ := KZ.cells
      obtain ⟨f0, f1, f2, f3⟩ := KZ.fro
      go_wp2
      exact bodyPost_ret (ret_decI Tryz.results35 _ rfl rfl (KZ.set 0 false _ _)) rfl ⟨rfl, below_set4 BZ (by omega) _ _ _ _⟩
set_option maxRecDepth 100000 in
set_option maxHeartbeats 2000000 in
theorem rf_i (s : ByteArray) (w : World) (hs : s.size ≤ 900) (h : M.body s.data.toList ∈ M.infs) :
    Calls Tryz.prog 35 #[.string s] w fun e w' => e = .returned (.tuple #[dV 1 (M.isNeg s.data.toList) ⟨#[]⟩ ⟨#[]⟩, .int .i64 4]) ∧ Below w.heap.size w w' := by
  have c1 := fun W => rsign_any s W (by omega)
  have c2 := fun g W => rodd_infs (bA (M.body s.data.toList)) (M.isNeg s.data.toList) g W (by rw [bA_toList]; exact h)
  clear h
  have hU : (bA (M.body s.data.toList)).size ≤ 900 := by rw [bA_size]; have := M.body_len s.data.toList; rw [← sz_list] at this; omega
  generalize bA (M.body s.data.toList) = U at *
  generalize M.isNeg s.data.toList = N at *
  go_enter Tryz.func35, Tryz.ntmps35
  go_wp2_with fail
  refine (c1 _).mono ?_
  rintro r w1 ⟨rfl, hw1⟩
  have K1 := (Blk.made w 0 false ⟨#[]⟩ ⟨#[]⟩).next hw1
  have B1 : Below w.heap.size w w1 := below_new hw1
  clear hw1 c1
  go_wp2_with fail
  refine (c2 _ _).mono ?_
  rintro r w2 ⟨rfl, hw2⟩
  have K2 := K1.next hw2
  have B2 : Below w.heap.size w w2 := below_on B1 hw2
  clear hw2 c2 K1 B1
  have KD := Blk.made w2 1 N ⟨#[]⟩ ⟨#[]⟩
  have KR := K2.alloc' (.cells #[.int .i64 1, .bool N, .string ⟨#[]⟩, .string ⟨#[]⟩] 46)
  have hgw : w.heap.size < w2.heap.size := K2.lt
  obtain ⟨g, hg⟩ : ∃ g, w.heap.size = g := ⟨_, rfl⟩
  rw [hg] at KR K2 hgw ⊢
  obtain ⟨j0, j1, j2, j3⟩ := K2.cells
  obtain ⟨i0, i1, i2, i3⟩ := K2.fro
  obtain ⟨k0, k1, k2, k3⟩ := KR.cells
  obtain ⟨f0, f1, f2, f3⟩ := KR.fro
  obtain ⟨d0, d1, d2, d3⟩ := KD.cells
  go_wp2
  go_region
  go_wp2
  exact bodyPost_ret (ret_decI Tryz.results35 _ rfl rfl ((K2.set 1 N _ _).alloc' _).drew') rfl ⟨rfl, ((below_set4 B2 (by omega) _ _ _ _).alloc (by simp [set4]; have := B2.size; omega) _).drew⟩
set_option maxRecDepth 100000 in
set_option maxHeartbeats 2000000 in
theorem rf_n (s : ByteArray) (w : World) (hs : s.size ≤ 900) (h : M.body s.data.toList ∈ M.nans) (hsg : ¬ (bA (M.body s.data.toList)).size < s.size) :
    Calls Tryz.prog 35 #[.string s] w fun e w' => e = .returned (.tuple #[dV 2 (false) ⟨#[]⟩ ⟨#[]⟩, .int .i64 5]) ∧ Below w.heap.size w w' := by
  have c1 := fun W => rsign_any s W (by omega)
  have c2 := fun W => rodd_nans (bA (M.body s.data.toList)) (M.isNeg s.data.toList) false W (by rw [bA_toList]; exact h)
  simp only [Bool.not_false, Bool.false_eq_true, if_false] at c2
  have hsd : decide ((bA (M.body s.data.toList)).size < s.size) = false := decide_eq_false hsg
  clear h hsg
  have hU : (bA (M.body s.data.toList)).size ≤ 900 := by rw [bA_size]; have := M.body_len s.data.toList; rw [← sz_list] at this; omega
  generalize bA (M.body s.data.toList) = U at *
  generalize M.isNeg s.data.toList = N at *
  go_enter Tryz.func35, Tryz.ntmps35
  go_wp2_with fail
  refine (c1 _).mono ?_
  rintro r w1 ⟨rfl, hw1⟩
  have K1 := (Blk.made w 0 false ⟨#[]⟩ ⟨#[]⟩).next hw1
  have B1 : Below w.heap.size w w1 := below_new hw1
  clear hw1 c1
  go_wp2_with fail
  refine (c2 _).mono ?_
  rintro r w2 ⟨rfl, hw2⟩
  have K2 := K1.next hw2
  have B2 : Below w.heap.size w w2 := below_on B1 hw2
  clear hw2 c2 K1 B1
  have KD := Blk.made w2 2 false ⟨#[]⟩ ⟨#[]⟩
  have KR := K2.alloc' (.cells #[.int .i64 2, .bool false, .string ⟨#[]⟩, .string ⟨#[]⟩] 46)
  have hgw : w.heap.size < w2.heap.size := K2.lt
  obtain ⟨g, hg⟩ : ∃ g, w.heap.size = g := ⟨_, rfl⟩
  rw [hg] at KR K2 hgw ⊢
  obtain ⟨j0, j1, j2, j3⟩ := K2.cells
  obtain ⟨i0, i1, i2, i3⟩ := K2.fro
  obtain ⟨k0, k1, k2, k3⟩ := KR.cells
  obtain ⟨f0, f1, f2, f3⟩ := KR.fro
  obtain ⟨d0, d1, d2, d3⟩ := KD.cells
  go_wp2
  go_region
  go_wp2
  exact bodyPost_ret (ret_decI Tryz.results35 _ rfl rfl ((K2.set 2 false _ _).alloc' _).drew') rfl ⟨rfl, ((below_set4 B2 (by omega) _ _ _ _).alloc (by simp [set4]; have := B2.size; omega) _).drew⟩
end Go.Proofs.YtipgipgehnhgkaaGreatDoor
