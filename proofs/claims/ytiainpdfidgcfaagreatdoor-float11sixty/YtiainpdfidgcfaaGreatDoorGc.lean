/- The law Float11Gaps: its walk. -/
import Derived.Test.YtiainpdfidgcfaaGreatDoorGb
import Derived.Deep.RegionHeld3
import Derived.Deep.DeepCutAuto
set_option linter.unusedVariables false
namespace Go.Proofs.YtiainpdfidgcfaaGreatDoor
open Go.RowKit
namespace M
theorem gone_rep (g : Nat) : gone (List.replicate g 95) = [] := by
  induction g with
  | zero => rfl
  | succ g ih => rw [List.replicate_succ, gone_eq, ih]
theorem du_rep (g : Nat) : ∀ x ∈ List.replicate g (95 : UInt8), du x = true := fun x hx => by rw [List.eq_of_mem_replicate hx]; decide
/-- A gap put in behind the first digit says nothing. -/
theorem ins_parts (c : UInt8) (P F X : List UInt8) (z : Int) (K g : Nat) (hc : dv c < 10) (hP : allD 10 P = true) (hF : allD 10 F = true) (hX : tl X = some z) (hK : 1 ≤ K) (hKl : K ≤ (c :: P ++ 46 :: F).length) :
    Parts (((c :: P ++ 46 :: F).take K ++ List.replicate g 95 ++ (c :: P ++ 46 :: F).drop K) ++ X) (c :: P) F z := by
  have dP : ∀ x ∈ P, du x = true := fun x hx => (du_iff x).2 (Or.inr ((allD_iff _ _).1 hP x hx))
  have dF : ∀ x ∈ F, du x = true := fun x hx => (du_iff x).2 (Or.inr ((allD_iff _ _).1 hF x hx))
  have gP : ∀ l : List UInt8, (∀ x ∈ l, dv x < 10) → gone l = l := fun l h => gone_no _ fun x hx => ne95 (h x hx) (by omega)
  have vP := (allD_iff _ _).1 hP
  have vF := (allD_iff _ _).1 hF
  obtain ⟨k, rfl⟩ : ∃ k, K = k + 1 := ⟨K - 1, by omega⟩
  by_cases hk : k ≤ P.length
  · have h := parts_one c (P.take k ++ List.replicate g 95 ++ P.drop k) F X z hc (by
      intro x hx
      rcases List.mem_append.1 hx with hx | hx
      · rcases List.mem_append.1 hx with hx | hx
        · exact dP x (List.mem_of_mem_take hx)
        · exact du_rep g x hx
      · exact dP x (List.mem_of_mem_drop hx)) dF hX
    have e1 : gone (P.take k ++ List.replicate g 95 ++ P.drop k) = P := by
      rw [gone_append, gone_append, gone_rep, List.append_nil, gP _ (fun x hx => vP x (List.mem_of_mem_take hx)), gP _ (fun x hx => vP x (List.mem_of_mem_drop hx)), List.take_append_drop]
    rw [e1, gP F vF] at h
    have e2 : (c :: P ++ 46 :: F).take (k + 1) ++ List.replicate g 95 ++ (c :: P ++ 46 :: F).drop (k + 1) ++ X = c :: (P.take k ++ List.replicate g 95 ++ P.drop k) ++ 46 :: (F ++ X) := by
      rw [List.cons_append, List.take_succ_cons, List.drop_succ_cons, List.take_append_of_le_length hk, List.drop_append_of_le_length hk]; simp
    rw [e2]; exact h
  · obtain ⟨j, rfl⟩ : ∃ j, k = P.length + (j + 1) := ⟨k - P.length - 1, by omega⟩
    have h := parts_one c P (F.take j ++ List.replicate g 95 ++ F.drop j) X z hc dP (by
      intro x hx
      rcases List.mem_append.1 hx with hx | hx
      · rcases List.mem_append.1 hx with hx | hx
        · exact dF x (List.mem_of_mem_take hx)
        · exact du_rep g x hx
      · exact dF x (List.mem_of_mem_drop hx)) hX
    have e1 : gone (F.take j ++ List.replicate g 95 ++ F.drop j) = F := by
      rw [gone_append, gone_append, gone_rep, List.append_nil, gP _ (fun x hx => vF x (List.mem_of_mem_take hx)), gP _ (fun x hx => vF x (List.mem_of_mem_drop hx)), List.take_append_drop]
    rw [e1, gP P vP] at h
    have e2 : (c :: P ++ 46 :: F).take (P.length + (j + 1) + 1) ++ List.replicate g 95 ++ (c :: P ++ 46 :: F).drop (P.length + (j + 1) + 1) ++ X = c :: P ++ 46 :: (F.take j ++ List.replicate g 95 ++ F.drop j ++ X) := by
      rw [List.cons_append, List.take_succ_cons, List.drop_succ_cons, List.take_length_add_append, List.drop_length_add_append, List.take_succ_cons, List.drop_succ_cons]; simp
    rw [e2]; exact h
theorem flo_gap (l : List UInt8) : flo (95 :: l) = 0 := by
  by_cases h : flo (95 :: l) = 0
  · exact h
  · have hb : body (95 :: l) = 95 :: l := (head_else (by decide) (by decide)).2
    rcases flo_cases _ h with h | h | h
    · exact absurd h (by simp [nans])
    · rw [hb] at h; exact absurd h (by simp [infs])
    · rw [hb, fl, if_neg (by decide), if_neg (by decide)] at h; exact absurd rfl h
/-- A power that is none, behind digits and a point. -/
theorem fl_bad_tail (c : UInt8) (P F X : List UInt8) (hc : dv c < 10) (hP : allD 10 P = true) (hF : allD 10 F = true) (hX : ∃ e r, X = e :: r ∧ (e = 101 ∨ e = 69)) (ht : tl X = none) : flo (c :: P ++ 46 :: (F ++ X)) = 0 := by
  have dF : ∀ x ∈ F, du x = true := fun x hx => (du_iff x).2 (Or.inr ((allD_iff _ _).1 hF x hx))
  have vP := (allD_iff _ _).1 hP
  have hb := (body_dig (r := P ++ 46 :: (F ++ X)) hc).1
  by_cases h : flo (c :: P ++ 46 :: (F ++ X)) = 0
  · exact h
  · have e0 : c :: P ++ 46 :: (F ++ X) = c :: (P ++ 46 :: (F ++ X)) := rfl
    rcases flo_cases _ h with h | h | h
    · simp only [nans, List.mem_cons, List.not_mem_nil, or_false] at h
      rcases h with h | h | h <;> exact absurd (List.head_eq_of_cons_eq (e0.symm.trans h)) (ne46 hc (by omega))
    · rw [e0, hb] at h
      simp only [infs, List.mem_cons, List.not_mem_nil, or_false] at h
      rcases h with h | h | h <;> exact absurd (List.head_eq_of_cons_eq h) (ne46 hc (by omega))
    · rw [e0, hb, ← e0, fl_yes c P _ (ne46 hc (by omega)) (fun x hx => ne46 (vP x hx) (by omega)), if_pos hc, (fr_app F X dF (Or.inr hX)).2, ht] at h
      have hn : X ≠ [] := by obtain ⟨e, r, rfl, _⟩ := hX; simp
      rw [if_neg hn] at h
      split at h
      · exact absurd rfl h
      · split at h <;> exact absurd rfl h
theorem tlE_gap (g : UInt8) (l : List UInt8) : tlE (g :: (l ++ [95])) = none := by
  rw [tlE, if_neg]
  rintro ⟨_, h⟩
  have := (allD_iff _ _).1 ((okD_iff _ _).1 h).2 95 (by simp)
  rw [dv95] at this; omega
end M
theorem liftC {f : FuncId} {args : Array Value} {W0 V : World} {R : Value} (c : Calls Tryz.prog f args V fun e w' => e = .returned R ∧ Below V.heap.size V w') (h : Below W0.heap.size W0 V) :
    Calls Tryz.prog f args V fun e w' => e = .returned R ∧ Below W0.heap.size W0 w' ∧ (∀ q j, q < V.heap.size → w'.cell? ⟨q, j, none⟩ = V.cell? ⟨q, j, none⟩) ∧ (∀ q j, q < V.heap.size → w'.frozen? ⟨q, j, none⟩ = V.frozen? ⟨q, j, none⟩) ∧ (∀ q, q < V.heap.size → w'.heap[q]? = V.heap[q]?) := c.mono fun _ _ k => ⟨k.1, h.trans (k.2.mono h.size), fun q j hq => k.2.cell (p := ⟨q, j, none⟩) hq, fun q j hq => by
    have := k.2.block q hq
    simp [World.frozen?, this], fun q hq => k.2.block q hq⟩
set_option maxRecDepth 100000 in
theorem gaps_short (s f : ByteArray) (A t : Nat) (w : World) (he : Env w) (hs : s.size ≤ maxLen) (hf : f.size ≤ maxLen) (h : s.size < 1 ∨ 30 < s.size ∨ 30 < f.size) :
    Calls Tryz.prog 6 #[.string s, .string f, .int .u8 A, .int .u8 t] w fun e w' => e = .returned (.bool true) ∧ Below w.heap.size w w' := by
  unfold maxLen at hs hf
  by_cases a1 : s.size < 1
  · have d1 : decide (s.size < 1) = true := decide_eq_true a1
    have d4 : decide ((s.size : Int) < 1) = true := decide_eq_true (by omega)
    go_enter Tryz.func6, Tryz.ntmps6
    go_wp2_with fail
    refine (known_any _ he).mono ?_
    rintro r w1 ⟨rfl, hb1⟩
    go_wp2
    go_ret
    exact ⟨rfl, hb1⟩
  · have d1 : decide (s.size < 1) = false := decide_eq_false a1
    have d4 : decide ((s.size : Int) < 1) = false := decide_eq_false (by omega)
    by_cases a2 : 30 < s.size
    · have d2 : decide (30 < s.size) = true := decide_eq_true a2
      have d5 : decide ((30 : Int) < (s.size : Int)) = true := decide_eq_true (by omega)
      go_enter Tryz.func6, Tryz.ntmps6
      go_wp2_with fail
      refine (known_any _ he).mono ?_
      rintro r w1 ⟨rfl, hb1⟩
      go_wp2
      go_ret
      exact ⟨rfl, hb1⟩
    · have d2 : decide (30 < s.size) = false := decide_eq_false a2
      have d5 : decide ((30 : Int) < (s.size : Int)) = false := decide_eq_false (by omega)
      have d3 : decide (30 < f.size) = true := decide_eq_true (by omega)
      have d6 : decide ((30 : Int) < (f.size : Int)) = true := decide_eq_true (by omega)
      go_enter Tryz.func6, Tryz.ntmps6
      go_wp2_with fail
      refine (known_any _ he).mono ?_
      rintro r w1 ⟨rfl, hb1⟩
      go_wp2
      go_ret
      exact ⟨rfl, hb1⟩
theorem tx_m7 : tx (-7) = ⟨#[45, 55]⟩ := lit_neg [55] (by decide) (by decide) 7 (by decide)
set_option maxRecDepth 100000 in
set_option maxHeartbeats 4000000 in
theorem gaps_core (s f : ByteArray) (A t T5 : Nat) (w : World) (he : Env w) (h1 : 1 ≤ s.size) (h30 : s.size ≤ 30) (hf : f.size ≤ 30) (hA : A ≤ 255) (hT5 : t % 5 = T5) (ht : t ≤ 255) :
    Calls Tryz.prog 6 #[.string s, .string f, .int .u8 A, .int .u8 t] w fun e w' => e = .returned (.bool true) ∧ Below w.heap.size w w' := by
  have d1 : decide (s.size < 1) = false := decide_eq_false (by omega)
  have d2 : decide (30 < s.size) = false := decide_eq_false (by omega)
  have d3 : decide (30 < f.size) = false := decide_eq_false (by omega)
  have d4 : decide ((s.size : Int) < 1) = false := decide_eq_false (by omega)
  have d5 : decide ((30 : Int) < (s.size : Int)) = false := decide_eq_false (by omega)
  have d6 : decide ((30 : Int) < (f.size : Int)) = false := decide_eq_false (by omega)
  have cW := fun W => digits_any s W (by omega)
  have cF := fun W => digits_any f W (by omega)
  have hWl : (digs s.data.toList).length = s.size := by rw [digs_length, ← sz_list]
  have hFl : (digs f.data.toList).length = f.size := by rw [digs_length, ← sz_list]
  have hFa := digs_all f.data.toList
  obtain ⟨c, P, hWe⟩ : ∃ c P, digs s.data.toList = c :: P := by
    cases hx : digs s.data.toList with
    | nil => rw [hx] at hWl; simp at hWl; omega
    | cons c P => exact ⟨c, P, rfl⟩
  have hWa := digs_all s.data.toList
  rw [hWe] at cW hWl hWa
  rw [M.allD_cons, Bool.and_eq_true, decide_eq_true_eq] at hWa
  obtain ⟨hc, hPa⟩ := hWa
  generalize digs f.data.toList = F at *
  have hPl : P.length + 1 = s.size := by simpa using hWl
  obtain ⟨SS, hSS⟩ : ∃ SS, bA (c :: P) ++ ⟨#[46]⟩ ++ bA F = SS := ⟨_, rfl⟩
  have hSl : SS.data.toList = c :: P ++ 46 :: F := by rw [← hSS, append_list, append_list, bA_toList, bA_toList]; simp
  have hSz : SS.size = s.size + 1 + f.size := by rw [sz_list, hSl]; simp; omega
  -- the place of the gap
  obtain ⟨rr, hrr⟩ : ∃ rr : Nat, Int.tmod (A : Int) (SS.size : Int) = rr := ⟨A % SS.size, by rw [Int.ofNat_tmod]⟩
  have hrl : rr < SS.size := by
    have h1 := Int.tmod_lt_of_pos (A : Int) (show (0 : Int) < (SS.size : Int) by omega)
    omega
  obtain ⟨K, hK⟩ : ∃ K, K = 1 + rr := ⟨_, rfl⟩
  have hKe : (1 : Int) + (rr : Int) = (K : Int) := by omega
  have hKs : K ≤ SS.size := by omega
  have hKs2 : (K : Int) ≤ (SS.size : Int) := by omega
  have hwr : IntKind.i64.wrap ((1 : Int) + (rr : Int)) = (K : Int) := by rw [IntWalk.i64_in _ (by omega)]; omega
  have hT5b : T5 ≤ 4 := by omega
  have hT5e : (t : Int) % 5 = (T5 : Int) := by omega
  obtain ⟨X1, hX1⟩ : ∃ X1, SS.extract 0 K = X1 := ⟨_, rfl⟩
  obtain ⟨X2, hX2⟩ : ∃ X2, SS.extract K SS.size = X2 := ⟨_, rfl⟩
  have hs1 : X1.size ≤ 61 := by rw [← hX1]; simp; omega
  have hs2 : X2.size ≤ 61 := by rw [← hX2]; simp; omega
  have hss : X1.size + X2.size = SS.size := by rw [← hX1, ← hX2]; simp; omega
  have hx1l : X1.data.toList = (c :: P ++ 46 :: F).take K := by rw [← hX1, ByteArray.data_extract, Array.toList_extract, List.extract_eq_take_drop, List.drop_zero, ← hSl]; simp
  have hx2l : X2.data.toList = (c :: P ++ 46 :: F).drop K := by rw [← hX2, Lib.extract_to_end, hSl]
  have hcat : (X1 ++ bA (List.replicate T5 95) ++ X2).data.toList = (c :: P ++ 46 :: F).take K ++ List.replicate T5 95 ++ (c :: P ++ 46 :: F).drop K := by
    rw [append_list, append_list, bA_toList, hx1l, hx2l]
  have hcs : (X1 ++ bA (List.replicate T5 95) ++ X2).size ≤ 65 := by rw [append_sz, append_sz, bA_size, List.length_replicate]; omega
  have hcatE : (X1 ++ bA (List.replicate T5 95) ++ X2 ++ ⟨#[101, 45, 55]⟩).data.toList = ((c :: P ++ 46 :: F).take K ++ List.replicate T5 95 ++ (c :: P ++ 46 :: F).drop K) ++ [101, 45, 55] := by
    rw [append_list, hcat]
  have hcsE : (X1 ++ bA (List.replicate T5 95) ++ X2 ++ ⟨#[101, 45, 55]⟩).size ≤ 68 := by rw [append_sz]; show _ + 3 ≤ 68; omega
  -- what Make answers
  have hok : M.okD 10 ((bA (c :: P)).data.toList ++ (bA F).data.toList) = true := by
    rw [bA_toList, bA_toList, M.okD_iff, M.allD_append, M.allD_cons, decide_eq_true hc, hPa, hFa]
    exact ⟨by simp, rfl⟩
  obtain ⟨k0, n0, D0, E0, _, _, g0, _⟩ := make_both false (bA (c :: P)) (bA F) 0 (by rw [bA_size]; simp; omega) (by rw [bA_size]; omega) (by rw [tx0]; decide) hok
  obtain ⟨k7, n7, D7, E7, _, _, g7, r7⟩ := make_both false (bA (c :: P)) (bA F) (-7) (by rw [bA_size]; simp; omega) (by rw [bA_size]; omega) (by rw [tx_m7]; decide) hok
  have hKl : K ≤ (c :: P ++ 46 :: F).length := by rw [← hSl, ← sz_list]; exact hKs
  have hb0 := body_dig (r := P ++ 46 :: F) hc
  have pS := M.ins_parts c P F [] 0 K 0 hc hPa hFa rfl (by omega) hKl
  simp only [List.replicate_zero, List.append_nil, List.take_append_drop] at pS
  have hbS : M.body SS.data.toList = c :: P ++ 46 :: F ∧ M.isNeg SS.data.toList = false := by rw [hSl]; exact hb0
  have cA := fun W hW => of_run SS W hW (by omega) (c :: P) F 0 (by rw [hbS.1]; exact pS) k0 n0 true D0 E0 (by rw [hbS.2]; exact g0)
  have hhead : ∃ r, (c :: P ++ 46 :: F).take K ++ List.replicate T5 95 ++ (c :: P ++ 46 :: F).drop K = c :: r := by
    obtain ⟨q, rfl⟩ : ∃ q, K = q + 1 := ⟨K - 1, by omega⟩
    exact ⟨_, rfl⟩
  obtain ⟨rB, hrB⟩ := hhead
  have pB := M.ins_parts c P F [] 0 K T5 hc hPa hFa rfl (by omega) hKl
  rw [List.append_nil] at pB
  have hbB : M.body (X1 ++ bA (List.replicate T5 95) ++ X2).data.toList = (X1 ++ bA (List.replicate T5 95) ++ X2).data.toList ∧ M.isNeg (X1 ++ bA (List.replicate T5 95) ++ X2).data.toList = false := by rw [hcat, hrB]; exact body_dig hc
  have cB := fun W hW => of_run (X1 ++ bA (List.replicate T5 95) ++ X2) W hW (by omega) (c :: P) F 0 (by rw [hbB.1, hcat]; exact pB) k0 n0 true D0 E0 (by rw [hbB.2]; exact g0)
  have pC := M.ins_parts c P F [101, 45, 55] (-7) K T5 hc hPa hFa (by decide) (by omega) hKl
  have hbC : M.body (X1 ++ bA (List.replicate T5 95) ++ X2 ++ ⟨#[101, 45, 55]⟩).data.toList = (X1 ++ bA (List.replicate T5 95) ++ X2 ++ ⟨#[101, 45, 55]⟩).data.toList ∧ M.isNeg (X1 ++ bA (List.replicate T5 95) ++ X2 ++ ⟨#[101, 45, 55]⟩).data.toList = false := by rw [hcatE, hrB]; exact body_dig hc
  have cC := fun W hW => of_run (X1 ++ bA (List.replicate T5 95) ++ X2 ++ ⟨#[101, 45, 55]⟩) W hW (by omega) (c :: P) F (-7) (by rw [hbC.1, hcatE]; exact pC) k7 n7 true D7 E7 (by rw [hbC.2]; exact g7)
  rw [tx_m7] at r7
  have cI := fun W => fis_bad (SS ++ ⟨#[101, 45]⟩ ++ bA (List.replicate T5 95) ++ ⟨#[95]⟩) W (by rw [append_sz, append_sz, append_sz, bA_size, List.length_replicate]; show SS.size + 2 + T5 + 1 ≤ 900; omega) (by
    rw [append_list, append_list, append_list, bA_toList, hSl]
    show M.flo (c :: P ++ 46 :: F ++ [101, 45] ++ List.replicate T5 95 ++ [95]) = 0
    rw [show c :: P ++ 46 :: F ++ [101, 45] ++ List.replicate T5 95 ++ [95] = c :: P ++ 46 :: (F ++ (101 :: 45 :: (List.replicate T5 95 ++ [95]))) by simp]
    exact M.fl_bad_tail c P F _ hc hPa hFa ⟨_, _, rfl, Or.inl rfl⟩ (by rw [M.tl, if_pos (Or.inl rfl)]; exact M.tlE_gap 45 _))
  have cG : 0 < T5 → ∀ W, Calls Tryz.prog 11 #[.string (bA (List.replicate T5 95) ++ SS)] W fun e w' => e = .returned (.bool false) ∧ W = w' := by
    intro h0 W
    refine fis_bad _ W (by rw [append_sz, bA_size, List.length_replicate]; omega) ?_
    obtain ⟨q, rfl⟩ : ∃ q, T5 = q + 1 := ⟨T5 - 1, by omega⟩
    rw [append_list, bA_toList, List.replicate_succ]
    exact M.flo_gap _
  have hbw : (bA (c :: P)).size ≤ 30 := by rw [bA_size]; simp; omega
  have hbf : (bA F).size ≤ 30 := by rw [bA_size]; omega
  have hSS61 : SS.size ≤ 61 := by omega
  have hSS1 : 1 ≤ SS.size := by omega
  have HKe := Lib.hid hKe
  clear hKl hb0 pS hbS hrB pB hbB pC hbC g0 g7 hok hcat hcs hcatE hcsE hx1l hx2l hFl hFa hWl hc hPa hPl hSl hSz hK hWe hKe
  generalize bA (c :: P) = BW at *
  generalize bA F = BF at *
  clear c P F rB
  go_enter Tryz.func6, Tryz.ntmps6
  go_wp2_with fail
  refine (known_any _ he).mono ?_
  rintro r w1 ⟨rfl, hb1⟩
  go_wp2_with fail
  refine (cW _).mono ?_
  rintro r w2 ⟨rfl, hw2⟩
  have B2 : Below w.heap.size w w2 := below_on hb1 hw2
  clear hb1 hw2
  go_wp2_with fail
  refine (cF _).mono ?_
  rintro r w3 ⟨rfl, hw3⟩
  have B3 : Below w.heap.size w w3 := below_on B2 hw3
  clear B2 hw3
  go_wp2_with fail
  go_loop [11, 12] (fun gv iv => ∃ i : Nat, iv = .int .i64 i ∧ i ≤ T5 ∧ gv = .string (bA (List.replicate i 95))) (fun _ iv => T5 - (intOf iv).toNat)
  case atStart => exact ⟨0, rfl, Nat.zero_le _, rfl⟩
  case round =>
    obtain ⟨i, rfl, hi, rfl⟩ := hrel
    have hgs : (bA (List.replicate i 95)).size = i := by rw [bA_size, List.length_replicate]
    by_cases hlt : i < T5
    · have hltd : decide ((i : Int) < (T5 : Int)) = true := by simp; omega
      have hltd2 : decide (i < T5) = true := by simp; omega
      have hnx : bA (List.replicate i 95) ++ ⟨#[95]⟩ = bA (List.replicate (i + 1) 95) := by rw [show (⟨#[95]⟩ : ByteArray) = bA [95] from rfl, bA_append, List.replicate_succ']
      clear cA cB cC cI cG cW cF r7
      go_wp2
      go_round
      case rel => exact ⟨i + 1, by go_num, by omega, by rw [← hnx]⟩
      case measure => simp [intOf]; omega
    · obtain rfl : i = T5 := by omega
      have hltd : decide ((i : Int) < (i : Int)) = false := by simp
      have hltd2 : decide (i < i) = false := by simp
      have hadd1 : ∀ W, (Op.stringOp .add X1 (bA (List.replicate i 95))).run Tryz.prog W = .ok (.string (X1 ++ bA (List.replicate i 95))) W := fun W => run_string_add_sum _ _ _ (by omega)
      have hadd2 : ∀ W, (Op.stringOp .add (X1 ++ bA (List.replicate i 95)) X2).run Tryz.prog W = .ok (.string (X1 ++ bA (List.replicate i 95) ++ X2)) W := fun W => run_string_add_sum _ _ _ (by rw [append_sz]; omega)
      have hadd3 : ∀ W, (Op.stringOp .add (X1 ++ bA (List.replicate i 95) ++ X2) ⟨#[101, 45, 55]⟩).run Tryz.prog W = .ok (.string (X1 ++ bA (List.replicate i 95) ++ X2 ++ ⟨#[101, 45, 55]⟩)) W := fun W => run_string_add_sum _ _ _ (by rw [append_sz, append_sz]; show _ + 3 ≤ _; omega)
      have hadd4 : ∀ W, (Op.stringOp .add SS ⟨#[101, 45]⟩).run Tryz.prog W = .ok (.string (SS ++ ⟨#[101, 45]⟩)) W := fun W => run_string_add_sum _ _ _ (by show _ + 2 ≤ _; omega)
      have hadd5 : ∀ W, (Op.stringOp .add (SS ++ ⟨#[101, 45]⟩) (bA (List.replicate i 95))).run Tryz.prog W = .ok (.string (SS ++ ⟨#[101, 45]⟩ ++ bA (List.replicate i 95))) W := fun W => run_string_add_sum _ _ _ (by rw [append_sz]; show SS.size + 2 + _ ≤ _; omega)
      have hadd6 : ∀ W, (Op.stringOp .add (SS ++ ⟨#[101, 45]⟩ ++ bA (List.replicate i 95)) ⟨#[95]⟩).run Tryz.prog W = .ok (.string (SS ++ ⟨#[101, 45]⟩ ++ bA (List.replicate i 95) ++ ⟨#[95]⟩)) W := fun W => run_string_add_sum _ _ _ (by rw [append_sz, append_sz]; show SS.size + 2 + _ + 1 ≤ _; omega)
      have hadd7 : ∀ W, (Op.stringOp .add (bA (List.replicate i 95)) SS).run Tryz.prog W = .ok (.string (bA (List.replicate i 95) ++ SS)) W := fun W => run_string_add_sum _ _ _ (by omega)
      have hge : ((bA (List.replicate i 95)).toList == []) = decide (i = 0) ∧ (bA (List.replicate i 95)).toList.isEmpty = decide (i = 0) := by
        rw [ByteArray.toList_eq, bA_toList]
        cases i with
        | zero => exact ⟨rfl, rfl⟩
        | succ i => exact ⟨by rw [List.replicate_succ]; simp, by rw [List.replicate_succ]; simp⟩
      obtain ⟨hge1, hge2⟩ := hge
      generalize bA (List.replicate i 95) = GB at *
      go_wp2_with fail
      refine (cA _ (he.next B3)).mono ?_
      rintro r w4 ⟨rfl, hw4⟩
      have B4 : Below w.heap.size w w4 := below_on B3 hw4
      clear hw4 B3
      have E4 := env_new (he.next B4) (.cells #[.int .i64 k0, .bool n0, .string D0, .string E0] 26)
      have KA := Blk.made w4 k0 n0 D0 E0
      have BA : Below w.heap.size w (w4.alloc (.cells #[.int .i64 k0, .bool n0, .string D0, .string E0] 26)) := B4.alloc B4.size _
      clear cA
      go_upto_region 13 with fail
      obtain ⟨ga, hga⟩ : ∃ ga, w4.heap.size = ga := ⟨_, rfl⟩
      obtain ⟨W4, hW4⟩ : ∃ W4, w4.alloc (.cells #[.int .i64 k0, .bool n0, .string D0, .string E0] 26) = W4 := ⟨_, rfl⟩
      rw [hga] at KA ⊢
      rw [hW4] at KA BA E4 ⊢
      clear hga hW4 B4
      go_cut [15, 16] (fun bv iv wx => ∃ g, bv = .pointer (some ⟨g, 0, none⟩) ∧ iv = .bool true ∧ Blk wx g k0 n0 D0 E0 ∧ Below W4.heap.size W4 wx)
      case first =>
        go_region_held3 (fun w' => Below W4.heap.size W4 w')
          (first | exact hS | exact (Below.refl _ _).drew | exact hS.alloc hS.size _ | exact ((Below.refl _ _).drew).alloc (Nat.le_refl _) _ | exact (below_set4 hS (Nat.le_refl _) _ _ _ _) | exact ((Below.refl _ _).alloc (Nat.le_refl _) _).drew)
          (first
            | (go_at_call 9; refine (liftC (W0 := W4) (cB _ (E4.next ‹Below W4.heap.size W4 _›)) ?_).mono ?_; (exact ‹Below W4.heap.size W4 _›); rintro r w5 ⟨rfl, hS, hC5, hF5, hH5⟩))
        · go_wp2_with fail
          go_meet
          exact ⟨_, rfl, rfl, Blk.made w5 k0 n0 D0 E0, hS.alloc hS.size _⟩
        · have KZ : Blk w5 W4.heap.size 0 false ⟨#[]⟩ ⟨#[]⟩ := (hH5 _ (by simp)).trans (Blk.made W4 0 false ⟨#[]⟩ ⟨#[]⟩)
          go_wp2_with fail
          go_meet
          exact ⟨_, rfl, rfl, KZ.set k0 n0 D0 E0, below_set4 hS (Nat.le_refl _) _ _ _ _⟩
      case rest =>
        obtain ⟨gb, rfl, rfl, KB, hSB⟩ := hcut
        have KA5 := KA.next hSB
        have BB : Below w.heap.size w wc := below_on BA hSB
        have E5 := E4.next hSB
        clear KA BA E4 hSB
        clear cB
        generalize wc = W5 at *
        go_upto_region 14 with fail
        go_cut [17, 18] (fun bv iv wx => ∃ g, bv = .pointer (some ⟨g, 0, none⟩) ∧ iv = .bool true ∧ Blk wx g k7 n7 D7 E7 ∧ Below W5.heap.size W5 wx)
        case first =>
          go_region_held3 (fun w' => Below W5.heap.size W5 w')
            (first | exact hS | exact (Below.refl _ _).drew | exact hS.alloc hS.size _ | exact ((Below.refl _ _).drew).alloc (Nat.le_refl _) _ | exact (below_set4 hS (Nat.le_refl _) _ _ _ _) | exact ((Below.refl _ _).alloc (Nat.le_refl _) _).drew)
            (first
              | (go_at_call 9; refine (liftC (W0 := W5) (cC _ (E5.next ‹Below W5.heap.size W5 _›)) ?_).mono ?_; (exact ‹Below W5.heap.size W5 _›); rintro r w5 ⟨rfl, hS, hC5, hF5, hH5⟩))
          · go_wp2_with fail
            go_meet
            exact ⟨_, rfl, rfl, Blk.made w5 k7 n7 D7 E7, hS.alloc hS.size _⟩
          · have KZ : Blk w5 W5.heap.size 0 false ⟨#[]⟩ ⟨#[]⟩ := (hH5 _ (by simp)).trans (Blk.made W5 0 false ⟨#[]⟩ ⟨#[]⟩)
            go_wp2_with fail
            go_meet
            exact ⟨_, rfl, rfl, KZ.set k7 n7 D7 E7, below_set4 hS (Nat.le_refl _) _ _ _ _⟩
        case rest =>
          obtain ⟨gc, rfl, rfl, KC, hSC⟩ := hcut
          have KA6 := KA5.next hSC
          have KB6 := KB.next hSC
          have BC : Below w.heap.size w wc := below_on BB hSC
          clear KA5 KB BB E5 hSC cC
          go_wp2_with fail
          refine (cW _).mono ?_
          rintro r w7 ⟨rfl, hw7⟩
          have KA7 := KA6.next hw7
          have KB7 := KB6.next hw7
          have KC7 := KC.next hw7
          have B7 : Below w.heap.size w w7 := below_on BC hw7
          clear KA6 KB6 KC BC hw7 cW
          go_wp2_with fail
          refine (cF _).mono ?_
          rintro r w8 ⟨rfl, hw8⟩
          have KA8 := KA7.next hw8
          have KB8 := KB7.next hw8
          have KC8 := KC7.next hw8
          have B8 : Below w.heap.size w w8 := below_on B7 hw8
          clear KA7 KB7 KC7 B7 hw8 cF
          go_wp2_with fail
          refine (r7 _).mono ?_
          rintro r w9 ⟨rfl, hw9⟩
          have KA9 := KA8.next hw9
          have KB9 := KB8.next hw9
          have KC9 := KC8.next hw9
          have B9 : Below w.heap.size w w9 := below_on B8 hw9
          clear KA8 KB8 KC8 B8 hw9 r7
          have la := KA9.lt
          have lb := KB9.lt
          have lc := KC9.lt
          obtain ⟨p0, p1, p2, p3⟩ := KA9.cells
          obtain ⟨q0, q1, q2, q3⟩ := KB9.cells
          obtain ⟨t0, t1, t2, t3⟩ := KC9.cells
          have eG := eqG
          have e4 := eql4
          by_cases hi0 : i = 0
          · rw [decide_eq_true hi0] at hge1 hge2
            clear cG hi0
            go_wp2_with fail
            refine (cI _).mono ?_
            rintro r w' ⟨rfl, rfl⟩
            go_wp2
            go_ret
            exact ⟨rfl, B9.alloc B9.size _⟩
          · rw [decide_eq_false hi0] at hge1 hge2
            have cG := cG (by omega)
            clear hi0
            go_wp2_with fail
            refine (cG _).mono ?_
            rintro r w' ⟨rfl, rfl⟩
            go_wp2_with fail
            refine (cI _).mono ?_
            rintro r w' ⟨rfl, rfl⟩
            go_wp2
            go_ret
            exact ⟨rfl, B9.alloc B9.size _⟩
theorem gaps_any (s f : ByteArray) (A t : Nat) (w : World) (he : Env w) (hs : s.size ≤ maxLen) (hf : f.size ≤ maxLen) (hA : A ≤ 255) (ht : t ≤ 255) :
    Calls Tryz.prog 6 #[.string s, .string f, .int .u8 A, .int .u8 t] w fun e w' => e = .returned (.bool true) ∧ Below w.heap.size w w' := by
  by_cases h : s.size < 1 ∨ 30 < s.size ∨ 30 < f.size
  · exact gaps_short s f A t w he hs hf h
  · exact gaps_core s f A t (t % 5) w he (by omega) (by omega) (by omega) hA rfl ht
end Go.Proofs.YtiainpdfidgcfaaGreatDoor
