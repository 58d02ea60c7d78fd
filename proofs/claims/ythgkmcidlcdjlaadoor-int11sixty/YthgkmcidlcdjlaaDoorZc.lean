/- The law Int11Gaps: its walk. -/
import Derived.Test.YthgkmcidlcdjlaaDoorZn
import Derived.Deep.RegionHeld3
set_option linter.unusedVariables false
namespace Go.Proofs.YthgkmcidlcdjlaaDoor
open Go.RowKit

theorem liftB {f : FuncId} {args : Array Value} {w : World} {v : Value} {W0 : World} (c : Calls Tryd.prog f args w fun r w' => r = .returned v ∧ Below w.heap.size w w') (h : Below W0.heap.size W0 w) :
    Calls Tryd.prog f args w fun r w' => r = .returned v ∧ Below W0.heap.size W0 w' := c.mono fun _ _ ⟨h1, h2⟩ => ⟨h1, h.trans (h2.mono h.size)⟩
set_option maxRecDepth 100000 in
theorem gaps_long (s : ByteArray) (A t : Nat) (w : World) (he : Env w) (hs : s.size ≤ maxLen) (h60 : 60 < s.size) :
    Calls Tryd.prog 6 #[.string s, .int .u8 A, .int .u8 t] w fun e w' => e = .returned (.bool true) ∧ Below w.heap.size w w' := by
  unfold maxLen at hs
  have hd : decide (60 < s.size) = true := by simpa using h60
  have hd2 : decide ((60 : Int) < (s.size : Int)) = true := by simp; omega
  go_enter Tryd.func6, Tryd.ntmps6
  go_wp2_with fail
  refine (known_any _ he).mono ?_
  rintro r w1 ⟨rfl, hb1⟩
  go_wp2
  go_ret
  exact ⟨rfl, hb1⟩
theorem intV_is (l : List UInt8) : ∃ Z : ByteArray, intV (M.isNeg l) (M.body l) = .tuple #[.string Z, .int .i64 (M.form l : Nat)] ∧ (M.form l ≠ 0 → Z = tx (zOf l)) := by
  by_cases h : M.form l = 0
  · refine ⟨⟨#[]⟩, ?_, fun k => absurd h k⟩
    unfold intV
    rw [if_pos (show M.fB (M.body l) = 0 from h), h]; rfl
  · refine ⟨tx (zOf l), ?_, fun _ => rfl⟩
    unfold intV
    rw [if_neg (show ¬ M.fB (M.body l) = 0 from h)]; rfl
set_option maxRecDepth 100000 in
theorem gaps_none (s : ByteArray) (A t : Nat) (w : World) (he : Env w) (h60 : s.size ≤ 60) (hf : M.form s.data.toList = 0 ∨ M.form s.data.toList = 4 ∨ M.form s.data.toList = 6) :
    Calls Tryd.prog 6 #[.string s, .int .u8 A, .int .u8 t] w fun e w' => e = .returned (.bool true) ∧ Below w.heap.size w w' := by
  have hd : decide (60 < s.size) = false := by simp; omega
  have hd2 : decide ((60 : Int) < (s.size : Int)) = false := by simp; omega
  have c1 := fun W => rint_any s W (by omega)
  obtain ⟨Z, hZ, _⟩ := intV_is s.data.toList
  rw [hZ] at c1
  have cF := fun W => form_any s W (by omega)
  clear hZ
  rcases hf with hf | hf | hf
  all_goals
    rw [hf] at c1 cF
    clear hf
    go_enter Tryd.func6, Tryd.ntmps6
    go_wp2_with fail
    refine (known_any _ he).mono ?_
    rintro r w1 ⟨rfl, hb1⟩
    go_wp2_with fail
    refine (c1 _).mono ?_
    rintro r w2 ⟨rfl, hb2⟩
    go_wp2_with fail
    refine (cF _).mono ?_
    rintro r w' ⟨rfl, rfl⟩
    go_wp2
    go_ret
    exact ⟨rfl, hb1.trans (hb2.mono hb1.size)⟩
set_option maxRecDepth 100000 in
set_option maxHeartbeats 4000000 in
theorem gaps_core (s : ByteArray) (A t p F T5 : Nat) (w : World) (he : Env w) (h60 : s.size ≤ 60) (hA : A ≤ 255) (ht : t ≤ 255) (hF : M.form s.data.toList = F) (hFs : F = 1 ∨ F = 2 ∨ F = 3 ∨ F = 5) (hp : p ≤ 1) (hps : p < s.size) (hbig : F < 3 → p + 1 < s.size)
    (hsg : ∀ q, q < p → (hq : q < s.size) → s[q] = 43 ∨ s[q] = 45) (hst1 : s[p] ≠ 43) (hst2 : s[p] ≠ 45) (hT5 : t % 5 = T5)
    (hlaw : ∀ K g, p + 1 + (if F < 3 then 1 else 0) ≤ K → M.form (M.ins K g s.data.toList) = F ∧ zOf (M.ins K g s.data.toList) = zOf s.data.toList) :
    Calls Tryd.prog 6 #[.string s, .int .u8 A, .int .u8 t] w fun e w' => e = .returned (.bool true) ∧ Below w.heap.size w w' := by
  have hd : decide (60 < s.size) = false := by simp; omega
  have hd2 : decide ((60 : Int) < (s.size : Int)) = false := by simp; omega
  have hF0 : F ≠ 0 := by omega
  have c1 := fun W => rint_any s W (by omega)
  obtain ⟨Z, hZ, hZ2⟩ := intV_is s.data.toList
  rw [hZ, hZ2 (by omega), hF] at c1
  have e1 : ((F : Int) == 0) = false := by simp; omega
  have e2 : ((F : Int) == 4) = false := by simp; omega
  have e3 : ((F : Int) == 6) = false := by simp; omega
  have g1 : ((s[p].toNat : Int) == 43) = false := neC (k := 43) (by omega) hst1
  have g2 : ((s[p].toNat : Int) == 45) = false := neC (k := 45) (by omega) hst2
  have hT5b : T5 ≤ 4 := by omega
  have hT5e : (t : Int) % 5 = (T5 : Int) := by omega
  have HSG := Lib.hid hsg
  have HFS := Lib.hid hFs
  clear hZ hZ2 hF hFs hst1 hst2 hsg hT5
  generalize hzz : tx (zOf s.data.toList) = TZ at *
  go_enter Tryd.func6, Tryd.ntmps6
  go_wp2_with fail
  refine (known_any _ he).mono ?_
  rintro r w1 ⟨rfl, hb1⟩
  go_wp2_with fail
  refine (c1 _).mono ?_
  rintro r w2 ⟨rfl, hb2⟩
  have B2 : Below w.heap.size w w2 := hb1.trans (hb2.mono hb1.size)
  clear c1 hb1 hb2
  go_wp2_with fail
  go_loop [9] (fun v => ∃ q : Nat, v = .int .i64 q ∧ q ≤ p) (fun v => p - (intOf v).toNat)
  case atStart => exact ⟨0, rfl, Nat.zero_le _⟩
  case round =>
    obtain ⟨q, rfl, hq⟩ := hrel
    have hqs : q < s.size := by omega
    have hltd : decide (q < s.size) = true := by simpa using hqs
    by_cases hqp : q < p
    · rcases HSG.out q hqp hqs with h43 | h45
      · have g : s[q].toNat = 43 := by rw [h43]; rfl
        clear h43 hlaw
        go_wp2
        go_round
        case rel => exact ⟨q + 1, by go_num, by omega⟩
        case measure => simp [intOf]; omega
      · have g : s[q].toNat = 45 := by rw [h45]; rfl
        clear h45 hlaw
        go_wp2
        go_round
        case rel => exact ⟨q + 1, by go_num, by omega⟩
        case measure => simp [intOf]; omega
    · obtain rfl : p = q := by omega
      by_cases hF3 : F < 3
      · have e4 : decide ((F : Int) < 3) = true := by simp; omega
        have hf0 : p + 1 < s.size := hbig hF3
        obtain ⟨rr, hrr⟩ : ∃ rr : Nat, Int.tmod (A : Int) ((s.size : Int) - ((p : Int) + 1)) = rr := ⟨(A % (s.size - (p + 1))), by
          rw [show ((s.size : Int) - ((p : Int) + 1)) = ((s.size - (p + 1) : Nat) : Int) by omega, Int.ofNat_tmod]⟩
        have hrl : rr < s.size - (p + 1) := by
          have h1 := Int.tmod_lt_of_pos (A : Int) (show (0 : Int) < ((s.size : Int) - ((p : Int) + 1)) by omega)
          omega
        obtain ⟨K, hK⟩ : ∃ K, K = p + 1 + 1 + rr := ⟨_, rfl⟩
        have hKe : (p : Int) + 1 + 1 + (rr : Int) = (K : Int) := by omega
        have hKs : K ≤ s.size := by omega
        have hKs2 : (K : Int) ≤ (s.size : Int) := by omega
        obtain ⟨hform, hz⟩ := hlaw K T5 (by rw [if_pos hF3]; omega)
        have hwr : IntKind.i64.wrap ((p : Int) + 1 + 1 + (rr : Int)) = (K : Int) := by rw [IntWalk.i64_in _ (by omega)]; omega
        have HKe := Lib.hid hKe
        clear hlaw hK
        obtain ⟨X1, hX1⟩ : ∃ X1, s.extract 0 K = X1 := ⟨_, rfl⟩
        obtain ⟨X2, hX2⟩ : ∃ X2, s.extract K s.size = X2 := ⟨_, rfl⟩
        have hs1 : X1.size ≤ 60 := by rw [← hX1]; simp; omega
        have hs2 : X2.size ≤ 60 := by rw [← hX2]; simp; omega
        have hcat : (X1 ++ bA (List.replicate T5 95) ++ X2).data.toList = M.ins K T5 s.data.toList := by
          rw [append_list, append_list, bA_toList, ← hX1, ← hX2, Lib.extract_to_end]
          unfold M.ins
          congr 2
          rw [ByteArray.data_extract, Array.toList_extract, List.extract_eq_take_drop, List.drop_zero]
          simp
        have hcs : (X1 ++ bA (List.replicate T5 95) ++ X2).size ≤ 900 := by rw [append_sz, append_sz, bA_size, List.length_replicate]; omega
        have cO := fun W hW => of_yes (X1 ++ bA (List.replicate T5 95) ++ X2) W hW (by omega) (by rw [hcat, hform]; exact hF0)
        rw [hcat, hz] at cO
        have cF := fun W => form_any (X1 ++ bA (List.replicate T5 95) ++ X2) W (by omega)
        rw [hcat, hform] at cF
        clear hform hz hcat hcs
        go_wp2_with fail
        go_loop [11, 12] (fun gv iv => ∃ i : Nat, iv = .int .i64 i ∧ i ≤ T5 ∧ gv = .string (bA (List.replicate i 95))) (fun _ iv => T5 - (intOf iv).toNat)
        case atStart => exact ⟨0, rfl, Nat.zero_le _, rfl⟩
        case round =>
          obtain ⟨i, rfl, hi, rfl⟩ := hrel
          have hgs : (bA (List.replicate i 95)).size = i := by rw [bA_size, List.length_replicate]
          by_cases hlt : i < T5
          · have hltd : decide ((i : Int) < (T5 : Int)) = true := by simp; omega
            have hltd2 : decide (i < T5) = true := by simp; omega
            have hnx : bA (List.replicate i 95) ++ ⟨#[95]⟩ = bA (List.replicate (i + 1) 95) := by rw [show (⟨#[95]⟩ : ByteArray) = bA [95] from rfl, bA_append, List.replicate_succ']
            clear cO cF
            go_wp2
            go_round
            case rel => exact ⟨i + 1, by go_num, by omega, by rw [← hnx]⟩
            case measure => simp [intOf]; omega
          · obtain rfl : i = T5 := by omega
            have hltd : decide ((i : Int) < (i : Int)) = false := by simp
            have hltd2 : decide (i < i) = false := by simp
            have hadd1 : ∀ W, (Op.stringOp .add X1 (bA (List.replicate i 95))).run Tryd.prog W = .ok (.string (X1 ++ bA (List.replicate i 95))) W := fun W => run_string_add_sum _ _ _ (by omega)
            have hadd2 : ∀ W, (Op.stringOp .add (X1 ++ bA (List.replicate i 95)) X2).run Tryd.prog W = .ok (.string (X1 ++ bA (List.replicate i 95) ++ X2)) W := fun W => run_string_add_sum _ _ _ (by rw [append_sz]; omega)
            generalize bA (List.replicate i 95) = GB at *
            go_wp2_with fail
            go_region_held3 (fun w' => Below w2.heap.size w2 w')
              (first | exact hS | exact (Below.refl _ _).drew)
              (first
                | (go_at_call 9; refine (liftB (W0 := w2) (cO _ (he.next (B2.trans ((‹Below w2.heap.size w2 _›).mono B2.size)))) ?_).mono ?_; (exact ‹Below w2.heap.size w2 _›); rintro r w3 ⟨rfl, hS⟩))
            have B3 : Below w.heap.size w w3 := B2.trans (hS.mono B2.size)
            go_wp2_with fail
            go_quiet ((go_at_call 12; exact Calls.quiet_of_same ((cF _).mono fun _ _ h => ⟨h.1, h.2.symm⟩)))
            go_wp2
            go_ret
            exact ⟨rfl, below_dN B3 _⟩
      · have e4 : decide ((F : Int) < 3) = false := by simp; omega
        have hf0 : p < s.size := hps
        obtain ⟨rr, hrr⟩ : ∃ rr : Nat, Int.tmod (A : Int) ((s.size : Int) - (p : Int)) = rr := ⟨(A % (s.size - (p))), by
          rw [show ((s.size : Int) - (p : Int)) = ((s.size - (p) : Nat) : Int) by omega, Int.ofNat_tmod]⟩
        have hrl : rr < s.size - (p) := by
          have h1 := Int.tmod_lt_of_pos (A : Int) (show (0 : Int) < ((s.size : Int) - (p : Int)) by omega)
          omega
        obtain ⟨K, hK⟩ : ∃ K, K = p + 1 + rr := ⟨_, rfl⟩
        have hKe : (p : Int) + 1 + (rr : Int) = (K : Int) := by omega
        have hKs : K ≤ s.size := by omega
        have hKs2 : (K : Int) ≤ (s.size : Int) := by omega
        obtain ⟨hform, hz⟩ := hlaw K T5 (by rw [if_neg hF3]; omega)
        have hwr : IntKind.i64.wrap ((p : Int) + 1 + (rr : Int)) = (K : Int) := by rw [IntWalk.i64_in _ (by omega)]; omega
        have HKe := Lib.hid hKe
        clear hlaw hK
        obtain ⟨X1, hX1⟩ : ∃ X1, s.extract 0 K = X1 := ⟨_, rfl⟩
        obtain ⟨X2, hX2⟩ : ∃ X2, s.extract K s.size = X2 := ⟨_, rfl⟩
        have hs1 : X1.size ≤ 60 := by rw [← hX1]; simp; omega
        have hs2 : X2.size ≤ 60 := by rw [← hX2]; simp; omega
        have hcat : (X1 ++ bA (List.replicate T5 95) ++ X2).data.toList = M.ins K T5 s.data.toList := by
          rw [append_list, append_list, bA_toList, ← hX1, ← hX2, Lib.extract_to_end]
          unfold M.ins
          congr 2
          rw [ByteArray.data_extract, Array.toList_extract, List.extract_eq_take_drop, List.drop_zero]
          simp
        have hcs : (X1 ++ bA (List.replicate T5 95) ++ X2).size ≤ 900 := by rw [append_sz, append_sz, bA_size, List.length_replicate]; omega
        have cO := fun W hW => of_yes (X1 ++ bA (List.replicate T5 95) ++ X2) W hW (by omega) (by rw [hcat, hform]; exact hF0)
        rw [hcat, hz] at cO
        have cF := fun W => form_any (X1 ++ bA (List.replicate T5 95) ++ X2) W (by omega)
        rw [hcat, hform] at cF
        clear hform hz hcat hcs
        go_wp2_with fail
        go_loop [11, 12] (fun gv iv => ∃ i : Nat, iv = .int .i64 i ∧ i ≤ T5 ∧ gv = .string (bA (List.replicate i 95))) (fun _ iv => T5 - (intOf iv).toNat)
        case atStart => exact ⟨0, rfl, Nat.zero_le _, rfl⟩
        case round =>
          obtain ⟨i, rfl, hi, rfl⟩ := hrel
          have hgs : (bA (List.replicate i 95)).size = i := by rw [bA_size, List.length_replicate]
          by_cases hlt : i < T5
          · have hltd : decide ((i : Int) < (T5 : Int)) = true := by simp; omega
            have hltd2 : decide (i < T5) = true := by simp; omega
            have hnx : bA (List.replicate i 95) ++ ⟨#[95]⟩ = bA (List.replicate (i + 1) 95) := by rw [show (⟨#[95]⟩ : ByteArray) = bA [95] from rfl, bA_append, List.replicate_succ']
            clear cO cF
            go_wp2
            go_round
            case rel => exact ⟨i + 1, by go_num, by omega, by rw [← hnx]⟩
            case measure => simp [intOf]; omega
          · obtain rfl : i = T5 := by omega
            have hltd : decide ((i : Int) < (i : Int)) = false := by simp
            have hltd2 : decide (i < i) = false := by simp
            have hadd1 : ∀ W, (Op.stringOp .add X1 (bA (List.replicate i 95))).run Tryd.prog W = .ok (.string (X1 ++ bA (List.replicate i 95))) W := fun W => run_string_add_sum _ _ _ (by omega)
            have hadd2 : ∀ W, (Op.stringOp .add (X1 ++ bA (List.replicate i 95)) X2).run Tryd.prog W = .ok (.string (X1 ++ bA (List.replicate i 95) ++ X2)) W := fun W => run_string_add_sum _ _ _ (by rw [append_sz]; omega)
            generalize bA (List.replicate i 95) = GB at *
            go_wp2_with fail
            go_region_held3 (fun w' => Below w2.heap.size w2 w')
              (first | exact hS | exact (Below.refl _ _).drew)
              (first
                | (go_at_call 9; refine (liftB (W0 := w2) (cO _ (he.next (B2.trans ((‹Below w2.heap.size w2 _›).mono B2.size)))) ?_).mono ?_; (exact ‹Below w2.heap.size w2 _›); rintro r w3 ⟨rfl, hS⟩))
            have B3 : Below w.heap.size w w3 := B2.trans (hS.mono B2.size)
            go_wp2_with fail
            go_quiet ((go_at_call 12; exact Calls.quiet_of_same ((cF _).mono fun _ _ h => ⟨h.1, h.2.symm⟩)))
            go_wp2
            go_ret
            exact ⟨rfl, below_dN B3 _⟩
end Go.Proofs.YthgkmcidlcdjlaaDoor
