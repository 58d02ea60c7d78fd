/- The law BrkVersions: its walk. -/
import Derived.Test.YtnmfiadljhbmiaaDoorWh
set_option linter.unusedVariables false
namespace Go.Proofs.YtnmfiadljhbmiaaDoor
open Go.RowKit

theorem lines_le (o : Bool) (L : List UInt8) : (M.lines o L).length ≤ L.length + 1 := by
  suffices h : ∀ (f a i : Nat), (M.linesF o L f a i).length ≤ f + 1 from h _ _ _
  intro f
  induction f with
  | zero => intro a i; unfold M.linesF; split <;> simp
  | succ f ih =>
    intro a i
    unfold M.linesF
    split
    · split
      · have := ih a (i + 1); omega
      · have := ih (i + M.brkN o (L.drop i)) (i + M.brkN o (L.drop i)); simp; omega
    · split <;> simp

set_option maxRecDepth 100000 in
set_option maxHeartbeats 1000000 in
theorem versions_any (s : ByteArray) (w : World) (hT : Tabs w) (hs : s.size ≤ maxLen) :
    Calls Tryd.prog 5 #[.string s] w fun r w' => r = .returned (.bool true) ∧ Below w.heap.size w w' := by
  unfold maxLen at hs
  have HLl := Lib.hid (sz_list s)
  go_enter Tryd.func5, Tryd.ntmps5
  go_wp2_with fail
  refine (known_any w hT).mono ?_
  rintro r w1 ⟨rfl, b1⟩
  by_cases h3 : 300 < s.size
  · have d3 : decide ((300 : Int) < (s.size : Int)) = true := by simp; omega
    go_wp2
    go_ret
    exact ⟨rfl, b1⟩
  · have d3 : decide ((300 : Int) < (s.size : Int)) = false := by simp; omega
    have hs3 : s.size ≤ 300 := by omega
    clear h3 hs
    go_wp2_with fail
    go_loop [3, 4] (fun m v => ∃ k : Nat, v = .int .i64 k ∧ k ≤ s.size ∧ m = .bool (M.more s.data.toList k)) (fun _ v => s.size - (intOf v).toNat)
    case atStart => exact ⟨0, rfl, Nat.zero_le _, rfl⟩
    case round =>
      obtain ⟨k, rfl, hk, rfl⟩ := hrel
      by_cases hlt : k < s.size
      · have hltd : decide (k < s.size) = true := by simpa using hlt
        have cA := break_in 11 s k w1 hlt (by omega)
        have cB := break_in 12 s k w1 hlt (by omega)
        rw [show isOld 11 = true from rfl] at cA
        rw [show isOld 12 = false from rfl] at cB
        have h1 := M.brkN_new (s.data.toList.drop k)
        have h2 := M.brkN_old (s.data.toList.drop k)
        have hmore : M.more s.data.toList (k + 1) = (M.more s.data.toList k || M.moreB s.data.toList k) := rfl
        have hmB : M.moreB s.data.toList k = (decide (0 < M.brkN true (s.data.toList.drop k)) && (M.brkN false (s.data.toList.drop k) == 0)) := rfl
        have hb3 := M.brkN_le3 true (s.data.toList.drop k)
        obtain ⟨A, hA⟩ : ∃ A, M.brkN true (s.data.toList.drop k) = A := ⟨_, rfl⟩
        obtain ⟨B, hB⟩ : ∃ B, M.brkN false (s.data.toList.drop k) = B := ⟨_, rfl⟩
        rw [hA] at cA h1 h2 hmB hb3
        rw [hB] at cB h1 h2 hmB
        clear hA hB
        obtain ⟨m, hm⟩ : ∃ m, M.more s.data.toList k = m := ⟨_, rfl⟩
        rw [hm] at hmore ⊢
        rw [hmB] at hmore
        clear hm hmB
        have hcases : (B ≠ 0 ∧ A = B) ∨ (B = 0 ∧ A = 0) ∨ (B = 0 ∧ 2 ≤ A) := by omega
        clear h1 h2
        rcases hcases with ⟨hB, rfl⟩ | ⟨rfl, rfl⟩ | ⟨rfl, hA⟩
        · have t0 : 0 < A := by omega
          have t1 : decide (0 < A) = true := by simpa using t0
          have t2 : ((A : Int) == 0) = false := by simp; omega
          have HM : Hid (M.more s.data.toList (k + 1) = m) := by rw [Hid, hmore]; simp; omega
          clear hmore hB
          go_wp2_with fail
          refine cA.mono ?_
          rintro r w' ⟨rfl, rfl⟩
          go_wp2_with fail
          refine cB.mono ?_
          rintro r w' ⟨rfl, rfl⟩
          clear cA cB
          cases m
          · go_wp2
            go_round
            case rel => exact ⟨k + 1, by go_num, by omega, by rw [HM.out]⟩
            case measure => simp [intOf]; omega
          · go_wp2
            go_round
            case rel => exact ⟨k + 1, by go_num, by omega, by rw [HM.out]⟩
            case measure => simp [intOf]; omega
        · have HM : Hid (M.more s.data.toList (k + 1) = m) := by rw [Hid, hmore]; simp
          clear hmore
          go_wp2_with fail
          refine cA.mono ?_
          rintro r w' ⟨rfl, rfl⟩
          go_wp2_with fail
          refine cB.mono ?_
          rintro r w' ⟨rfl, rfl⟩
          clear cA cB
          cases m
          · go_wp2
            go_round
            case rel => exact ⟨k + 1, by go_num, by omega, by rw [HM.out]⟩
            case measure => simp [intOf]; omega
          · go_wp2
            go_round
            case rel => exact ⟨k + 1, by go_num, by omega, by rw [HM.out]⟩
            case measure => simp [intOf]; omega
        · have t0 : 0 < A := by omega
          have t1 : decide (0 < A) = true := by simpa using t0
          have t2 : decide ((A : Int) < 2) = false := by simp; omega
          have HM : Hid (M.more s.data.toList (k + 1) = true) := by rw [Hid, hmore]; simp; omega
          clear hmore
          go_wp2_with fail
          refine cA.mono ?_
          rintro r w' ⟨rfl, rfl⟩
          go_wp2_with fail
          refine cB.mono ?_
          rintro r w' ⟨rfl, rfl⟩
          clear cA cB
          cases m
          · go_wp2
            go_round
            case rel => exact ⟨k + 1, by go_num, by omega, by rw [HM.out]⟩
            case measure => simp [intOf]; omega
          · go_wp2
            go_round
            case rel => exact ⟨k + 1, by go_num, by omega, by rw [HM.out]⟩
            case measure => simp [intOf]; omega
      · obtain rfl : k = s.size := by omega
        have hltd : decide (s.size < s.size) = false := by simp
        have hv := M.lines_versions s.data.toList
        rw [← HLl.out] at hv
        have hll := lines_le true s.data.toList
        rw [← HLl.out] at hll
        have cA := lines_any 11 s w1 (by omega)
        have cB := fun w => lines_any 12 s w (by omega)
        rw [show isOld 11 = true from rfl] at cA
        simp only [show isOld 12 = false from rfl] at cB
        obtain ⟨X, hX⟩ : ∃ X, M.lines true s.data.toList = X := ⟨_, rfl⟩
        obtain ⟨Y, hY⟩ : ∃ Y, M.lines false s.data.toList = Y := ⟨_, rfl⟩
        obtain ⟨m, hm⟩ : ∃ m, M.more s.data.toList s.size = m := ⟨_, rfl⟩
        rw [hX, hY, hm] at hv
        rw [hX] at hll
        rw [hm]
        have HX := Lib.hid hX
        have HY := Lib.hid hY
        have HV := Lib.hid hv
        clear hX hY hm hv hlt
        go_wp2_with fail
        refine cA.mono ?_
        rintro r w2 ⟨⟨v2, rfl, o2⟩, b2⟩
        rw [HX.out] at o2
        go_wp2_with fail
        refine (cB _).mono ?_
        rintro r w3 ⟨⟨v3, rfl, o3⟩, b3⟩
        rw [HY.out] at o3
        go_wp2_with fail
        refine (hlines_any v2 v3 X Y w3 (o2.sl.below b3) o3.sl (by omega)).mono ?_
        rintro r w4 ⟨rfl, b4⟩
        have B4 : Below w.heap.size w w4 := ((b1.trans (b2.mono b1.size)).trans (b3.mono (Nat.le_trans b1.size b2.size))).trans (b4.mono (Nat.le_trans b1.size (Nat.le_trans b2.size b3.size)))
        clear o2 o3 cA cB b1 b2 b3 b4
        cases m
        · rw [decide_eq_true (HV.out.2 rfl)]
          go_wp2
          go_ret
          exact ⟨rfl, B4⟩
        · rw [decide_eq_false (fun e => by have := HV.out.1 e; cases this)]
          go_wp2
          go_ret
          exact ⟨rfl, B4⟩

end Go.Proofs.YtnmfiadljhbmiaaDoor
