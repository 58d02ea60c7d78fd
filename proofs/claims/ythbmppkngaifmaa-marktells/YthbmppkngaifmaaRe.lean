/- Walks of the document's Way, Of, Off and of Within. -/
import Derived.Test.YthbmppkngaifmaaRd
import Derived.Test.YthbmppkngaifmaaWe
set_option linter.unusedVariables false
namespace Go.Proofs.Ythbmppkngaifmaa
open Go.RowKit

set_option maxRecDepth 100000 in
set_option maxHeartbeats 1000000 in
theorem rway_any (v : Int) (s : ByteArray) (w : World) (hs : s.size ≤ 100000) :
    Calls Try.prog 9 #[.int .i64 v, .string s] w fun e w' => e = .returned (.tuple #[.int .i64 (M.way (isOld v) s.data.toList).1, .int .i64 (M.way (isOld v) s.data.toList).2]) ∧ w = w' := by
  have hLl : s.size = s.data.toList.length := sz_list s
  have HLl := Lib.hid hLl
  clear hLl
  obtain ⟨R, hR⟩ : ∃ R, M.way (isOld v) s.data.toList = R := ⟨_, rfl⟩
  rw [hR]
  have HR := Lib.hid hR
  clear hR
  go_enter Try.func9, Try.ntmps9
  go_wp2
  go_loop [6, 7, 8] (fun p q k => ∃ (x y i : Nat), p = .int .i64 x ∧ q = .int .i64 y ∧ k = .int .i64 i ∧ i ≤ s.size ∧ x ≤ i ∧ y ≤ i ∧ Hid (M.go (isOld v) (s.data.toList.drop i) (x, y) = R)) (fun _ _ k => s.size - (intOf k).toNat)
  case atStart => exact ⟨0, 0, 0, rfl, rfl, rfl, Nat.zero_le _, Nat.le_refl _, Nat.le_refl _, HR.out⟩
  case round =>
    obtain ⟨x, y, i, rfl, rfl, rfl, hi, hx, hy, hst⟩ := hrel
    by_cases hlt : i < s.size
    · have hltd : decide (i < s.size) = true := by simpa using hlt
      have c1 := rbreak_in v s i w hlt hs
      have hl : s.data.toList.drop i ≠ [] := by intro e; have := congrArg List.length e; rw [List.length_drop, ← HLl.out] at this; simp at this; omega
      have h2 := M.stp_le (isOld v) (s.data.toList.drop i) hl
      rw [List.length_drop, ← HLl.out] at h2
      have h3 := M.go_step (isOld v) (s.data.toList.drop i) (x, y) hl
      rw [hst.out, List.drop_drop] at h3
      have g0 := getB s i hlt
      have b0 : M.by8 (s.data.toList.drop i) 0 = M.by8 s.data.toList i := by rw [M.by8_drop, Nat.add_zero]
      unfold M.mv at h3
      unfold M.stp at h2 h3
      rw [b0] at h3
      obtain ⟨n, hn⟩ : ∃ n, M.brkN (isOld v) (s.data.toList.drop i) = n := ⟨_, rfl⟩
      obtain ⟨c, hc⟩ : ∃ c, M.by8 s.data.toList i = c := ⟨_, rfl⟩
      rw [hn] at c1 h2 h3
      rw [hc] at h3 g0
      clear hn hc hst hl b0
      by_cases hz : n = 0
      · subst hz
        rw [if_pos rfl, if_pos rfl] at h3
        simp only at h3
        by_cases hk : 128 ≤ c ∧ c < 192
        · rw [colN_none c hk, Nat.add_zero] at h3
          have H3 := Lib.hid h3
          have d1 : decide ((c : Int) < 128) = false := by simp; omega
          have d2 : decide ((192 : Int) ≤ (c : Int)) = false := by simp; omega
          clear h3 hk h2
          go_wp2_with (go_at_call 21; refine c1.mono ?_; rintro r w' ⟨rfl, rfl⟩)
          go_round
          case rel => exact ⟨x, y, i + 1, rfl, rfl, by go_num, by omega, by omega, by omega, H3.out.symm⟩
          case measure => simp [intOf]; omega
        · rw [colN_col c hk] at h3
          have H3 := Lib.hid h3
          by_cases hk1 : c < 128
          · have d1 : decide ((c : Int) < 128) = true := by simp; omega
            clear h3 hk h2 hk1
            go_wp2_with (go_at_call 21; refine c1.mono ?_; rintro r w' ⟨rfl, rfl⟩)
            go_round
            case rel => exact ⟨x, y + 1, i + 1, rfl, by go_num, by go_num, by omega, by omega, by omega, H3.out.symm⟩
            case measure => simp [intOf]; omega
          · have d1 : decide ((c : Int) < 128) = false := by simp; omega
            have d2 : decide ((192 : Int) ≤ (c : Int)) = true := by simp; omega
            clear h3 hk h2 hk1
            go_wp2_with (go_at_call 21; refine c1.mono ?_; rintro r w' ⟨rfl, rfl⟩)
            go_round
            case rel => exact ⟨x, y + 1, i + 1, rfl, by go_num, by go_num, by omega, by omega, by omega, H3.out.symm⟩
            case measure => simp [intOf]; omega
      · rw [if_neg hz] at h2
        rw [if_neg hz, if_neg hz] at h3
        simp only at h3
        have d0 : decide (0 < n) = true := by simp; omega
        have hn1 : 1 ≤ n := by omega
        have H3 := Lib.hid h3
        clear h3 hz g0
        go_wp2_with (go_at_call 21; refine c1.mono ?_; rintro r w' ⟨rfl, rfl⟩)
        go_round
        case rel => exact ⟨x + 1, 0, i + n, by go_num, rfl, by go_num, by omega, by omega, by omega, H3.out.symm⟩
        case measure => simp [intOf]; omega
    · obtain rfl : i = s.size := by omega
      have hltd : decide (s.size < s.size) = false := by simp
      have h := hst.out
      rw [List.drop_eq_nil_of_le (by rw [← HLl.out]; omega), M.go_nil] at h
      have HF := Lib.hid h
      clear h hst hlt
      go_wp2
      go_ret2
      exact ⟨by rw [← HF.out]; rfl, rfl⟩

set_option maxRecDepth 100000 in
set_option maxHeartbeats 1000000 in
theorem rof_any (v : Int) (s : ByteArray) (off : Int) (w : World) (hs : s.size ≤ 100000) :
    Calls Try.prog 12 #[.int .i64 v, .string s, .int .i64 off] w fun e w' => e = .returned (.tuple #[.int .i64 (M.pl (isOld v) s.data.toList (clampN off s.size)).1, .int .i64 (M.pl (isOld v) s.data.toList (clampN off s.size)).2]) ∧ w = w' := by
  unfold M.pl
  by_cases h0 : off < 0
  · have c1 := rway_any v ByteArray.empty w (by decide)
    rw [show ByteArray.empty.data.toList = s.data.toList.take 0 from rfl] at c1
    rw [show clampN off s.size = 0 by unfold clampN; omega]
    have hk : ¬ ((s.size : Int) < 0) := by omega
    generalize M.way (isOld v) (s.data.toList.take 0) = p at *
    go_enter Try.func12, Try.ntmps12
    go_wp2_with (go_at_call 9; refine c1.mono ?_; rintro r w' ⟨rfl, rfl⟩)
    go_ret2
    exact ⟨rfl, rfl⟩
  · obtain ⟨k, rfl⟩ := Int.eq_ofNat_of_zero_le (show 0 ≤ off by omega)
    by_cases h1 : s.size < k
    · have c1 := rway_any v s w hs
      rw [show clampN (k : Int) s.size = s.size by unfold clampN; omega]
      rw [show s.data.toList.take s.size = s.data.toList by rw [sz_list, List.take_length]]
      generalize M.way (isOld v) s.data.toList = p at *
      clear h0
      go_enter Try.func12, Try.ntmps12
      go_wp2_with (go_at_call 9; refine c1.mono ?_; rintro r w' ⟨rfl, rfl⟩)
      go_ret2
      exact ⟨rfl, rfl⟩
    · have c1 := rway_any v (s.extract 0 k) w (by rw [sz_list, extract0_list, List.length_take, ← sz_list]; omega)
      rw [extract0_list] at c1
      rw [show clampN (k : Int) s.size = k by unfold clampN; omega]
      have hk : k ≤ s.size := by omega
      generalize M.way (isOld v) (s.data.toList.take k) = p at *
      clear h0
      go_enter Try.func12, Try.ntmps12
      go_wp2_with (go_at_call 9; refine c1.mono ?_; rintro r w' ⟨rfl, rfl⟩)
      go_ret2
      exact ⟨rfl, rfl⟩

end Go.Proofs.Ythbmppkngaifmaa
