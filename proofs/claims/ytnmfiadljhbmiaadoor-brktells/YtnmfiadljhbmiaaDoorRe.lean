/- Walk of the document's Lines (targumref1). -/
import Derived.Test.YtnmfiadljhbmiaaDoorWd
import Derived.Test.YtnmfiadljhbmiaaDoorRd
set_option linter.unusedVariables false
namespace Go.Proofs.YtnmfiadljhbmiaaDoor
open Go.RowKit

set_option maxRecDepth 100000 in
set_option maxHeartbeats 4000000 in
theorem rlines_any (vv : Int) (s : ByteArray) (w : World) (hs : s.size ≤ 100000) :
    Calls Tryd.prog 24 #[.int .i64 vv, .string s] w fun r w' => LinesPost (isOld vv) s.data.toList w.heap.size r w' ∧ Below w.heap.size w w' := by
  have hLl : s.size = s.data.toList.length := sz_list s
  have HLl := Lib.hid hLl
  clear hLl
  obtain ⟨o, ho⟩ : ∃ o, isOld vv = o := ⟨_, rfl⟩
  rw [ho]
  have HO := Lib.hid ho
  clear ho
  obtain ⟨i0, hi, hz0, hz1, hz2⟩ := info_parts Tryd.info23
  go_enter Tryd.func24, Tryd.ntmps24
  go_wp2_with fail
  go_loopw [5, 6, 7] (fun v a i wr => ∃ (p k : Nat) (ls : List (Nat × Nat × Nat)), a = .int .i64 p ∧ i = .int .i64 k ∧ p ≤ k ∧ k ≤ s.size ∧ ls.length ≤ k ∧ Hid (ls ++ M.rest o s.data.toList p k = M.lines o s.data.toList) ∧ OwnL wr w.heap.size v ls ∧ Below w.heap.size w wr) (fun _ _ i _ => s.size - (intOf i).toNat)
  case atStart => exact ⟨0, 0, [], rfl, rfl, Nat.le_refl _, Nat.zero_le _, Nat.le_refl _, M.rest_zero _ _, World.ownsRow_nil _ _ _ _, Below.refl _ _⟩
  case round =>
    obtain ⟨p, k, ls, rfl, rfl, hpk, hk, hlk, hst, hown, hbw⟩ := hrel
    have hwsz := hbw.size
    by_cases hlt : k < s.size
    · have hltd : decide (k < s.size) = true := by simpa using hlt
      have c1 := rbreak_in vv s k wr hlt hs
      rw [HO.out] at c1
      have hle := M.brkN_le o (s.data.toList.drop k)
      rw [List.length_drop, ← HLl.out] at hle
      have hskip := M.rest_skip o s.data.toList p k (by rw [← HLl.out]; exact hlt)
      have hbrk := M.rest_brk o s.data.toList p k (by rw [← HLl.out]; exact hlt)
      obtain ⟨n, hn⟩ : ∃ n, M.brkN o (s.data.toList.drop k) = n := ⟨_, rfl⟩
      rw [hn] at c1 hle hskip hbrk
      by_cases hz : n = 0
      · subst hz
        have hs1 := hskip rfl
        have h := hst.out
        rw [hs1] at h
        have HS := Lib.hid h
        clear h hs1 hskip hbrk hn hst hle hi hz0 hz1 hz2
        go_wp2_with (go_at_call 11; refine c1.mono ?_; rintro r w' ⟨rfl, rfl⟩)
        go_roundw
        case rel => exact ⟨p, k + 1, ls, rfl, by go_num, by omega, by omega, by omega, HS.out, hown, hbw⟩
        case measure => simp [intOf]; omega
      · have hs1 := hbrk hz
        have h := hst.out
        rw [hs1, ← List.singleton_append, ← List.append_assoc] at h
        have HS := Lib.hid h
        have hn1 : 1 ≤ n := by omega
        have hnb : ((n : Int) == 0) = false := by simp; omega
        clear h hs1 hskip hbrk hn hst hz
        go_wp2_with fail
        refine c1.mono ?_
        rintro r w' ⟨rfl, rfl⟩
        clear c1
        go_wp2_with (first | (at_builtin; refine wpList_append_own _ rfl (.tmp 21) (.tmp 28) 31 rfl w.heap.size 23 i0 (.agg #[.int .i64 0, .int .i64 0, .int .i64 0]) 3 24 Tryd.underlying31 hi hz0 hz1 hz2 rfl (by decide) u5 ls.length (cells3 ls) rfl (hown.alloc _) ⟨wr.heap.size, 0, none⟩ 1 1 (cell3 (p, k, k + n)) rfl rfl (cell3_news _ _ _) (cell3_one _) (by unfold maxLen; omega) (by omega) (by simp; omega) ?_; intro v5 w5 hown5 hgrow5 _; have hb5 : Below w.heap.size w w5 := (hbw.alloc hwsz _).grown hgrow5 (by simp; omega) (fun k hk => (hown.lt k hk).1); have HO5 := Lib.hid (OwnL.snoc hown5); clear hgrow5 hown5 hown) | fail)
        go_roundw
        case rel => exact ⟨k + n, k + n, ls ++ [(p, k, k + n)], by go_num, by go_num, Nat.le_refl _, by omega, by simp; omega, HS.out, HO5.out, hb5⟩
        case measure => simp [intOf]; omega
    · obtain rfl : k = s.size := by omega
      have hltd : decide (s.size < s.size) = false := by simp
      have hend := M.rest_end o s.data.toList p s.size (by rw [← HLl.out]; omega)
      rw [← HLl.out] at hend
      have h := hst.out
      rw [hend] at h
      clear hend hst hlt
      by_cases hp : p < s.size
      · have hpd : decide (p < s.size) = true := by simpa using hp
        rw [if_pos hp] at h
        have HS := Lib.hid h
        clear h
        go_wp2_with (first | (at_builtin; refine wpList_append_own _ rfl (.tmp 38) (.tmp 45) 31 rfl w.heap.size 23 i0 (.agg #[.int .i64 0, .int .i64 0, .int .i64 0]) 3 24 Tryd.underlying31 hi hz0 hz1 hz2 rfl (by decide) u5 ls.length (cells3 ls) rfl (hown.alloc _) ⟨wr.heap.size, 0, none⟩ 1 1 (cell3 (p, s.size, s.size)) rfl rfl (cell3_news _ _ _) (cell3_one _) (by unfold maxLen; omega) (by omega) (by simp; omega) ?_; intro v5 w5 hown5 hgrow5 _; have hb5 : Below w.heap.size w w5 := (hbw.alloc hwsz _).grown hgrow5 (by simp; omega) (fun k hk => (hown.lt k hk).1); have HO5 := Lib.hid (OwnL.snoc hown5); clear hgrow5 hown5 hown) | fail)
        go_ret
        exact ⟨⟨_, rfl, by rw [← HS.out]; exact HO5.out⟩, hb5⟩
      · have hpd : decide (p < s.size) = false := by simpa using hp
        rw [if_neg hp, List.append_nil] at h
        have HS := Lib.hid h
        clear h hi hz0 hz1 hz2
        go_wp2
        go_ret
        exact ⟨⟨_, rfl, by rw [← HS.out]; exact hown⟩, hbw⟩

end Go.Proofs.YtnmfiadljhbmiaaDoor
