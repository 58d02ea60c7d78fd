/- Walk of big.read: the pieces of decimal digits. -/
import Derived.Test.YthgkmcidlcdjlaaDoorWe
set_option linter.unusedVariables false
namespace Go.Proofs.YthgkmcidlcdjlaaDoor
open Go.RowKit

/-- The value of the digits from a up to b. -/
def seg (s : ByteArray) (a b : Nat) : Nat := M.val 10 ((s.data.toList.take b).drop a)
theorem seg_self (s : ByteArray) (a : Nat) : seg s a a = 0 := by
  unfold seg; rw [List.drop_of_length_le (by rw [List.length_take]; omega)]; rfl
theorem seg_succ (s : ByteArray) (a b : Nat) (hab : a ≤ b) (h : b < s.size) : seg s a (b + 1) = seg s a b * 10 + M.dv s[b] := by
  unfold seg
  rw [take_snoc s b h, List.drop_append_of_le_length (by rw [List.length_take, ← sz_list]; omega), M.val_snoc]
theorem seg_join (s : ByteArray) (a b : Nat) (hab : a ≤ b) (h : b ≤ s.size) : seg s 0 b = seg s 0 a * 10 ^ (b - a) + seg s a b := by
  unfold seg
  rw [List.drop_zero, List.drop_zero]
  have e : s.data.toList.take b = s.data.toList.take a ++ (s.data.toList.take b).drop a := by
    have := List.take_append_drop a (s.data.toList.take b)
    rw [List.take_take, Nat.min_eq_left hab] at this
    exact this.symm
  conv => lhs; rw [e]
  rw [M.val_append, List.length_drop, List.length_take, ← sz_list, Nat.min_eq_left h]
theorem seg_lt (s : ByteArray) (a b : Nat) (hd : M.allD 10 s.data.toList = true) (h : b ≤ s.size) : seg s a b < 10 ^ (b - a) := by
  unfold seg
  have h1 : M.allD 10 ((s.data.toList.take b).drop a) = true := by
    rw [M.allD_iff] at hd ⊢
    intro c hc
    exact hd c (List.mem_of_mem_take (List.mem_of_mem_drop hc))
  have := M.val_lt 10 _ h1
  rwa [List.length_drop, List.length_take, ← sz_list, Nat.min_eq_left h] at this
theorem seg_all (s : ByteArray) : seg s 0 s.size = M.val 10 s.data.toList := by
  unfold seg; rw [take_all, List.drop_zero]
theorem read_step (s : ByteArray) (ds : List Nat) (e lo T : Nat) (hlo : lo = e - 7) (he : e ≤ s.size)
    (h : M.pv ds + 10000000 ^ ds.length * seg s 0 e = T) : M.pv (ds ++ [seg s lo e]) + 10000000 ^ (ds ++ [seg s lo e]).length * seg s 0 lo = T := by
  rw [M.pv_snoc, List.length_append, List.length_cons, List.length_nil, Nat.zero_add, Nat.pow_succ, ← h, Nat.add_assoc, Nat.mul_assoc, ← Nat.mul_add]
  congr 2
  rw [seg_join s lo e (by omega) he]
  by_cases h7 : 7 ≤ e
  · rw [show e - lo = 7 by omega, show (10 : Nat) ^ 7 = 10000000 by decide]; omega
  · rw [show lo = 0 by omega, seg_self, Nat.zero_mul]; omega

def ReadPost (B : Nat) (s : ByteArray) (r : Ending) (w' : World) : Prop := ∃ v ps, r = .returned v ∧ Own w' B v ps ∧ M.Small ps ∧ M.pv ps = M.val 10 s.data.toList ∧ ps.length ≤ s.size
theorem own_made {w : World} {B : Nat} {v : Value} (h : w.ownsRow B 60 1 v 0 []) : Own w B v [] := h

set_option maxRecDepth 100000 in
set_option maxHeartbeats 4000000 in
theorem read_any (s : ByteArray) (w : World) (hs : s.size ≤ 100000) (hd : M.allD 10 s.data.toList = true) :
    Calls Tryd.prog 66 #[.string s] w fun r w' => ReadPost w.heap.size s r w' ∧ Below w.heap.size w w' := by
  have HD := Lib.hid hd
  clear hd
  obtain ⟨i0, hi, hz0, hz1, hz2⟩ := info_parts Tryd.info60
  have hdiv : s.size / 7 ≤ s.size := Nat.div_le_self _ _
  go_enter Tryd.func66, Tryd.ntmps66
  go_wp2_with (first | (at_make; refine wpList_make_own w rfl (.const (.int .i64 0)) (.tmp 10) 58 rfl w.heap.size 60 i0 (.int .u64 0) 1 Tryd.underlying58 hi hz0 hz1 .i64 .i64 _ (s.size / 7 + 1) rfl rfl (by omega) (by rw [hz2]; omega) (by unfold maxLen; omega) (Nat.le_refl _) ?_; intro w1 ho1 hg1; have hB1 : Below w.heap.size w w1 := (Below.refl _ _).grown hg1 (Nat.le_refl _) (fun k hk => by cases hk); have HO1 := Lib.hid (own_made ho1); clear ho1 hg1) | fail)
  go_loopw [3, 4] (fun sv ev wr => ∃ (ds : List Nat) (e : Nat) (z : Int), ev = .int .i64 z ∧ z ≤ e ∧ (e : Int) ≤ z + 6 ∧ (0 < e → z = e) ∧ e ≤ s.size ∧ e + ds.length ≤ s.size ∧ Hid (M.Small ds) ∧ Hid (M.pv ds + 10000000 ^ ds.length * seg s 0 e = M.val 10 s.data.toList) ∧ Hid (Own wr w.heap.size sv ds) ∧ Below w.heap.size w wr) (fun _ ev _ => (intOf ev).toNat)
  case atStart => exact ⟨[], s.size, s.size, rfl, Int.le_refl _, by omega, fun _ => rfl, Nat.le_refl _, by simp, M.Small.nil, by show _ = _; rw [seg_all]; simp [M.pv], HO1.out, hB1⟩
  case round =>
    obtain ⟨ds, e, z, rfl, hz1', hz2', hez, hes, hlen, hsd, hst, hown, hbw⟩ := hrel
    have hwsz : w.heap.size ≤ wr.heap.size := hbw.size
    by_cases he0 : 0 < e
    · obtain rfl := hez he0
      clear hez hz1' hz2'
      obtain ⟨lo, hlo⟩ : ∃ lo, lo = e - 7 := ⟨_, rfl⟩
      have hlo1 : lo ≤ e := by omega
      have hlo2 : e ≤ lo + 7 := by omega
      have hstep := read_step s ds e lo _ hlo hes hst.out
      have hseg := seg_lt s lo e HD.out hes
      have hseg7 : seg s lo e < 10000000 := Nat.lt_of_lt_of_le hseg (by
        have := Nat.pow_le_pow_right (show 0 < 10 by omega) (show e - lo ≤ 7 by omega)
        rw [show (10 : Nat) ^ 7 = 10000000 by decide] at this; exact this)
      have HSTEP := Lib.hid hstep
      have HLO := Lib.hid hlo
      clear hstep hseg hst
      have hed : decide ((0 : Int) < (e : Int)) = true := by simp; omega
      clear hlo
      by_cases h7 : 7 ≤ e
      all_goals
        go_wp2
        go_loop [5, 6] (fun qv iv => ∃ (i : Nat), iv = .int .i64 (i : Int) ∧ lo ≤ i ∧ i ≤ e ∧ qv = .int .u64 ((seg s lo i : Nat) : Int)) (fun _ iv => e - (intOf iv).toNat)
        case atStart => exact ⟨lo, by (have := HLO.out; go_num), Nat.le_refl _, hlo1, by rw [seg_self]; rfl⟩
        case round =>
          obtain ⟨i, rfl, hi1, hi2, rfl⟩ := hrel
          by_cases hie : i < e
          · have hied : decide (i < e) = true := by simpa using hie
            have c1 := digitAt_any s i wr (by omega)
            have hsl := seg_lt s lo i HD.out (by omega)
            have hsl6 : seg s lo i < 1000000 := Nat.lt_of_lt_of_le hsl (by
              have := Nat.pow_le_pow_right (show 0 < 10 by omega) (show i - lo ≤ 6 by omega)
              rw [show (10 : Nat) ^ 6 = 1000000 by decide] at this; exact this)
            have hss := seg_succ s lo i hi1 (by omega)
            have hdv := M.dv_le (s[i]'(by omega))
            have HSS := Lib.hid hss
            clear hss hsl
            go_wp2_with (go_at_call 57; refine c1.mono ?_; rintro r w' ⟨rfl, rfl⟩)
            go_round
            case rel => exact ⟨i + 1, by go_num, by omega, by omega, by rw [HSS.out]; go_num⟩
            case measure => simp [intOf]; omega
          · obtain rfl : i = e := by omega
            have hied : decide (i < i) = false := by simp
            have hown1 := hown.out
            have hsm1 := hsd.out.snoc hseg7
            obtain ⟨q, hq⟩ : ∃ q, seg s lo i = q := ⟨_, rfl⟩
            rw [hq] at hseg7 HSTEP hsm1 ⊢
            have HQ := Lib.hid hq
            have HSM1 := Lib.hid hsm1
            clear hq hown hsm1
            go_wp2_with (first | (at_builtin; refine wpList_append_own _ rfl (.tmp 32) (.tmp 34) 58 rfl w.heap.size 60 i0 (.int .u64 0) 1 8 Tryd.underlying58 hi hz0 hz1 hz2 rfl (by decide) _ ds.length (ds.map uc) rfl (World.ownsRow.alloc hown1 _) ⟨wr.heap.size, 0, none⟩ 1 1 [.int .u64 (q : Int)] rfl rfl (uc_news _ _ _) (uc_one _) (by unfold maxLen; omega) (by omega) (by simp; omega) ?_; intro v5 w5 hown5 hgrow5 _; have hb5 : Below w.heap.size w w5 := (hbw.alloc hwsz _).grown hgrow5 (by simp; omega) (fun k hk => (World.ownsRow.lt hown1 k hk).1); have HO5 := Lib.hid (Own.snoc hown5); clear hgrow5 hown5 hown1) | fail)
            go_roundw
            case rel => exact ⟨ds ++ [q], lo, (i : Int) - 7, rfl, by have := HLO.out; omega, by have := HLO.out; omega, fun h => by have := HLO.out; omega, by omega, by have := HLO.out; rw [List.length_append]; simp; omega, HSM1.out, HSTEP.out, HO5.out, hb5⟩
            case measure => simp [intOf]; omega
    · obtain rfl : e = 0 := by omega
      have hed : decide ((0 : Int) < z) = false := by simp; omega
      have hst1 := hst.out
      rw [seg_self, Nat.mul_zero, Nat.add_zero] at hst1
      have HST := Lib.hid hst1
      clear hst hst1
      go_wp2
      go_ret
      exact ⟨⟨_, ds, rfl, hown.out, hsd.out, HST.out, by omega⟩, hbw⟩
end Go.Proofs.YthgkmcidlcdjlaaDoor
