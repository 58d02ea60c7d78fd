/- Walks: whole, Norm. -/
import Derived.Test.YthgkmcidlcdjlaaDoorWb
set_option linter.unusedVariables false
namespace Go.Proofs.YthgkmcidlcdjlaaDoor
open Go.RowKit

theorem whole_mem (w w1 : World) (D : ByteArray) (ho : w1.ownsRow w.heap.size 5 1 (.slice (some ⟨w.heap.size, 0, none⟩) (1 + D.size) (1 + D.size)) (1 + D.size) (madeCells (Value.int .u8 0).cells ((1 + D.size) * 1)).toList) (hg : w.grownBy w1 none) :
    w1.cell? ⟨w.heap.size, 0, none⟩ = some (.int .u8 0) ∧ w1.frozen? ⟨w.heap.size, 0, none⟩ = false ∧ ∃ W3, (∀ ty, (Builtin.copy_ #[22, 9] ty #[.slice (some ⟨w.heap.size, 1, none⟩) D.size D.size, .string D]).run Tryd.prog (w1.setCell ⟨w.heap.size, 0, none⟩ (.int .u8 45)) = .ok (goInt D.size) W3) ∧ (∀ cap, (convert 22 9 (.slice (some ⟨w.heap.size, 0, none⟩) (1 + D.size) cap)).run Tryd.prog W3 = .ok (.string (bA (45 :: D.data.toList))) W3) ∧ (∀ cap, (convert 22 9 (.slice (some ⟨w.heap.size, 1, none⟩) D.size cap)).run Tryd.prog W3 = .ok (.string (bA D.data.toList)) W3) ∧ Below w.heap.size w W3 := by
  have hr := Row.made ho
  have hc := hr.cell 0 (by simp; omega)
  have hf := hr.frozen 0
  refine ⟨by rw [hc]; simp, hf, ?_⟩
  have h2 := hr.set 0 45
  have hb : Below w.heap.size w w1 := (Below.refl _ _).grown hg (Nat.le_refl _) (fun k hk => by cases hk)
  rw [show (List.replicate (1 + D.size) (0 : UInt8)).set 0 45 = 45 :: List.replicate D.size 0 by rw [Nat.add_comm, List.replicate_succ]; rfl] at h2
  refine ⟨_, fun ty => Lib.run_copy_row_string _ 22 9 ty 5 w.heap.size 1 D.size D.size D _ 5 Tryd.underlying22 Tryd.info5s h2 (Nat.le_refl _) (by simp [Lib.byteCells]; omega), ?_⟩
  have hR3 : Row _ w.heap.size (45 :: D.data.toList) := h2.setRow (45 :: D.data.toList)
  have e : (List.take 1 (Lib.byteCells (45 :: List.replicate D.size 0)).toArray.toList ++ Lib.byteCells D.data.toList ++ List.drop (1 + D.size) (Lib.byteCells (45 :: List.replicate D.size 0)).toArray.toList) = Lib.byteCells (45 :: D.data.toList) := by
    rw [List.drop_of_length_le (by simp [Lib.byteCells]; omega), List.append_nil]
    simp [Lib.byteCells]
  rw [e]
  have hv1 := Row.conv0 hR3
  have hv2 := Row.conv (p := [45]) (l := D.data.toList) (q := []) (by simpa using hR3)
  rw [List.length_cons, ← sz_list, Nat.add_comm] at hv1
  rw [← sz_list] at hv2
  exact ⟨hv1, hv2, below_setRow (hb.setCell (Nat.le_refl _) _) (Nat.le_refl _) _⟩

set_option maxRecDepth 100000 in
set_option maxHeartbeats 2000000 in
theorem whole_any (neg : Bool) (s : ByteArray) (w : World) (hs : s.size ≤ 100000) (hd : M.allD 10 s.data.toList = true) :
    Calls Tryd.prog 32 #[.bool neg, .string s] w fun e w' => e = .returned (.string (tx (M.sgn neg (M.val 10 s.data.toList)))) ∧ Below w.heap.size w w' := by
  have c1 := trimLeft_any s w (by omega)
  rw [M.strip_all _ hd] at c1
  obtain ⟨n, hn⟩ : ∃ n, M.val 10 s.data.toList = n := ⟨_, rfl⟩
  have hlt := M.val_lt 10 s.data.toList hd
  rw [hn, ← sz_list] at hlt
  rw [hn] at c1 ⊢
  clear hn hd
  by_cases hz : n = 0
  · subst hz
    rw [if_pos rfl] at c1
    rw [M.sgn_zero, show tx 0 = ⟨#[48]⟩ by unfold tx; rw [M.txt_zero]; rfl]
    rw [show bA [] = ⟨#[]⟩ from rfl] at c1
    clear hlt
    go_enter Tryd.func32, Tryd.ntmps32
    go_wp2_with (go_at_call 43; refine c1.mono ?_; rintro r w' ⟨rfl, rfl⟩)
    go_ret
    exact ⟨rfl, Below.refl _ _⟩
  · rw [if_neg hz] at c1
    have hp : 0 < (M.dg n).length := M.dg_len_pos n
    have hle : (M.dg n).length ≤ s.size := by
      refine M.dg_len_le n s.size ?_ hlt
      rcases Nat.eq_zero_or_pos s.size with h | h
      · rw [h] at hlt; simp at hlt; omega
      · exact h
    have ht := M.txt_sgn neg n (by omega)
    obtain ⟨L, hL⟩ : ∃ L, M.dg n = L := ⟨_, rfl⟩
    rw [hL] at c1 hp hle ht
    clear hL hz hlt
    have HT := Lib.hid ht
    clear ht
    obtain ⟨D, hD⟩ : ∃ D, bA L = D := ⟨_, rfl⟩
    have hDs : D.size = L.length := by rw [← hD, bA_size]
    have hDl : D.data.toList = L := by rw [← hD, bA_toList]
    rw [hD] at c1
    have hDne : (D.toList == []) = false := by rw [ByteArray.toList_eq, hDl]; cases L; simp at hp; rfl
    have hDne2 : D.toList.isEmpty = false := by rw [ByteArray.toList_eq, hDl]; cases L; simp at hp; rfl
    have hD0 : 0 < D.size := by omega
    have hD1 : D.size ≤ 100000 := by omega
    have HD := Lib.hid hDl
    have HDs := Lib.hid hDs
    clear hDl hDs hD hp hle
    obtain ⟨i0, hi, hz0, hz1, hz2⟩ := info_parts Tryd.info5
    go_enter Tryd.func32, Tryd.ntmps32
    go_wp2_with fail
    refine c1.mono ?_
    rintro r w' ⟨rfl, rfl⟩
    clear c1
    go_wp2_with (first | (at_make; refine wpList_make_full w rfl (.tmp 12) (.tmp 12) 22 rfl w.heap.size 5 i0 (.int .u8 0) 1 Tryd.underlying22 hi hz0 hz1 .i64 .i64 _ _ (1 + D.size) rfl rfl (by simp) (by simp) (by rw [hz2]; omega) (by unfold maxLen; omega) (Nat.le_refl _) ?_; intro w1 ho1 hg1; obtain ⟨hc1, hf1, W3, hcp, hv1, hv2, hB3⟩ := whole_mem w w1 D ho1 hg1; clear ho1 hg1) | fail)
    · have hE : D = ByteArray.empty := by assumption
      rw [hE] at hD0
      exact absurd hD0 (by decide)
    · have hq : neg = true := by assumption
      subst hq
      go_ret
      refine ⟨ret_str ?_, hB3⟩
      unfold tx; rw [HT.out, HD.out]; rfl
    · have hq : neg = false := by assumption
      subst hq
      go_ret
      refine ⟨ret_str ?_, hB3⟩
      unfold tx; rw [HT.out, HD.out]; rfl

theorem sz_ok {s : ByteArray} (h : M.okD 10 s.data.toList = true) : M.allD 10 s.data.toList = true := ((M.okD_iff _ _).1 h).2
set_option maxRecDepth 100000 in
theorem norm_yes (neg : Bool) (s : ByteArray) (w : World) (hs : s.size ≤ 100000) (hd : M.okD 10 s.data.toList = true) :
    Calls Tryd.prog 17 #[.bool neg, .string s] w fun e w' => e = .returned (.string (tx (M.sgn neg (M.val 10 s.data.toList)))) ∧ Below w.heap.size w w' := by
  have c1 := decimal_any s w (by omega)
  have c2 := whole_any neg s w hs (sz_ok hd)
  rw [hd] at c1
  clear hd
  generalize tx (M.sgn neg (M.val 10 s.data.toList)) = R at *
  go_enter Tryd.func17, Tryd.ntmps17
  go_wp2_with fail
  refine c1.mono ?_
  rintro r w' ⟨rfl, rfl⟩
  go_wp2_with fail
  refine c2.mono ?_
  rintro r w' ⟨rfl, hb⟩
  go_wp2
  go_ret
  exact ⟨rfl, hb⟩
theorem norm_no (neg : Bool) (s : ByteArray) (w : World) (hs : s.size ≤ 100000) (hd : M.okD 10 s.data.toList = false) :
    Calls Tryd.prog 17 #[.bool neg, .string s] w fun e w' => e = .returned (.string ⟨#[]⟩) ∧ w = w' := by
  have c1 := decimal_any s w (by omega)
  rw [hd] at c1
  clear hd
  go_enter Tryd.func17, Tryd.ntmps17
  go_wp2_with (go_at_call 31; refine c1.mono ?_; rintro r w' ⟨rfl, rfl⟩)
  go_ret
  exact ⟨rfl, rfl⟩
end Go.Proofs.YthgkmcidlcdjlaaDoor
