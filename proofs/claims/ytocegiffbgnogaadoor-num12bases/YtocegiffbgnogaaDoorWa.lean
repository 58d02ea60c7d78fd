/- Walks: digitAt, digitsOf, decimal, isStep, split, Good, trimLeftByte, TrimLeft. Walks: TrimLeft, CutPrefix, split, whole, Norm. Walks: whole, Norm. -/
import Derived.Test.YtocegiffbgnogaaDoorK
set_option linter.unusedVariables false
namespace Go.Proofs.YtocegiffbgnogaaDoor
open Go.RowKit

set_option maxRecDepth 100000 in
set_option maxHeartbeats 1000000 in
theorem digitAt_any (s : ByteArray) (i : Nat) (w : World) (h : i < s.size) :
    Calls Tryd.prog 56 #[.string s, .int .i64 i] w fun e w' => e = .returned (.int .u64 (M.dv s[i] : Nat)) ∧ w = w' := by
  obtain ⟨R, hR⟩ : ∃ R, M.dv s[i] = R := ⟨_, rfl⟩
  rw [hR]
  have HR := Lib.hid hR
  clear hR
  go_enter Tryd.func56, Tryd.ntmps56
  go_wp2
  all_goals
    go_ret
    refine ⟨ret_int ?_, rfl⟩
    rw [← HR.out]
    unfold M.dv
    clear HR
    generalize s[i].toNat = c at *
    repeat' split
    all_goals omega

set_option maxRecDepth 100000 in
set_option maxHeartbeats 1000000 in
theorem digitsOf_any (s : ByteArray) (b : Nat) (w : World) (hb : b ≤ 16) (hs : s.size ≤ 1000000) :
    Calls Tryd.prog 39 #[.string s, .int .i64 b] w fun e w' => e = .returned (.bool (M.okD b s.data.toList)) ∧ w = w' := by
  have hLl := sz_list s
  obtain ⟨R, hR⟩ : ∃ R, M.okD b s.data.toList = R := ⟨_, rfl⟩
  rw [hR]
  have HR := Lib.hid hR
  have HL := Lib.hid hLl
  clear hR hLl
  go_enter Tryd.func39, Tryd.ntmps39
  go_wp2
  go_loop [8] (fun i => ∃ k : Nat, i = .int .i64 k ∧ k ≤ s.size ∧ Hid (M.allD b (s.data.toList.take k) = true)) (fun i => s.size - (intOf i).toNat)
  case atStart => exact ⟨0, rfl, Nat.zero_le _, rfl⟩
  case round =>
    obtain ⟨k, rfl, hk, hst⟩ := hrel
    by_cases hlt : k < s.size
    · have hltd : decide (k < s.size) = true := by simpa using hlt
      have c1 := digitAt_any s k w hlt
      have hd := M.dv_le s[k]
      have hsn := M.allD_snoc b (s.data.toList.take k) s[k]
      rw [← take_snoc s k hlt, hst.out, Bool.true_and] at hsn
      obtain ⟨d, hdd⟩ : ∃ d, M.dv s[k] = d := ⟨_, rfl⟩
      rw [hdd] at c1 hd hsn
      clear hdd
      have HS := Lib.hid hsn
      clear hsn
      by_cases hdb : d < b
      · have hq : decide (b ≤ d) = false := by simpa using hdb
        go_wp2_with (go_at_call 56; refine c1.mono ?_; rintro r w' ⟨rfl, rfl⟩)
        go_round
        case rel => exact ⟨k + 1, by go_num, by omega, by show _ = true; rw [HS.out]; simpa using hdb⟩
        case measure => simp [intOf]; omega
      · have hq : decide (b ≤ d) = true := by simpa using hdb
        go_wp2_with (go_at_call 56; refine c1.mono ?_; rintro r w' ⟨rfl, rfl⟩)
        go_ret
        refine ⟨ret_bool ?_, rfl⟩
        have h1 : M.allD b (s.data.toList.take (k + 1)) = false := by rw [HS.out]; simpa using hdb
        rw [← HR.out]
        unfold M.okD
        rw [← List.take_append_drop (k + 1) s.data.toList, M.allD_append, h1]
        simp
    · obtain rfl : k = s.size := by omega
      have hltd : decide (s.size < s.size) = false := by simp
      have h1 := hst.out
      rw [take_all] at h1
      have HF := Lib.hid h1
      clear h1 hst
      go_wp2
      go_ret
      refine ⟨ret_bool ?_, rfl⟩
      rw [← HR.out]
      unfold M.okD
      rw [HF.out, Bool.and_true]
      simp only [ByteArray.toList_eq]

theorem decimal_any (s : ByteArray) (w : World) (hs : s.size ≤ 1000000) :
    Calls Tryd.prog 45 #[.string s] w fun e w' => e = .returned (.bool (M.okD 10 s.data.toList)) ∧ w = w' := by
  have c1 := digitsOf_any s 10 w (by omega) hs
  go_enter Tryd.func45, Tryd.ntmps45
  go_wp2_with (go_at_call 39; refine c1.mono ?_; rintro r w' ⟨rfl, rfl⟩)
  go_ret
  exact ⟨rfl, rfl⟩

def stepB (n : Int) : Bool := decide (0 ≤ n ∧ n ≤ 1099511627776)
set_option maxRecDepth 100000 in
set_option maxHeartbeats 1000000 in
theorem trimByte_any (s : ByteArray) (w : World) (hs : s.size ≤ 1000000) :
    Calls Tryd.prog 72 #[.string s, .int .u8 48] w fun e w' => e = .returned (.string (bA (M.strip s.data.toList))) ∧ w = w' := by
  obtain ⟨R, hR⟩ : ∃ R, M.strip s.data.toList = R := ⟨_, rfl⟩
  rw [hR]
  have HR := Lib.hid hR
  clear hR
  go_enter Tryd.func72, Tryd.ntmps72
  go_wp2
  go_loop [0] (fun v => ∃ t : ByteArray, v = .string t ∧ t.size ≤ s.size ∧ Hid (M.strip t.data.toList = R)) (fun v => match v with | .string t => t.size | _ => 0)
  case atStart => exact ⟨s, rfl, Nat.le_refl _, HR.out⟩
  case round =>
    obtain ⟨t, rfl, ht, hst⟩ := hrel
    by_cases h0 : 0 < t.size
    · have hl := drop_cons t 0 h0
      rw [List.drop_zero] at hl
      have hst1 := hst.out
      rw [hl] at hst1
      by_cases h1 : t[0].toNat = 48
      · have e : t[0] = 48 := UInt8.toNat_inj.1 h1
        have hst2 : M.strip (t.data.toList.drop 1) = R := by
          rw [← hst1]; unfold M.strip; rw [List.dropWhile_cons, e]; rfl
        have HS := Lib.hid hst2
        clear hst1 hst2 hl e
        go_wp2
        go_round
        case rel => exact ⟨_, rfl, by simp; omega, by show M.strip _ = R; rw [Lib.extract_to_end]; exact HS.out⟩
        case measure => simp; omega
      · have hb : ((t[0].toNat : Int) == 48) = false := by simp; omega
        have hst2 : t.data.toList = R := by
          rw [← hst1, ← hl]; symm; apply M.strip_self; rw [hl]; simp; intro e; exact h1 (by rw [e]; rfl)
        have HS := Lib.hid hst2
        clear hst1 hst2 hl h1
        go_wp2
        go_ret
        exact ⟨ret_str (eq_bA HS.out), rfl⟩
    · have hz : t.data.toList = [] := by
        have := sz_list t
        exact List.eq_nil_of_length_eq_zero (by omega)
      have hst1 := hst.out
      rw [hz] at hst1
      have HS := Lib.hid hst1
      have HZ := Lib.hid hz
      clear hst1 hz hst
      go_wp2
      go_ret
      refine ⟨ret_str (eq_bA ?_), rfl⟩
      rw [HZ.out, ← HS.out]; rfl

end Go.Proofs.YtocegiffbgnogaaDoor

namespace Go.Proofs.YtocegiffbgnogaaDoor
open Go.RowKit

set_option maxRecDepth 100000 in
theorem trimLeft_any (s : ByteArray) (w : World) (hs : s.size ≤ 1000000) :
    Calls Tryd.prog 57 #[.string s, .string ⟨#[48]⟩] w fun e w' => e = .returned (.string (bA (M.strip s.data.toList))) ∧ w = w' := by
  have c1 := trimByte_any s
  by_cases h : s.data.toList = []
  · have e : s = ⟨#[]⟩ := eq_bA h
    subst e
    clear h c1
    go_enter Tryd.func57, Tryd.ntmps57
    go_wp2
    go_ret
    exact ⟨rfl, rfl⟩
  · have h1 : (s.toList == []) = false := by rw [ByteArray.toList_eq]; simpa using h
    have h2 : s.toList.isEmpty = false := by rw [ByteArray.toList_eq]; simpa using h
    generalize bA (M.strip s.data.toList) = R at *
    clear h
    go_enter Tryd.func57, Tryd.ntmps57
    go_wp2_with fail
    refine (c1 _ hs).mono ?_
    rintro r w' ⟨rfl, rfl⟩
    go_wp2
    go_ret
    exact ⟨rfl, rfl⟩

set_option maxRecDepth 100000 in
theorem minus_any (s : ByteArray) (w : World) (hs : s.size ≤ 1000000) :
    Calls Tryd.prog 52 #[.string s, .string ⟨#[45]⟩] w fun e w' => e = .returned (.bool (M.isNeg s.data.toList)) ∧ w = w' := by
  by_cases h0 : 1 ≤ s.size
  · have hd : decide (1 ≤ s.size) = true := by simpa using h0
    have hl := drop_cons s 0 (by omega)
    rw [List.drop_zero] at hl
    have e1 : (s.extract 0 1).toList = [s[0]] := by
      rw [ByteArray.toList_eq]; simp only [ByteArray.data_extract, Array.toList_extract, List.extract_eq_take_drop, List.drop_zero]; rw [hl]; rfl
    have e2 : M.isNeg s.data.toList = decide (s[0] = 45) := by rw [hl]; simp [M.isNeg]
    rw [e2]
    clear e2 hl
    by_cases h1 : s[0] = 45
    · rw [decide_eq_true h1]
      have e3 : ((s.extract 0 1).toList == [45]) = true := by rw [e1, h1]; rfl
      clear e1 h1
      go_enter Tryd.func52, Tryd.ntmps52
      go_wp2
      go_ret
      exact ⟨rfl, rfl⟩
    · rw [decide_eq_false h1]
      have e3 : ((s.extract 0 1).toList == [45]) = false := by rw [e1]; simpa using h1
      clear e1 h1
      go_enter Tryd.func52, Tryd.ntmps52
      go_wp2
      go_ret
      exact ⟨rfl, rfl⟩
  · have hd : decide (1 ≤ s.size) = false := by simpa using h0
    have e : M.isNeg s.data.toList = false := by
      have : s.data.toList = [] := List.eq_nil_of_length_eq_zero (by rw [← sz_list]; omega)
      rw [this]; rfl
    rw [e]
    clear e
    go_enter Tryd.func52, Tryd.ntmps52
    go_wp2
    go_ret
    exact ⟨rfl, rfl⟩

set_option maxRecDepth 100000 in
theorem cut_in (s : ByteArray) (w : World) (hs : s.size ≤ 1000000) :
    Calls Tryd.prog 59 #[.string s, .string ⟨#[45]⟩] w fun e w' => e = .returned (.tuple #[.string (bA (M.unsign s.data.toList)), .bool (M.isNeg s.data.toList)]) ∧ w = w' := by
  have c1 := minus_any s w hs
  by_cases h : M.isNeg s.data.toList = true
  · have hu : bA (M.unsign s.data.toList) = s.extract 1 s.size := by
      symm; apply eq_bA; rw [Lib.extract_to_end]; unfold M.unsign; rw [if_pos h]; simp
    have h1 : 1 ≤ s.size := by
      rw [sz_list]
      match hh : s.data.toList, h with
      | c :: r, _ => simp
    rw [h] at c1 ⊢
    rw [hu]
    clear hu h
    go_enter Tryd.func59, Tryd.ntmps59
    go_wp2_with (go_at_call 52; refine c1.mono ?_; rintro r w' ⟨rfl, rfl⟩)
    go_ret2
    exact ⟨rfl, rfl⟩
  · have h' : M.isNeg s.data.toList = false := by simpa using h
    have hu : bA (M.unsign s.data.toList) = s := by
      symm; apply eq_bA; unfold M.unsign; rw [if_neg h]
    rw [h'] at c1 ⊢
    rw [hu]
    clear hu h h'
    go_enter Tryd.func59, Tryd.ntmps59
    go_wp2_with (go_at_call 52; refine c1.mono ?_; rintro r w' ⟨rfl, rfl⟩)
    go_ret2
    exact ⟨rfl, rfl⟩

set_option maxRecDepth 100000 in
theorem cut_any (s : ByteArray) (w : World) (hs : s.size ≤ 1000000) :
    Calls Tryd.prog 43 #[.string s, .string ⟨#[45]⟩] w fun e w' => e = .returned (.tuple #[.string (bA (M.unsign s.data.toList)), .bool (M.isNeg s.data.toList)]) ∧ w = w' := by
  have c1 := cut_in s w hs
  generalize bA (M.unsign s.data.toList) = U at *
  generalize M.isNeg s.data.toList = V at *
  go_enter Tryd.func43, Tryd.ntmps43
  go_wp2_with (go_at_call 59; refine c1.mono ?_; rintro r w' ⟨rfl, rfl⟩)
  go_ret2
  exact ⟨rfl, rfl⟩
set_option maxRecDepth 100000 in
theorem split_any (s : ByteArray) (w : World) (hs : s.size ≤ 1000000) :
    Calls Tryd.prog 66 #[.string s] w fun e w' => e = .returned (.tuple #[.bool (M.isNeg s.data.toList), .string (bA (M.unsign s.data.toList))]) ∧ w = w' := by
  have c1 := cut_any s w hs
  generalize bA (M.unsign s.data.toList) = U at *
  generalize M.isNeg s.data.toList = V at *
  go_enter Tryd.func66, Tryd.ntmps66
  go_wp2_with (go_at_call 43; refine c1.mono ?_; rintro r w' ⟨rfl, rfl⟩)
  go_ret2
  exact ⟨rfl, rfl⟩

theorem unsign_len (l : List UInt8) : (M.unsign l).length ≤ l.length := by unfold M.unsign; split <;> simp

set_option maxRecDepth 100000 in
set_option maxHeartbeats 1000000 in
theorem good_any (s : ByteArray) (w : World) (hs : s.size ≤ 1000000) :
    Calls Tryd.prog 49 #[.string s] w fun e w' => e = .returned (.bool (M.goodB s.data.toList)) ∧ w = w' := by
  have c1 := split_any s w hs
  have hU : (bA (M.unsign s.data.toList)).size ≤ 1000000 := by
    rw [bA_size]; have := unsign_len s.data.toList; rw [← sz_list] at this; omega
  have c2 := decimal_any (bA (M.unsign s.data.toList)) w hU
  rw [bA_toList] at c2
  by_cases h : M.okD 10 (M.unsign s.data.toList) = true
  · have hne := ((M.okD_iff _ _).1 h).1
    obtain ⟨U, hUe⟩ : ∃ U, bA (M.unsign s.data.toList) = U := ⟨_, rfl⟩
    have hUl : U.data.toList = M.unsign s.data.toList := by rw [← hUe, bA_toList]
    have h1 : 0 < U.size := by rw [sz_list, hUl]; exact List.length_pos_iff.2 hne
    have hl := drop_cons U 0 h1
    rw [List.drop_zero, hUl] at hl
    have hg : M.goodB s.data.toList = (!decide (U[0].toNat = 48) || decide (s.data.toList = [48])) := by
      unfold M.goodB
      rw [h, hl, Bool.true_and, Bool.or_comm]
      congr 1
      rw [← decide_not, decide_eq_decide]
      simp [← UInt8.toNat_inj]
    rw [hg]
    rw [h] at c2
    rw [hUe] at c1 c2
    clear hg hl hUl hUe hne h hU
    by_cases hz : U[0].toNat = 48
    · rw [decide_eq_true hz]
      have e1 : (s.toList == [48]) = decide (s.data.toList = [48]) := by rw [ByteArray.toList_eq]; rw [Bool.eq_iff_iff]; simp
      generalize M.isNeg s.data.toList = V at *
      generalize decide (s.data.toList = [48]) = q at *
      go_enter Tryd.func49, Tryd.ntmps49
      go_wp2_with (first | (go_at_call 66; refine c1.mono ?_; rintro r w' ⟨rfl, rfl⟩) | (go_at_call 45; refine c2.mono ?_; rintro r w' ⟨rfl, rfl⟩))
      go_ret
      exact ⟨ret_bool (by simp), rfl⟩
    · rw [decide_eq_false hz]
      have hb : ((U[0].toNat : Int) != 48) = true := by simp; omega
      generalize M.isNeg s.data.toList = V at *
      go_enter Tryd.func49, Tryd.ntmps49
      go_wp2_with (first | (go_at_call 66; refine c1.mono ?_; rintro r w' ⟨rfl, rfl⟩) | (go_at_call 45; refine c2.mono ?_; rintro r w' ⟨rfl, rfl⟩))
      go_ret
      exact ⟨rfl, rfl⟩
  · have h' : M.okD 10 (M.unsign s.data.toList) = false := by simpa using h
    have hg : M.goodB s.data.toList = false := by
      unfold M.goodB
      rw [h', Bool.false_and, Bool.or_false]
      apply decide_eq_false
      intro e; rw [e] at h'; exact absurd h' (by decide)
    rw [hg]
    rw [h'] at c2
    clear hg h h'
    generalize bA (M.unsign s.data.toList) = U at *
    generalize M.isNeg s.data.toList = V at *
    go_enter Tryd.func49, Tryd.ntmps49
    go_wp2_with (first | (go_at_call 66; refine c1.mono ?_; rintro r w' ⟨rfl, rfl⟩) | (go_at_call 45; refine c2.mono ?_; rintro r w' ⟨rfl, rfl⟩))
    go_ret
    exact ⟨rfl, rfl⟩
end Go.Proofs.YtocegiffbgnogaaDoor

namespace Go.Proofs.YtocegiffbgnogaaDoor
open Go.RowKit

theorem whole_mem (w w1 : World) (D : ByteArray) (ho : w1.ownsRow w.heap.size 5 1 (.slice (some ⟨w.heap.size, 0, none⟩) (1 + D.size) (1 + D.size)) (1 + D.size) (madeCells (Value.int .u8 0).cells ((1 + D.size) * 1)).toList) (hg : w.grownBy w1 none) :
    w1.cell? ⟨w.heap.size, 0, none⟩ = some (.int .u8 0) ∧ w1.frozen? ⟨w.heap.size, 0, none⟩ = false ∧ ∃ W3, (∀ ty, (Builtin.copy_ #[22, 9] ty #[.slice (some ⟨w.heap.size, 1, none⟩) D.size D.size, .string D]).run Tryd.prog (w1.setCell ⟨w.heap.size, 0, none⟩ (.int .u8 45)) = .ok (goInt D.size) W3) ∧ (∀ cap, (convert 22 9 (.slice (some ⟨w.heap.size, 0, none⟩) (1 + D.size) cap)).run Tryd.prog W3 = .ok (.string (bA (45 :: D.data.toList))) W3) ∧ (∀ cap, (convert 22 9 (.slice (some ⟨w.heap.size, 1, none⟩) D.size cap)).run Tryd.prog W3 = .ok (.string (bA D.data.toList)) W3) ∧ Below w.heap.size w W3 := by
  have hr := Row.made ho
  have hc := hr.cell 0 (by simp; omega)
  have hf := hr.frozen 0
  refine ⟨by rw [hc]; simp, hf, ?_⟩
  have h2 := hr.set 0 45
  have hb : Below w.heap.size w w1 := (Below.refl _ _).grown hg (Nat.le_refl _) (fun k hk => by cases hk)
  rw [show (List.replicate (1 + D.size) (0 : UInt8)).set 0 45 = 45 :: List.replicate D.size 0 by rw [Nat.add_comm, List.replicate_succ]; rfl] at h2
  refine ⟨_, fun ty => Lib.run_copy_row_string _ 22 9 ty 5 w.heap.size 1 D.size D.size D _ 5 Tryd.underlying22 Tryd.info5s h2 (Nat.le_refl _) (by simp [Lib.byteCells]; omega), ?_⟩
  have hR3 : Row _ w.heap.size (45 :: D.data.toList) := h2.setRow (45 :: D.data.toList)
  have e : (List.take 1 (Lib.byteCells (45 :: List.replicate D.size 0)).toArray.toList ++ Lib.byteCells D.data.toList ++ List.drop (1 + D.size) (Lib.byteCells (45 :: List.replicate D.size 0)).toArray.toList) = Lib.byteCells (45 :: D.data.toList) := by
    rw [List.drop_of_length_le (by simp [Lib.byteCells]; omega), List.append_nil]
    simp [Lib.byteCells]
  rw [e]
  have hv1 := Row.conv0 hR3
  have hv2 := Row.conv (p := [45]) (l := D.data.toList) (q := []) (by simpa using hR3)
  rw [List.length_cons, ← sz_list, Nat.add_comm] at hv1
  rw [← sz_list] at hv2
  exact ⟨hv1, hv2, below_setRow (hb.setCell (Nat.le_refl _) _) (Nat.le_refl _) _⟩

set_option maxRecDepth 100000 in
set_option maxHeartbeats 2000000 in
theorem whole_any (neg : Bool) (s : ByteArray) (w : World) (hs : s.size ≤ 100000) (hd : M.allD 10 s.data.toList = true) :
    Calls Tryd.prog 40 #[.bool neg, .string s] w fun e w' => e = .returned (.string (tx (M.sgn neg (M.val 10 s.data.toList)))) ∧ Below w.heap.size w w' := by
  have c1 := trimLeft_any s w (by omega)
  rw [M.strip_all _ hd] at c1
  obtain ⟨n, hn⟩ : ∃ n, M.val 10 s.data.toList = n := ⟨_, rfl⟩
  have hlt := M.val_lt 10 s.data.toList hd
  rw [hn, ← sz_list] at hlt
  rw [hn] at c1 ⊢
  clear hn hd
  by_cases hz : n = 0
  · subst hz
    rw [if_pos rfl] at c1
    rw [M.sgn_zero, show tx 0 = ⟨#[48]⟩ by unfold tx; rw [M.txt_zero]; rfl]
    rw [show bA [] = ⟨#[]⟩ from rfl] at c1
    clear hlt
    go_enter Tryd.func40, Tryd.ntmps40
    go_wp2_with (go_at_call 57; refine c1.mono ?_; rintro r w' ⟨rfl, rfl⟩)
    go_ret
    exact ⟨rfl, Below.refl _ _⟩
  · rw [if_neg hz] at c1
    have hp : 0 < (M.dg n).length := M.dg_len_pos n
    have hle : (M.dg n).length ≤ s.size := by
      refine M.dg_len_le n s.size ?_ hlt
      rcases Nat.eq_zero_or_pos s.size with h | h
      · rw [h] at hlt; simp at hlt; omega
      · exact h
    have ht := M.txt_sgn neg n (by omega)
    obtain ⟨L, hL⟩ : ∃ L, M.dg n = L := ⟨_, rfl⟩
    rw [hL] at c1 hp hle ht
    clear hL hz hlt
    have HT := Lib.hid ht
    clear ht
    obtain ⟨D, hD⟩ : ∃ D, bA L = D := ⟨_, rfl⟩
    have hDs : D.size = L.length := by rw [← hD, bA_size]
    have hDl : D.data.toList = L := by rw [← hD, bA_toList]
    rw [hD] at c1
    have hDne : (D.toList == []) = false := by rw [ByteArray.toList_eq, hDl]; cases L; simp at hp; rfl
    have hDne2 : D.toList.isEmpty = false := by rw [ByteArray.toList_eq, hDl]; cases L; simp at hp; rfl
    have hD0 : 0 < D.size := by omega
    have hD1 : D.size ≤ 100000 := by omega
    have HD := Lib.hid hDl
    have HDs := Lib.hid hDs
    clear hDl hDs hD hp hle
    obtain ⟨i0, hi, hz0, hz1, hz2⟩ := info_parts Tryd.info5
    go_enter Tryd.func40, Tryd.ntmps40
    go_wp2_with fail
    refine c1.mono ?_
    rintro r w' ⟨rfl, rfl⟩
    clear c1
    go_wp2_with (first | (at_make; refine wpList_make_full w rfl (.tmp 12) (.tmp 12) 22 rfl w.heap.size 5 i0 (.int .u8 0) 1 Tryd.underlying22 hi hz0 hz1 .i64 .i64 _ _ (1 + D.size) rfl rfl (by simp) (by simp) (by rw [hz2]; omega) (by unfold maxLen; omega) (Nat.le_refl _) ?_; intro w1 ho1 hg1; obtain ⟨hc1, hf1, W3, hcp, hv1, hv2, hB3⟩ := whole_mem w w1 D ho1 hg1; clear ho1 hg1) | fail)
    · have hE : D = ByteArray.empty := by assumption
      rw [hE] at hD0
      exact absurd hD0 (by decide)
    · have hq : neg = true := by assumption
      subst hq
      go_ret
      refine ⟨ret_str ?_, hB3⟩
      unfold tx; rw [HT.out, HD.out]; rfl
    · have hq : neg = false := by assumption
      subst hq
      go_ret
      refine ⟨ret_str ?_, hB3⟩
      unfold tx; rw [HT.out, HD.out]; rfl

theorem sz_ok {s : ByteArray} (h : M.okD 10 s.data.toList = true) : M.allD 10 s.data.toList = true := ((M.okD_iff _ _).1 h).2
set_option maxRecDepth 100000 in
theorem norm_yes (neg : Bool) (s : ByteArray) (w : World) (hs : s.size ≤ 100000) (hd : M.okD 10 s.data.toList = true) :
    Calls Tryd.prog 21 #[.bool neg, .string s] w fun e w' => e = .returned (.string (tx (M.sgn neg (M.val 10 s.data.toList)))) ∧ Below w.heap.size w w' := by
  have c1 := decimal_any s w (by omega)
  have c2 := whole_any neg s w hs (sz_ok hd)
  rw [hd] at c1
  clear hd
  generalize tx (M.sgn neg (M.val 10 s.data.toList)) = R at *
  go_enter Tryd.func21, Tryd.ntmps21
  go_wp2_with fail
  refine c1.mono ?_
  rintro r w' ⟨rfl, rfl⟩
  go_wp2_with fail
  refine c2.mono ?_
  rintro r w' ⟨rfl, hb⟩
  go_wp2
  go_ret
  exact ⟨rfl, hb⟩
theorem norm_no (neg : Bool) (s : ByteArray) (w : World) (hs : s.size ≤ 100000) (hd : M.okD 10 s.data.toList = false) :
    Calls Tryd.prog 21 #[.bool neg, .string s] w fun e w' => e = .returned (.string ⟨#[]⟩) ∧ w = w' := by
  have c1 := decimal_any s w (by omega)
  rw [hd] at c1
  clear hd
  go_enter Tryd.func21, Tryd.ntmps21
  go_wp2_with (go_at_call 45; refine c1.mono ?_; rintro r w' ⟨rfl, rfl⟩)
  go_ret
  exact ⟨rfl, rfl⟩
end Go.Proofs.YtocegiffbgnogaaDoor
