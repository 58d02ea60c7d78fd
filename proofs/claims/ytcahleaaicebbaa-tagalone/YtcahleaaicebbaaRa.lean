/- Walks: the document's Short, Sign, Word, Good, Write. -/
import Derived.Test.YtcahleaaicebbaaWd
set_option linter.unusedVariables false
namespace Go.Proofs.Ytcahleaaicebbaa
open Go.RowKit

def smB : ByteArray := ⟨#[45, 95, 46, 126, 42, 39, 40, 41, 59, 47, 63, 58, 64, 38, 61, 43, 36, 35, 37]⟩
theorem smB_size : smB.size = 19 := rfl
theorem smB_idx (k : Nat) (hk : k < 19) (w : World) : (Instr.index 9 (.string ⟨#[45, 95, 46, 126, 42, 39, 40, 41, 59, 47, 63, 58, 64, 38, 61, 43, 36, 35, 37]⟩) (.int .i64 (k : Int))).run Try.prog w = .ok (.int .u8 ((smB[k]'hk).toNat : Nat)) w := by
  rw [run_index_string (h := Try.underlying9)]
  have h2 : (k : Int) < (19 : Int) := by omega
  rw [dif_pos ⟨by omega, h2⟩]
  rfl
theorem smB_take (k : Nat) (hk : k < 19) : M.smarks.take (k + 1) = M.smarks.take k ++ [smB[k]'hk] := by
  have := take_snoc smB k hk
  exact this
set_option maxRecDepth 100000 in
set_option maxHeartbeats 1000000 in
theorem rS_any (c : UInt8) (w : World) : Calls Try.prog 23 #[.int .u8 (c.toNat : Nat)] w fun e w' => e = .returned (.bool (M.isS c)) ∧ w = w' := by
  have c1 := fun W => rL_any c W
  have c2 := fun W => rG_any c W
  by_cases hlg : (M.isL c || M.isG c) = true
  · have hR : M.isS c = true := by
      unfold M.isS M.isW
      rw [hlg]; rfl
    rw [hR]
    clear hR
    generalize M.isL c = a at *
    generalize M.isG c = b at *
    cases a
    · cases b
      · cases hlg
      · go_enter Try.func23, Try.ntmps23
        go_wp2_with fail
        refine (c1 _).mono ?_
        rintro r w' ⟨rfl, rfl⟩
        go_wp2_with fail
        refine (c2 _).mono ?_
        rintro r w' ⟨rfl, rfl⟩
        go_wp2
        go_ret
        exact ⟨rfl, rfl⟩
    · go_enter Try.func23, Try.ntmps23
      go_wp2_with fail
      refine (c1 _).mono ?_
      rintro r w' ⟨rfl, rfl⟩
      go_wp2
      go_ret
      exact ⟨rfl, rfl⟩
  · have ha : M.isL c = false := by cases h : M.isL c; rfl; rw [h] at hlg; exact absurd rfl hlg
    have hb : M.isG c = false := by cases h : M.isG c; rfl; rw [h, Bool.or_true] at hlg; exact absurd rfl hlg
    obtain ⟨R, hR⟩ : ∃ R, M.isS c = R := ⟨_, rfl⟩
    have hR2 : M.smarks.contains c = R := by
      rw [← hR]
      unfold M.isS M.isW
      rw [ha, hb]
      by_cases h45 : c.toNat = 45
      · have : c = 45 := UInt8.toNat_inj.1 h45
        rw [this]; decide
      · simp [h45]
    rw [hR]
    rw [ha] at c1
    rw [hb] at c2
    have HR := Lib.hid hR2
    clear hR hR2 ha hb hlg
    go_enter Try.func23, Try.ntmps23
    go_wp2_with fail
    refine (c1 _).mono ?_
    rintro r w' ⟨rfl, rfl⟩
    go_wp2_with fail
    refine (c2 _).mono ?_
    rintro r w' ⟨rfl, rfl⟩
    clear c1 c2
    go_wp2
    go_loop [3] (fun x => ∃ k : Nat, x = .int .i64 k ∧ k ≤ 19 ∧ Hid ((M.smarks.take k).contains c = false)) (fun x => 19 - (intOf x).toNat)
    case atStart => exact ⟨0, rfl, by omega, rfl⟩
    case round =>
      obtain ⟨k, rfl, hk, hst⟩ := hrel
      by_cases hlt : k < 19
      · have hltd : decide (k < 19) = true := decide_eq_true hlt
        have hlti : decide ((k : Int) < (19 : Int)) = true := decide_eq_true (by omega)
        have hidx := smB_idx k hlt
        have hsn := smB_take k hlt
        generalize smB[k]'hlt = d at *
        have hn : d.toNat < 256 := d.toNat_lt
        by_cases hd : d = c
        · subst hd
          have hin : d ∈ M.smarks := by
            have : d ∈ M.smarks.take (k + 1) := by rw [hsn]; simp
            exact List.mem_of_mem_take this
          have e : R = true := by rw [← HR.out]; exact List.contains_iff_mem.2 hin
          subst e
          clear hsn hst HR hin
          go_wp2
          go_ret
          exact ⟨rfl, rfl⟩
        · have hne : ((d.toNat : Int) == (c.toNat : Int)) = false := beq_eq_false_iff_ne.2 (fun e => hd (UInt8.toNat_inj.1 (by omega)))
          have h5 : (M.smarks.take (k + 1)).contains c = false := by
            rw [hsn, List.contains_eq_any_beq, List.any_append, ← List.contains_eq_any_beq, hst.out]
            have : (c == d) = false := beq_eq_false_iff_ne.2 (fun e => hd e.symm)
            simp [this]
          have H5 := Lib.hid h5
          clear h5 hst hsn
          go_wp2
          go_round
          case rel => exact ⟨k + 1, by go_num, by omega, H5⟩
          case measure => simp [intOf]; omega
      · obtain rfl : k = 19 := by omega
        have h5 := hst.out
        have e : R = false := by rw [← HR.out]; exact h5
        subst e
        clear hst h5 HR
        go_wp2
        go_ret
        exact ⟨rfl, rfl⟩
set_option maxRecDepth 100000 in
theorem rT_any (c : UInt8) (w : World) : Calls Try.prog 21 #[.int .u8 (c.toNat : Nat)] w fun e w' => e = .returned (.bool (M.isT c)) ∧ w = w' := by
  have c1 := fun W => rS_any c W
  have hc : c.toNat < 256 := c.toNat_lt
  have e33 : ((c.toNat : Int) == 33) = decide (c = 33) := by
    rw [Bool.eq_iff_iff, decide_eq_true_eq, beq_iff_eq]
    exact ⟨fun e => UInt8.toNat_inj.1 (show c.toNat = 33 by omega), fun e => by rw [e]; rfl⟩
  have e44 : ((c.toNat : Int) == 44) = decide (c = 44) := by
    rw [Bool.eq_iff_iff, decide_eq_true_eq, beq_iff_eq]
    exact ⟨fun e => UInt8.toNat_inj.1 (show c.toNat = 44 by omega), fun e => by rw [e]; rfl⟩
  have e91 : ((c.toNat : Int) == 91) = decide (c = 91) := by
    rw [Bool.eq_iff_iff, decide_eq_true_eq, beq_iff_eq]
    exact ⟨fun e => UInt8.toNat_inj.1 (show c.toNat = 91 by omega), fun e => by rw [e]; rfl⟩
  have e93 : ((c.toNat : Int) == 93) = decide (c = 93) := by
    rw [Bool.eq_iff_iff, decide_eq_true_eq, beq_iff_eq]
    exact ⟨fun e => UInt8.toNat_inj.1 (show c.toNat = 93 by omega), fun e => by rw [e]; rfl⟩
  have hR : M.isT c = (M.isS c || decide (c = 33) || decide (c = 44) || decide (c = 91) || decide (c = 93)) := by
    unfold M.isT
    rw [Bool.or_assoc, Bool.or_assoc, Bool.or_assoc]
    congr 1
    rw [Bool.eq_iff_iff]
    simp [M.omarks]
  rw [hR]
  clear hR
  generalize M.isS c = a at *
  generalize decide (c = 33) = b1 at *
  generalize decide (c = 44) = b2 at *
  generalize decide (c = 91) = b3 at *
  generalize decide (c = 93) = b4 at *
  cases a <;> cases b1 <;> cases b2 <;> cases b3
  all_goals
    go_enter Try.func21, Try.ntmps21
    go_wp2_with fail
    refine (c1 _).mono ?_
    rintro r w' ⟨rfl, rfl⟩
    go_wp2
    go_ret
    exact ⟨rfl, rfl⟩

set_option maxRecDepth 100000 in
set_option maxHeartbeats 1000000 in
theorem rW_any (s : ByteArray) (i : Nat) (w : World) (hs : s.size ≤ 1000000) (hi : i ≤ 1000000) : Calls Try.prog 22 #[.string s, .int .i64 i] w fun e w' => e = .returned (.int .i64 (M.bh M.isW s.data.toList i - i : Nat)) ∧ w = w' := by
  obtain ⟨R, hR⟩ : ∃ R, M.bh M.isW s.data.toList i = R := ⟨_, rfl⟩
  rw [hR]
  have HR := Lib.hid hR
  clear hR
  go_enter Try.func22, Try.ntmps22
  go_wp2
  go_loop [5] (fun x => ∃ k : Nat, x = .int .i64 k ∧ i + k ≤ 1000000 ∧ Hid (M.bh M.isW s.data.toList (i + k) = R)) (fun x => 1000000 - (intOf x).toNat)
  case atStart => exact ⟨0, rfl, hi, HR⟩
  case round =>
    obtain ⟨k, rfl, hk, hst⟩ := hrel
    clear HR
    have a1 : wrap64 ((i : Int) + (k : Int)) = (i : Int) + (k : Int) := by unfold wrap64; omega
    by_cases hlt : i + k < s.size
    · have hltd : decide (i + k < s.size) = true := decide_eq_true hlt
      have hlti : decide ((i : Int) + (k : Int) < (s.size : Int)) = true := decide_eq_true (by omega)
      have c1 := fun W => rL_any s[i + k] W
      have c2 := fun W => rG_any s[i + k] W
      have hg := get_list s (i + k) hlt
      have hq1 := fun h => M.bh_step M.isW hg h
      have hq2 := fun h => M.bh_stop M.isW hg h
      rw [hst.out] at hq1 hq2
      have hc : s[i + k].toNat < 256 := s[i + k].toNat_lt
      have e45 : ((s[i + k].toNat : Int) == 45) = decide (s[i + k].toNat = 45) := by rw [Bool.eq_iff_iff]; simp; omega
      have hW : M.isW s[i + k] = (M.isL s[i + k] || M.isG s[i + k] || decide (s[i + k].toNat = 45)) := rfl
      generalize M.isW s[i + k] = q at *
      generalize M.isL s[i + k] = q1 at *
      generalize M.isG s[i + k] = q2 at *
      generalize decide (s[i + k].toNat = 45) = q3 at *
      clear hst hg
      cases q1
      · cases q2
        · cases q3
          · have h5 := hq2 hW
            have h6 : R - i = k := by omega
            clear hq1 hq2 hW h5
            go_wp2_with fail
            refine (c1 _).mono ?_
            rintro r w' ⟨rfl, rfl⟩
            go_wp2_with fail
            refine (c2 _).mono ?_
            rintro r w' ⟨rfl, rfl⟩
            clear c1 c2
            go_wp2
            go_ret
            exact ⟨ret_int (by first | rfl | rw [h6]), rfl⟩
          · have h5 := Lib.hid (hq1 hW).symm
            clear hq1 hq2 hW
            go_wp2_with fail
            refine (c1 _).mono ?_
            rintro r w' ⟨rfl, rfl⟩
            go_wp2_with fail
            refine (c2 _).mono ?_
            rintro r w' ⟨rfl, rfl⟩
            clear c1 c2
            go_wp2
            go_round
            case rel => exact ⟨k + 1, by go_num, by omega, h5⟩
            case measure => simp [intOf]; omega
        · have h5 := Lib.hid (hq1 hW).symm
          clear hq1 hq2 hW
          go_wp2_with fail
          refine (c1 _).mono ?_
          rintro r w' ⟨rfl, rfl⟩
          go_wp2_with fail
          refine (c2 _).mono ?_
          rintro r w' ⟨rfl, rfl⟩
          clear c1 c2
          go_wp2
          go_round
          case rel => exact ⟨k + 1, by go_num, by omega, h5⟩
          case measure => simp [intOf]; omega
      · have h5 := Lib.hid (hq1 hW).symm
        clear hq1 hq2 hW
        go_wp2_with fail
        refine (c1 _).mono ?_
        rintro r w' ⟨rfl, rfl⟩
        clear c1 c2
        go_wp2
        go_round
        case rel => exact ⟨k + 1, by go_num, by omega, h5⟩
        case measure => simp [intOf]; omega
    · have hltd : decide (i + k < s.size) = false := decide_eq_false hlt
      have hlti : decide ((i : Int) + (k : Int) < (s.size : Int)) = false := decide_eq_false (by omega)
      have h5 := M.bh_end M.isW s.data.toList (i + k) (by rw [← sz_list]; omega)
      rw [hst.out] at h5
      have h6 : R - i = k := by omega
      clear hst h5
      go_wp2
      go_ret
      exact ⟨ret_int (by first | rfl | rw [h6]), rfl⟩
set_option maxRecDepth 100000 in
set_option maxHeartbeats 1000000 in
theorem rgood_any (s : ByteArray) (w : World) (hs : s.size ≤ 1000000) : Calls Try.prog 14 #[.string s] w fun e w' => e = .returned (.bool (M.good s.data.toList)) ∧ w = w' := by
  obtain ⟨R, hR⟩ : ∃ R, M.good s.data.toList = R := ⟨_, rfl⟩
  rw [hR]
  have HR := Lib.hid hR
  clear hR
  go_enter Try.func14, Try.ntmps14
  go_wp2
  go_loop [3] (fun x => ∃ k : Nat, x = .int .i64 k ∧ k ≤ s.size ∧ Hid ((s.data.toList.take k).all M.isT = true)) (fun x => s.size - (intOf x).toNat)
  case atStart => exact ⟨0, rfl, Nat.zero_le _, rfl⟩
  case round =>
    obtain ⟨k, rfl, hk, hst⟩ := hrel
    by_cases hlt : k < s.size
    · have hltd : decide (k < s.size) = true := decide_eq_true hlt
      have hlti : decide ((k : Int) < (s.size : Int)) = true := decide_eq_true (by omega)
      have c1 := fun W => rT_any s[k] W
      have hsn := take_snoc s k hlt
      have h5 : (s.data.toList.take (k + 1)).all M.isT = M.isT s[k] := by rw [hsn, List.all_append, hst.out]; simp
      generalize M.isT s[k] = q at *
      clear hst hsn
      have H5 := Lib.hid h5
      clear h5
      cases q
      · have e : R = false := by
          rw [← HR.out]
          unfold M.good
          rw [← List.take_append_drop (k + 1) s.data.toList, List.all_append, H5.out, Bool.false_and, Bool.and_false]
        subst e
        clear HR
        go_wp2_with fail
        refine (c1 _).mono ?_
        rintro r w' ⟨rfl, rfl⟩
        clear c1
        go_wp2
        go_ret
        exact ⟨rfl, rfl⟩
      · go_wp2_with fail
        refine (c1 _).mono ?_
        rintro r w' ⟨rfl, rfl⟩
        clear c1
        go_wp2
        go_round
        case rel => exact ⟨k + 1, by go_num, by omega, H5⟩
        case measure => simp [intOf]; omega
    · obtain rfl : k = s.size := by omega
      have hltd : decide (s.size < s.size) = false := by simp
      have h5 := hst.out
      rw [take_all] at h5
      have e : R = decide (0 < s.size) := by
        rw [← HR.out]
        unfold M.good
        rw [h5, Bool.and_true, sz_list]
        cases s.data.toList <;> simp
      subst e
      clear hst HR h5
      go_wp2
      go_ret
      exact ⟨rfl, rfl⟩
set_option maxRecDepth 100000 in
theorem rwr_any (s : ByteArray) (w : World) (hs : s.size ≤ 100000) : Calls Try.prog 16 #[.string s] w fun e w' => e = .returned (.string (bA (M.wr s.data.toList))) ∧ w = w' := by
  have c1 := fun W => rgood_any s W (by omega)
  unfold M.wr
  have e1 : bA (33 :: 60 :: (s.data.toList ++ [62])) = (⟨#[33, 60]⟩ ++ s) ++ ⟨#[62]⟩ := by
    symm
    apply eq_bA
    rw [append_list, append_list]; rfl
  generalize M.good s.data.toList = b at *
  cases b
  · rw [if_neg (by simp)]
    go_enter Try.func16, Try.ntmps16
    go_wp2_with fail
    refine (c1 _).mono ?_
    rintro r w' ⟨rfl, rfl⟩
    go_wp2
    go_ret
    exact ⟨rfl, rfl⟩
  · rw [if_pos rfl, e1]
    have hz1 : (⟨#[33, 60]⟩ ++ s).size ≤ 100002 := by rw [append_sz]; show 2 + s.size ≤ _; omega
    clear e1
    go_enter Try.func16, Try.ntmps16
    go_wp2_with fail
    refine (c1 _).mono ?_
    rintro r w' ⟨rfl, rfl⟩
    go_wp2
    go_ret
    exact ⟨rfl, rfl⟩
end Go.Proofs.Ytcahleaaicebbaa
