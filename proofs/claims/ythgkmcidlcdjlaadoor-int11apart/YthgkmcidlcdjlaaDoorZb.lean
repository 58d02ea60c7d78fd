/- The law Int11Apart: its walk. -/
import Derived.Test.YthgkmcidlcdjlaaDoorZm
set_option linter.unusedVariables false
namespace Go.Proofs.YthgkmcidlcdjlaaDoor
open Go.RowKit

theorem is_bad (s : ByteArray) (W : World) (hs : s.size ≤ 900) (h : M.form s.data.toList = 0) : Calls Tryd.prog 11 #[.string s] W fun e w' => e = .returned (.bool false) ∧ W = w' := by
  have := is_any s W (by omega)
  rw [h] at this
  exact this
set_option maxRecDepth 100000 in
theorem apart_long (s : ByteArray) (k : Nat) (w : World) (he : Env w) (hs : s.size ≤ maxLen) (h60 : 60 < s.size) :
    Calls Tryd.prog 7 #[.string s, .int .u8 k] w fun e w' => e = .returned (.bool true) ∧ Below w.heap.size w w' := by
  unfold maxLen at hs
  have hd : decide (60 < s.size) = true := by simpa using h60
  have hd2 : decide ((60 : Int) < (s.size : Int)) = true := by simp; omega
  go_enter Tryd.func7, Tryd.ntmps7
  go_wp2_with fail
  refine (known_any _ he).mono ?_
  rintro r w1 ⟨rfl, hb1⟩
  go_wp2
  go_ret
  exact ⟨rfl, hb1⟩
set_option maxRecDepth 100000 in
theorem apart_none (s : ByteArray) (k : Nat) (w : World) (he : Env w) (h60 : s.size ≤ 60) (hf : M.form s.data.toList = 0) :
    Calls Tryd.prog 7 #[.string s, .int .u8 k] w fun e w' => e = .returned (.bool true) ∧ Below w.heap.size w w' := by
  have hd : decide (60 < s.size) = false := by simp; omega
  have hd2 : decide ((60 : Int) < (s.size : Int)) = false := by simp; omega
  have cI := fun W => is_bad s W (by omega) hf
  have cF := fun W => form_any s W (by omega)
  rw [hf] at cF
  clear hf
  go_enter Tryd.func7, Tryd.ntmps7
  go_wp2_with fail
  refine (known_any _ he).mono ?_
  rintro r w1 ⟨rfl, hb1⟩
  go_wp2_with fail
  refine (cI _).mono ?_
  rintro r w' ⟨rfl, rfl⟩
  go_wp2_with fail
  refine (cF _).mono ?_
  rintro r w' ⟨rfl, rfl⟩
  go_wp2
  go_ret
  exact ⟨rfl, hb1⟩
theorem cat1 (b : UInt8) (s : ByteArray) : ((⟨#[b]⟩ : ByteArray) ++ s).data.toList = b :: s.data.toList := by rw [append_list]; rfl
theorem cat2 (b : UInt8) (s : ByteArray) : (s ++ (⟨#[b]⟩ : ByteArray)).data.toList = s.data.toList ++ [b] := by rw [append_list]
theorem sz1 (b : UInt8) (s : ByteArray) : ((⟨#[b]⟩ : ByteArray) ++ s).size = 1 + s.size := by rw [append_sz]; rfl
theorem sz2 (b : UInt8) (s : ByteArray) : (s ++ (⟨#[b]⟩ : ByteArray)).size = s.size + 1 := by rw [append_sz]; rfl
theorem head_list (s : ByteArray) (h0 : 0 < s.size) : s.data.toList = s[0] :: s.data.toList.drop 1 := by
  have hl := drop_cons s 0 h0
  rwa [List.drop_zero] at hl
theorem more_is (l : List UInt8) (hf : M.form l ≠ 0) (c : UInt8) : M.dv c < 10 ∨ c.toNat = 95 ∨ (97 ≤ c.toNat ∧ c.toNat ≤ 102) ∨ (65 ≤ c.toNat ∧ c.toNat ≤ 70) ∨ c.toNat = 58 ∨ c.toNat = 120 ∨ c.toNat = 111 ∨ decide (M.form (l ++ [c]) ≠ 0) = false := by
  by_cases h95 : c = 95
  · right; left; rw [h95]; rfl
  · by_cases h16 : M.dv c < 16
    · unfold M.dv at h16 ⊢
      split at h16
      · left; rw [if_pos (by assumption)]; omega
      · split at h16
        · right; right; left; assumption
        · split at h16
          · right; right; right; left; assumption
          · omega
    · have := M.form_append_bad hf h16 h95
      iterate 7 right
      rw [this]; rfl

set_option maxRecDepth 100000 in
set_option maxHeartbeats 4000000 in
theorem apart_form (s : ByteArray) (c : UInt8) (w : World) (he : Env w) (h60 : s.size ≤ 60) (hf : M.form s.data.toList ≠ 0) :
    Calls Tryd.prog 7 #[.string s, .int .u8 (c.toNat : Nat)] w fun e w' => e = .returned (.bool true) ∧ Below w.heap.size w w' := by
  have hd : decide (60 < s.size) = false := by simp; omega
  have hd2 : decide ((60 : Int) < (s.size : Int)) = false := by simp; omega
  obtain ⟨hne, hbne⟩ := M.form_ne hf
  have h0 : 0 < s.size := by rw [sz_list]; exact List.length_pos_iff.2 hne
  have cI := fun W => is_any s W (by omega)
  rw [decide_eq_true hf] at cI
  have cF := fun W => form_any s W (by omega)
  have q0 := fun W => is_bad (⟨#[43, 45]⟩ ++ s) W (by rw [append_sz]; show 2 + s.size ≤ 900; omega) (by rw [append_list]; exact (M.form_43 (45 :: s.data.toList)).trans (M.fB_bad 45 _ (by decide)))
  have q1 := fun W => is_bad (s ++ ⟨#[32]⟩) W (by rw [sz2]; omega) (by rw [cat2]; exact M.form_append_bad hf (by decide) (by decide))
  have q2 := fun W => is_bad (⟨#[32]⟩ ++ s) W (by rw [sz1]; omega) (by rw [cat1, M.form_else _ (by decide) (by decide)]; exact M.fB_bad 32 _ (by decide))
  have q3 := fun W => is_bad (s ++ ⟨#[46]⟩) W (by rw [sz2]; omega) (by rw [cat2]; exact M.form_append_bad hf (by decide) (by decide))
  have q4 := fun W => is_bad (s ++ ⟨#[103]⟩) W (by rw [sz2]; omega) (by rw [cat2]; exact M.form_append_bad hf (by decide) (by decide))
  have q5 := fun W => is_bad (s ++ ⟨#[58]⟩) W (by rw [sz2]; omega) (by rw [cat2]; exact M.form_append_bad hf (by decide) (by decide))
  have qc := fun W => is_any (s ++ bA [c]) W (by rw [append_sz, bA_size]; simp; omega)
  rw [append_list, bA_toList] at qc
  have HQ := Lib.hid (more_is s.data.toList hf c)
  have cD := fun W => isDigit_any c W
  have cO := fun W hW => of_yes s W hW (by omega) hf
  have hsm := zOf_small s.data.toList hf (by rw [← sz_list]; omega)
  have hft := M.form_txt (zOf s.data.toList)
  rw [← tx_list] at hft
  have cV := fun W hW => of_yes (tx (zOf s.data.toList)) W hW hsm hft.1
  rw [hft.2] at cV
  generalize hz : tx (zOf s.data.toList) = Z at *
  have h6 := M.fB_le6 (M.body s.data.toList)
  have hl := head_list s h0
  have p43 := M.form_43 s.data.toList
  have p45 := M.form_45 s.data.toList
  have cP := fun W => form_any (⟨#[43]⟩ ++ s) W (by rw [sz1]; omega)
  have cM := fun W => form_any (⟨#[45]⟩ ++ s) W (by rw [sz1]; omega)
  rw [cat1] at cP cM
  rw [p43] at cP
  rw [p45] at cM
  have hform : M.form s.data.toList = M.fB (M.body s.data.toList) := rfl
  have h256 := s[0].toNat_lt
  have hc256 := c.toNat_lt
  have hc1 : (bA [c]).size = 1 := bA_size _
  clear hft hsm hz hbne hne p43 p45
  by_cases h43 : s[0] = 43
  · have g : s[0].toNat = 43 := by rw [h43]; rfl
    rw [← hform] at h6
    have d1 : decide ((M.form s.data.toList : Int) < 1) = false := by simp; omega
    have d2 : decide ((6 : Int) < (M.form s.data.toList : Int)) = false := by simp; omega
    clear hl hform cP cM h43
    generalize M.form s.data.toList = F at *
    generalize decide (M.form (s.data.toList ++ [c]) ≠ 0) = bQ at *
    go_enter Tryd.func7, Tryd.ntmps7
    go_wp2_with fail
    refine (known_any _ he).mono ?_
    rintro r w1 ⟨rfl, hb1⟩
    have B1 : Below w.heap.size w w1 := hb1
    clear hb1
    go_wp2_with fail
    refine (cI _).mono ?_
    rintro r w' ⟨rfl, rfl⟩
    go_wp2_with fail
    refine (cF _).mono ?_
    rintro r w' ⟨rfl, rfl⟩
    go_wp2_with fail
    refine (q0 _).mono ?_
    rintro r w' ⟨rfl, rfl⟩
    go_wp2_with fail
    refine (q1 _).mono ?_
    rintro r w' ⟨rfl, rfl⟩
    go_wp2_with fail
    refine (q2 _).mono ?_
    rintro r w' ⟨rfl, rfl⟩
    go_wp2_with fail
    refine (q3 _).mono ?_
    rintro r w' ⟨rfl, rfl⟩
    go_wp2_with fail
    refine (q4 _).mono ?_
    rintro r w' ⟨rfl, rfl⟩
    go_wp2_with fail
    refine (q5 _).mono ?_
    rintro r w' ⟨rfl, rfl⟩
    go_wp2_with fail
    refine (cO _ (he.next B1)).mono ?_
    rintro r w2 ⟨rfl, hb2⟩
    have B2 : Below w.heap.size w w2 := B1.trans (hb2.mono B1.size)
    go_wp2_with fail
    refine (cV _ (he.next B2)).mono ?_
    rintro r w3 ⟨rfl, hb3⟩
    have B3 : Below w.heap.size w w3 := B2.trans (hb3.mono B2.size)
    go_wp2_with fail
    refine (cD _).mono ?_
    rintro r w' ⟨rfl, rfl⟩
    have hcv := one_conv w3 (c.toNat : Int) c rfl
    clear cI cF cO cV cD hb2 hb3 B1 B2 q0 q1 q2 q3 q4 q5
    generalize hn : c.toNat = n at *
    go_wp2_with (first | (go_at_call 11; refine (qc _).mono ?_; rintro r w4 ⟨rfl, rfl⟩) | fail)
    all_goals
      go_ret
      first
        | exact ⟨rfl, B3⟩
        | exact ⟨rfl, B3.alloc B3.size _⟩
        | (refine ⟨ret_bool ?_, B3.alloc B3.size _⟩
           rcases HQ.out with h | h | h | h | h | h | h | h
           all_goals first | (exfalso; omega) | (rw [h]; rfl) | (simp_all; done))
  · by_cases h45 : s[0] = 45
    · have g : s[0].toNat = 45 := by rw [h45]; rfl
      rw [← hform] at h6
      have d1 : decide ((M.form s.data.toList : Int) < 1) = false := by simp; omega
      have d2 : decide ((6 : Int) < (M.form s.data.toList : Int)) = false := by simp; omega
      clear hl hform cP cM h43 h45
      generalize M.form s.data.toList = F at *
      generalize decide (M.form (s.data.toList ++ [c]) ≠ 0) = bQ at *
      go_enter Tryd.func7, Tryd.ntmps7
      go_wp2_with fail
      refine (known_any _ he).mono ?_
      rintro r w1 ⟨rfl, hb1⟩
      have B1 : Below w.heap.size w w1 := hb1
      clear hb1
      go_wp2_with fail
      refine (cI _).mono ?_
      rintro r w' ⟨rfl, rfl⟩
      go_wp2_with fail
      refine (cF _).mono ?_
      rintro r w' ⟨rfl, rfl⟩
      go_wp2_with fail
      refine (q0 _).mono ?_
      rintro r w' ⟨rfl, rfl⟩
      go_wp2_with fail
      refine (q1 _).mono ?_
      rintro r w' ⟨rfl, rfl⟩
      go_wp2_with fail
      refine (q2 _).mono ?_
      rintro r w' ⟨rfl, rfl⟩
      go_wp2_with fail
      refine (q3 _).mono ?_
      rintro r w' ⟨rfl, rfl⟩
      go_wp2_with fail
      refine (q4 _).mono ?_
      rintro r w' ⟨rfl, rfl⟩
      go_wp2_with fail
      refine (q5 _).mono ?_
      rintro r w' ⟨rfl, rfl⟩
      go_wp2_with fail
      refine (cO _ (he.next B1)).mono ?_
      rintro r w2 ⟨rfl, hb2⟩
      have B2 : Below w.heap.size w w2 := B1.trans (hb2.mono B1.size)
      go_wp2_with fail
      refine (cV _ (he.next B2)).mono ?_
      rintro r w3 ⟨rfl, hb3⟩
      have B3 : Below w.heap.size w w3 := B2.trans (hb3.mono B2.size)
      go_wp2_with fail
      refine (cD _).mono ?_
      rintro r w' ⟨rfl, rfl⟩
      have hcv := one_conv w3 (c.toNat : Int) c rfl
      clear cI cF cO cV cD hb2 hb3 B1 B2 q0 q1 q2 q3 q4 q5
      generalize hn : c.toNat = n at *
      go_wp2_with (first | (go_at_call 11; refine (qc _).mono ?_; rintro r w4 ⟨rfl, rfl⟩) | fail)
      all_goals
        go_ret
        first
          | exact ⟨rfl, B3⟩
          | exact ⟨rfl, B3.alloc B3.size _⟩
          | (refine ⟨ret_bool ?_, B3.alloc B3.size _⟩
             rcases HQ.out with h | h | h | h | h | h | h | h
             all_goals first | (exfalso; omega) | (rw [h]; rfl) | (simp_all; done))
    · have g3 : ((s[0].toNat : Int) == 43) = false := neC (k := 43) (by omega) h43
      have g4 : ((s[0].toNat : Int) == 45) = false := neC (k := 45) (by omega) h45
      have g1 : ((s[0].toNat : Int) != 43) = true := by rw [bne, g3]; rfl
      have g2 : ((s[0].toNat : Int) != 45) = true := by rw [bne, g4]; rfl
      have hb : M.body s.data.toList = s.data.toList := by rw [hl]; exact (head_else h43 h45).2
      rw [hb] at hform h6
      rw [← hform] at h6 cP cM
      have d1 : decide ((M.form s.data.toList : Int) < 1) = false := by simp; omega
      have d2 : decide ((6 : Int) < (M.form s.data.toList : Int)) = false := by simp; omega
      clear hl hform h43 h45 hb
      generalize M.form s.data.toList = F at *
      generalize decide (M.form (s.data.toList ++ [c]) ≠ 0) = bQ at *
      go_enter Tryd.func7, Tryd.ntmps7
      go_wp2_with fail
      refine (known_any _ he).mono ?_
      rintro r w1 ⟨rfl, hb1⟩
      have B1 : Below w.heap.size w w1 := hb1
      clear hb1
      go_wp2_with fail
      refine (cI _).mono ?_
      rintro r w' ⟨rfl, rfl⟩
      go_wp2_with fail
      refine (cF _).mono ?_
      rintro r w' ⟨rfl, rfl⟩
      go_wp2_with fail
      refine (cP _).mono ?_
      rintro r w' ⟨rfl, rfl⟩
      go_wp2_with fail
      refine (cM _).mono ?_
      rintro r w' ⟨rfl, rfl⟩
      go_wp2_with fail
      refine (q0 _).mono ?_
      rintro r w' ⟨rfl, rfl⟩
      go_wp2_with fail
      refine (q1 _).mono ?_
      rintro r w' ⟨rfl, rfl⟩
      go_wp2_with fail
      refine (q2 _).mono ?_
      rintro r w' ⟨rfl, rfl⟩
      go_wp2_with fail
      refine (q3 _).mono ?_
      rintro r w' ⟨rfl, rfl⟩
      go_wp2_with fail
      refine (q4 _).mono ?_
      rintro r w' ⟨rfl, rfl⟩
      go_wp2_with fail
      refine (q5 _).mono ?_
      rintro r w' ⟨rfl, rfl⟩
      go_wp2_with fail
      refine (cO _ (he.next B1)).mono ?_
      rintro r w2 ⟨rfl, hb2⟩
      have B2 : Below w.heap.size w w2 := B1.trans (hb2.mono B1.size)
      go_wp2_with fail
      refine (cV _ (he.next B2)).mono ?_
      rintro r w3 ⟨rfl, hb3⟩
      have B3 : Below w.heap.size w w3 := B2.trans (hb3.mono B2.size)
      go_wp2_with fail
      refine (cD _).mono ?_
      rintro r w' ⟨rfl, rfl⟩
      have hcv := one_conv w3 (c.toNat : Int) c rfl
      clear cI cF cO cV cD hb2 hb3 B1 B2 q0 q1 q2 q3 q4 q5 cP cM
      generalize hn : c.toNat = n at *
      go_wp2_with (first | (go_at_call 11; refine (qc _).mono ?_; rintro r w4 ⟨rfl, rfl⟩) | fail)
      all_goals
        go_ret
        first
          | exact ⟨rfl, B3⟩
          | exact ⟨rfl, B3.alloc B3.size _⟩
          | (refine ⟨ret_bool ?_, B3.alloc B3.size _⟩
             rcases HQ.out with h | h | h | h | h | h | h | h
             all_goals first | (exfalso; omega) | (rw [h]; rfl) | (simp_all; done))
theorem apart_any (s : ByteArray) (k : Nat) (w : World) (he : Env w) (hs : s.size ≤ maxLen) (hk : k < 256) :
    Calls Tryd.prog 7 #[.string s, .int .u8 k] w fun e w' => e = .returned (.bool true) ∧ Below w.heap.size w w' := by
  by_cases h60 : s.size ≤ 60
  · by_cases hf : M.form s.data.toList = 0
    · exact apart_none s k w he h60 hf
    · have h := apart_form s (UInt8.ofNat k) w he h60 hf
      rw [u8_nat k hk] at h
      exact h
  · exact apart_long s k w he hs (by omega)
end Go.Proofs.YthgkmcidlcdjlaaDoor
