/- Walks of big.Base, MulAdd. -/
import Derived.Test.YthgkmcidlcdjlaaDoorWg
set_option linter.unusedVariables false
namespace Go.Proofs.YthgkmcidlcdjlaaDoor
open Go.RowKit

theorem wr_bA (ps : List Nat) (hs : M.Small ps) : M.allD 10 (bA (M.wr ps)).data.toList = true ∧ M.val 10 (bA (M.wr ps)).data.toList = M.pv ps ∧ (bA (M.wr ps)).size = 7 * ps.length := by
  rw [bA_toList, bA_size, M.wr_length]
  exact ⟨(M.wr_ok ps hs).1, (M.wr_ok ps hs).2, rfl⟩

/-- The last two calls: written, then whole. -/
theorem ends_any (neg : Bool) (ps : List Nat) (w : World) (hs : M.Small ps) (hn : ps.length ≤ 14000) :
    Calls Tryd.prog 32 #[.bool neg, .string (bA (M.wr ps))] w fun e w' => e = .returned (.string (tx (M.sgn neg (M.pv ps)))) ∧ Below w.heap.size w w' := by
  obtain ⟨h1, h2, h3⟩ := wr_bA ps hs
  have := whole_any neg (bA (M.wr ps)) w (by omega) h1
  rwa [h2] at this

set_option maxRecDepth 100000 in
set_option maxHeartbeats 1000000 in
theorem base_yes (s : ByteArray) (b : Nat) (w : World) (hb : b = 2 ∨ b = 8 ∨ b = 16) (hs : s.size ≤ 6000) (hd : M.okD b s.data.toList = true) :
    Calls Tryd.prog 33 #[.string s, .int .i64 b] w fun r w' => r = .returned (.string (tx (M.val b s.data.toList : Nat))) ∧ Below w.heap.size w w' := by
  have c1 := digitsOf_any s b w (by omega) (by omega)
  rw [hd] at c1
  have c2 := joined_any s b w hb (by omega) ((M.okD_iff _ _).1 hd).2
  obtain ⟨T, hT⟩ : ∃ T, M.val b s.data.toList = T := ⟨_, rfl⟩
  rw [hT] at c2 ⊢
  clear hd hT
  rcases hb with rfl | rfl | rfl
  all_goals
    go_enter Tryd.func33, Tryd.ntmps33
    go_wp2_with fail
    refine c1.mono ?_
    rintro r w' ⟨rfl, rfl⟩
    go_wp2_with fail
    refine c2.mono ?_
    rintro r w2 ⟨⟨v, ps, rfl, ho, hsm, hpv, hl⟩, hb2⟩
    subst hpv
    clear c1 c2
    go_wp2_with fail
    refine (written_any v ps w.heap.size _ ho hsm (by omega)).mono ?_
    rintro r w3 ⟨rfl, hb3⟩
    go_wp2_with fail
    refine (ends_any false ps _ hsm (by omega)).mono ?_
    rintro r w4 ⟨rfl, hb4⟩
    clear ho
    go_wp2
    go_ret
    exact ⟨rfl, (hb2.trans (hb3.mono hb2.size)).trans (hb4.mono (Nat.le_trans hb2.size hb3.size))⟩
set_option maxRecDepth 100000 in
theorem base_no (s : ByteArray) (b : Nat) (w : World) (hb : b = 2 ∨ b = 8 ∨ b = 16) (hs : s.size ≤ 6000) (hd : M.okD b s.data.toList = false) :
    Calls Tryd.prog 33 #[.string s, .int .i64 b] w fun r w' => r = .returned (.string ⟨#[]⟩) ∧ w = w' := by
  have c1 := digitsOf_any s b w (by omega) (by omega)
  rw [hd] at c1
  clear hd
  rcases hb with rfl | rfl | rfl
  all_goals
    go_enter Tryd.func33, Tryd.ntmps33
    go_wp2_with fail
    refine c1.mono ?_
    rintro r w' ⟨rfl, rfl⟩
    go_wp2
    go_ret
    exact ⟨rfl, rfl⟩
theorem base_other (s : ByteArray) (b : Int) (w : World) (hb : ¬ (b = 2 ∨ b = 8 ∨ b = 16)) :
    Calls Tryd.prog 33 #[.string s, .int .i64 b] w fun r w' => r = .returned (.string ⟨#[]⟩) ∧ w = w' := by
  have h1 : (b == 2) = false := by simp; omega
  have h2 : (b == 8) = false := by simp; omega
  have h3 : (b == 16) = false := by simp; omega
  clear hb
  go_enter Tryd.func33, Tryd.ntmps33
  go_wp2
  go_ret
  exact ⟨rfl, rfl⟩

theorem tx_good (z : Int) : M.goodB (tx z).data.toList = true := by rw [tx_list]; exact M.good_txt z
theorem tx_pos (z : Int) : 0 < (tx z).size := by rw [tx_size]; exact List.length_pos_iff.2 (M.txt_ne z)
theorem tx_0 (z : Int) : ((tx z)[0]'(tx_pos z) = 45) ↔ z < 0 := by
  have h := M.txt_isNeg z
  have hl := drop_cons (tx z) 0 (tx_pos z)
  rw [List.drop_zero, tx_list] at hl
  unfold M.isNeg at h
  rw [hl] at h
  simp at h
  exact h

theorem head_not (A : ByteArray) (h0 : 0 < A.size) (h : M.isNeg A.data.toList = false) : ((A[0].toNat : Int) == 45) = false := by
  have hl := drop_cons A 0 h0
  rw [List.drop_zero] at hl
  rw [hl] at h
  have h1 : ¬ A[0] = 45 := by intro e; rw [e] at h; simp [M.isNeg] at h
  simp only [beq_eq_false_iff_ne]
  intro e
  have e' : (A[0].toNat : Int) = ((45 : Nat) : Int) := e
  exact h1 (UInt8.toNat_inj.1 (Int.ofNat_inj.1 e'))
theorem head_is (A : ByteArray) (h0 : 0 < A.size) (h : M.isNeg A.data.toList = true) : A[0].toNat = 45 := by
  have hl := drop_cons A 0 h0
  rw [List.drop_zero] at hl
  rw [hl] at h
  have h1 : A[0] = 45 := by simpa [M.isNeg] using h
  rw [h1]; rfl

set_option maxRecDepth 100000 in
set_option maxHeartbeats 2000000 in
theorem mulAdd_core (A : ByteArray) (a m k : Nat) (w : World) (hA : A.size ≤ 6000) (h0 : 0 < A.size) (hg : M.goodB A.data.toList = true) (hn : M.isNeg A.data.toList = false) (hd : M.allD 10 A.data.toList = true) (hv : M.val 10 A.data.toList = a) (hm : m ≤ 1099511627776) (hk : k ≤ 1099511627776) :
    Calls Tryd.prog 48 #[.string A, .int .i64 m, .int .i64 k] w fun r w' => r = .returned (.string (tx ((a * m + k : Nat) : Int))) ∧ Below w.heap.size w w' := by
  have c1 := good_any A w (by omega)
  rw [hg] at c1
  have h2 := head_not A h0 hn
  have c2 := isStep_any m w
  have c3 := isStep_any k w
  rw [show stepB (m : Int) = true from decide_eq_true (by omega)] at c2
  rw [show stepB (k : Int) = true from decide_eq_true (by omega)] at c3
  have c4 := read_any A w (by omega) hd
  unfold ReadPost at c4
  rw [hv] at c4
  clear hg hn hd hv
  go_enter Tryd.func48, Tryd.ntmps48
  go_wp2_with fail
  refine c1.mono ?_
  rintro r w' ⟨rfl, rfl⟩
  go_wp2_with fail
  refine c2.mono ?_
  rintro r w' ⟨rfl, rfl⟩
  go_wp2_with fail
  refine c3.mono ?_
  rintro r w' ⟨rfl, rfl⟩
  go_wp2_with fail
  refine c4.mono ?_
  rintro r w1 ⟨⟨v, ps, rfl, ho, hsm, hpv, hl⟩, hb1⟩
  have HPV := Lib.hid hpv
  clear hpv c1 c2 c3 c4
  go_wp2_with fail
  refine (mulAdd_any v ps m k w.heap.size _ ho hsm hb1.size (by omega) hm hk).mono ?_
  rintro r w2 ⟨⟨v2, ps2, rfl, ho2, hsm2, hpv2, hl2⟩, hb2⟩
  rw [HPV.out] at hpv2
  have HPV2 := Lib.hid hpv2
  clear hpv2 ho
  go_wp2_with fail
  refine (written_any v2 ps2 w.heap.size _ ho2 hsm2 (by omega)).mono ?_
  rintro r w3 ⟨rfl, hb3⟩
  go_wp2_with fail
  refine (ends_any false ps2 _ hsm2 (by omega)).mono ?_
  rintro r w4 ⟨rfl, hb4⟩
  clear ho2
  go_wp2
  go_ret
  have hz : w.heap.size ≤ w2.heap.size := Nat.le_trans hb1.size hb2.size
  exact ⟨by rw [HPV2.out]; rfl, ((hb1.trans hb2).trans (hb3.mono hz)).trans (hb4.mono (Nat.le_trans hz hb3.size))⟩
theorem mulAdd_yes (a m k : Nat) (w : World) (ha : (M.txt (a : Int)).length ≤ 6000) (hm : m ≤ 1099511627776) (hk : k ≤ 1099511627776) :
    Calls Tryd.prog 48 #[.string (tx a), .int .i64 m, .int .i64 k] w fun r w' => r = .returned (.string (tx ((a * m + k : Nat) : Int))) ∧ Below w.heap.size w w' := by
  refine mulAdd_core (tx a) a m k w (by rw [tx_size]; exact ha) (tx_pos _) (tx_good _) ?_ ?_ ?_ hm hk
  · rw [tx_list, M.txt_isNeg]; simp
  · rw [tx_list, M.txt_nat]; exact M.dg_all a
  · rw [tx_list, M.txt_nat, M.dg_val]
/-- MulAdd where nothing is told. -/
def mulNo (A : ByteArray) (m k : Int) : Prop := M.goodB A.data.toList = false ∨ M.isNeg A.data.toList = true ∨ stepB m = false ∨ stepB k = false
set_option maxRecDepth 100000 in
set_option maxHeartbeats 2000000 in
theorem mulAdd_no (A : ByteArray) (m k : Int) (w : World) (hA : A.size ≤ 6000) (h : mulNo A m k) :
    Calls Tryd.prog 48 #[.string A, .int .i64 m, .int .i64 k] w fun r w' => r = .returned (.string ⟨#[]⟩) ∧ w = w' := by
  have c1 := good_any A w (by omega)
  have c2 := isStep_any m w
  have c3 := isStep_any k w
  by_cases hg : M.goodB A.data.toList = true
  · rw [hg] at c1
    obtain ⟨z, hz⟩ := M.txt_of_good hg
    have h0 : 0 < A.size := by rw [sz_list, hz]; exact List.length_pos_iff.2 (M.txt_ne z)
    clear hz z
    by_cases hn : M.isNeg A.data.toList = true
    · have h2 := head_is A h0 hn
      have h3 : ((A[0].toNat : Int) == 45) = true := by rw [h2]; rfl
      clear hn hg h h2
      go_enter Tryd.func48, Tryd.ntmps48
      go_wp2_with fail
      refine c1.mono ?_
      rintro r w' ⟨rfl, rfl⟩
      go_wp2
      go_ret
      exact ⟨rfl, rfl⟩
    · have h2 := head_not A h0 (by simpa using hn)
      by_cases hm : stepB m = true
      · have hk : stepB k = false := by
          rcases h with h | h | h | h
          · rw [hg] at h; cases h
          · exact absurd h hn
          · rw [hm] at h; cases h
          · exact h
        rw [hm] at c2
        rw [hk] at c3
        clear hm hk hn hg h
        go_enter Tryd.func48, Tryd.ntmps48
        go_wp2_with fail
        refine c1.mono ?_
        rintro r w' ⟨rfl, rfl⟩
        go_wp2_with fail
        refine c2.mono ?_
        rintro r w' ⟨rfl, rfl⟩
        go_wp2_with fail
        refine c3.mono ?_
        rintro r w' ⟨rfl, rfl⟩
        go_wp2
        go_ret
        exact ⟨rfl, rfl⟩
      · rw [show stepB m = false by simpa using hm] at c2
        clear hm hn hg h
        go_enter Tryd.func48, Tryd.ntmps48
        go_wp2_with fail
        refine c1.mono ?_
        rintro r w' ⟨rfl, rfl⟩
        go_wp2_with fail
        refine c2.mono ?_
        rintro r w' ⟨rfl, rfl⟩
        go_wp2
        go_ret
        exact ⟨rfl, rfl⟩
  · rw [show M.goodB A.data.toList = false by simpa using hg] at c1
    clear hg h
    go_enter Tryd.func48, Tryd.ntmps48
    go_wp2_with fail
    refine c1.mono ?_
    rintro r w' ⟨rfl, rfl⟩
    go_wp2
    go_ret
    exact ⟨rfl, rfl⟩
end Go.Proofs.YthgkmcidlcdjlaaDoor
