/- The document's Next is the reader of UTF-8; walks of Next whole, Well. -/
import Derived.Test.YthbmppkngaifmaaRa
namespace Go.Proofs.Ythbmppkngaifmaa
open Go.RowKit

def zp (d : Nat × Nat) : Int × Int := ((d.1 : Int), (d.2 : Int))
theorem nx8_lt (l : List UInt8) (hl : l ≠ []) (h : M.by8 l 0 < 128) : M.nx8 l = (M.by8 l 0, 1) := by
  have hd : M.dN l = (M.by8 l 0, 1) := by unfold M.dN; exact M.dN_one _ _ _ _ _ h
  exact M.nx8_of l _ _ hl hd (by omega)
theorem nx8_bad (l : List UInt8) (h : (128 ≤ M.by8 l 0 ∧ M.by8 l 0 < 192) ∨ 248 ≤ M.by8 l 0) : M.nx8 l = (0, 0) := by
  have hd : M.dN l = (65533, 1) := by
    have := M.by8_lt l 0
    unfold M.dN Lib.decodeN
    rw [if_neg (by omega), if_neg (by omega), if_neg (by omega), if_neg (by omega)]
  unfold M.nx8; rw [if_pos (Or.inr hd)]

theorem scB_iff (c : Int) : scB c = true ↔ 0 ≤ c ∧ c ≤ 1114111 ∧ (c < 55296 ∨ 57343 < c) := by unfold scB; simp
theorem cont_iff (L : List UInt8) (j : Nat) : contB L j = true ↔ 128 ≤ M.by8 L j ∧ M.by8 L j < 192 := by unfold contB; simp

theorem refN_of {L : List UInt8} {i n : Nat} {least c0 : Int} {l : List UInt8} {c : Nat} (hg : M.dN l = (c, n)) (hl : l ≠ []) (hn : n ≠ 1) (h : n ≤ L.length - i ∧ allC L i n = true ∧ least ≤ acc L i c0 (n - 1) ∧ scB (acc L i c0 (n - 1)) = true) (ha : acc L i c0 (n - 1) = c) :
    refN L i n least c0 = zp (M.nx8 l) := by
  rw [M.nx8_of l c n hl hg (by omega)]
  unfold refN
  rw [if_pos h, ha]; rfl
theorem refN_none {L : List UInt8} {i n : Nat} {least c0 : Int} {l : List UInt8} (hg : M.dN l = (65533, 1)) (h : ¬ (n ≤ L.length - i ∧ allC L i n = true ∧ least ≤ acc L i c0 (n - 1) ∧ scB (acc L i c0 (n - 1)) = true)) :
    refN L i n least c0 = zp (M.nx8 l) := by
  have : M.nx8 l = (0, 0) := by unfold M.nx8; rw [if_pos (Or.inr hg)]
  rw [this]
  unfold refN
  rw [if_neg h]; rfl
theorem allC2 (L : List UInt8) (i : Nat) : allC L i 2 = contB L (i + 1) := by simp [allC, List.range_succ]
theorem allC3 (L : List UInt8) (i : Nat) : allC L i 3 = (contB L (i + 1) && contB L (i + 2)) := by simp [allC, List.range_succ]
theorem allC4 (L : List UInt8) (i : Nat) : allC L i 4 = (contB L (i + 1) && (contB L (i + 2) && contB L (i + 3))) := by simp [allC, List.range_succ]

theorem ref_2 (L : List UInt8) (i : Nat) (hi : i < L.length) (k1 : 192 ≤ M.by8 L i) (k2 : M.by8 L i < 224) : refN L i 2 128 ((M.by8 L i : Nat) - 192) = zp (M.nx8 (L.drop i)) := by
  have hl : L.drop i ≠ [] := by intro h; have := congrArg List.length h; simp at this; omega
  have e : acc L i ((M.by8 L i : Nat) - 192) (2 - 1) = ((M.by8 L i : Nat) - 192) * 64 + (M.by8 L (i + 1) : Nat) - 128 := rfl
  have b1 := M.by8_lt L (i + 1)
  have hd : M.dN (L.drop i) = Lib.decodeN (L.length - i) (M.by8 L i) (M.by8 L (i + 1)) (M.by8 L (i + 2)) (M.by8 L (i + 3)) := by
    unfold M.dN; rw [List.length_drop, M.by8_drop, M.by8_drop, M.by8_drop, M.by8_drop, Nat.add_zero]
  by_cases h : 2 ≤ L.length - i ∧ (128 ≤ M.by8 L (i + 1) ∧ M.by8 L (i + 1) < 192) ∧ 128 ≤ (M.by8 L i - 192) * 64 + (M.by8 L (i + 1) - 128)
  · refine refN_of (c := (M.by8 L i - 192) * 64 + (M.by8 L (i + 1) - 128)) ?_ hl (by omega) ⟨h.1, ?_, ?_, ?_⟩ ?_
    · rw [hd]; unfold Lib.decodeN
      rw [if_neg (by omega), if_pos (by omega), if_pos (by omega)]
      refine Prod.ext ?_ rfl
      simp only
      omega
    · rw [allC2, cont_iff]; exact h.2.1
    · rw [e]; omega
    · rw [e, scB_iff]; omega
    · rw [e]; omega
  · refine refN_none ?_ ?_
    · rw [hd]; unfold Lib.decodeN
      rw [if_neg (by omega)]
      by_cases g : M.by8 L i / 32 = 6 ∧ 1 < L.length - i ∧ M.by8 L (i + 1) / 64 = 2
      · rw [if_pos g, if_neg (by omega)]
      · rw [if_neg g, if_neg (by omega), if_neg (by omega)]
    · rw [allC2, cont_iff, e, scB_iff]; omega

set_option maxHeartbeats 1000000 in
theorem ref_3 (L : List UInt8) (i : Nat) (hi : i < L.length) (k1 : 224 ≤ M.by8 L i) (k2 : M.by8 L i < 240) : refN L i 3 2048 ((M.by8 L i : Nat) - 224) = zp (M.nx8 (L.drop i)) := by
  have hl : L.drop i ≠ [] := by intro h; have := congrArg List.length h; simp at this; omega
  have e : acc L i ((M.by8 L i : Nat) - 224) (3 - 1) = (((M.by8 L i : Nat) - 224) * 64 + (M.by8 L (i + 1) : Nat) - 128) * 64 + (M.by8 L (i + 2) : Nat) - 128 := rfl
  have b1 := M.by8_lt L (i + 1)
  have b2 := M.by8_lt L (i + 2)
  have hd : M.dN (L.drop i) = Lib.decodeN (L.length - i) (M.by8 L i) (M.by8 L (i + 1)) (M.by8 L (i + 2)) (M.by8 L (i + 3)) := by
    unfold M.dN; rw [List.length_drop, M.by8_drop, M.by8_drop, M.by8_drop, M.by8_drop, Nat.add_zero]
  obtain ⟨c, hc⟩ : ∃ c, c = ((M.by8 L i - 224) * 64 + (M.by8 L (i + 1) - 128)) * 64 + (M.by8 L (i + 2) - 128) := ⟨_, rfl⟩
  by_cases h : 3 ≤ L.length - i ∧ (128 ≤ M.by8 L (i + 1) ∧ M.by8 L (i + 1) < 192) ∧ (128 ≤ M.by8 L (i + 2) ∧ M.by8 L (i + 2) < 192) ∧ 2048 ≤ c ∧ (c < 55296 ∨ 57343 < c)
  · refine refN_of (c := c) ?_ hl (by omega) ⟨h.1, ?_, ?_, ?_⟩ ?_
    · rw [hd]; unfold Lib.decodeN
      rw [if_neg (by omega), if_neg (by omega), if_pos (by omega), if_pos (by omega)]
      refine Prod.ext ?_ rfl
      simp only
      omega
    · rw [allC3, Bool.and_eq_true, cont_iff, cont_iff]; exact ⟨h.2.1, h.2.2.1⟩
    · rw [e]; omega
    · rw [e, scB_iff]; omega
    · rw [e]; omega
  · refine refN_none ?_ ?_
    · rw [hd]; unfold Lib.decodeN
      rw [if_neg (by omega), if_neg (by omega)]
      by_cases g : M.by8 L i / 16 = 14 ∧ (1 < L.length - i ∧ M.by8 L (i + 1) / 64 = 2) ∧ (2 < L.length - i ∧ M.by8 L (i + 2) / 64 = 2)
      · rw [if_pos g, if_neg (by omega)]
      · rw [if_neg g, if_neg (by omega)]
    · rw [allC3, Bool.and_eq_true, cont_iff, cont_iff, e, scB_iff]; omega

set_option maxHeartbeats 1000000 in
theorem ref_4 (L : List UInt8) (i : Nat) (hi : i < L.length) (k1 : 240 ≤ M.by8 L i) (k2 : M.by8 L i < 248) : refN L i 4 65536 ((M.by8 L i : Nat) - 240) = zp (M.nx8 (L.drop i)) := by
  have hl : L.drop i ≠ [] := by intro h; have := congrArg List.length h; simp at this; omega
  have e : acc L i ((M.by8 L i : Nat) - 240) (4 - 1) = ((((M.by8 L i : Nat) - 240) * 64 + (M.by8 L (i + 1) : Nat) - 128) * 64 + (M.by8 L (i + 2) : Nat) - 128) * 64 + (M.by8 L (i + 3) : Nat) - 128 := rfl
  have b1 := M.by8_lt L (i + 1)
  have b2 := M.by8_lt L (i + 2)
  have b3 := M.by8_lt L (i + 3)
  have hd : M.dN (L.drop i) = Lib.decodeN (L.length - i) (M.by8 L i) (M.by8 L (i + 1)) (M.by8 L (i + 2)) (M.by8 L (i + 3)) := by
    unfold M.dN; rw [List.length_drop, M.by8_drop, M.by8_drop, M.by8_drop, M.by8_drop, Nat.add_zero]
  obtain ⟨c, hc⟩ : ∃ c, c = (((M.by8 L i - 240) * 64 + (M.by8 L (i + 1) - 128)) * 64 + (M.by8 L (i + 2) - 128)) * 64 + (M.by8 L (i + 3) - 128) := ⟨_, rfl⟩
  by_cases h : 4 ≤ L.length - i ∧ (128 ≤ M.by8 L (i + 1) ∧ M.by8 L (i + 1) < 192) ∧ (128 ≤ M.by8 L (i + 2) ∧ M.by8 L (i + 2) < 192) ∧ (128 ≤ M.by8 L (i + 3) ∧ M.by8 L (i + 3) < 192) ∧ 65536 ≤ c ∧ c ≤ 1114111
  · refine refN_of (c := c) ?_ hl (by omega) ⟨h.1, ?_, ?_, ?_⟩ ?_
    · rw [hd]; unfold Lib.decodeN
      rw [if_neg (by omega), if_neg (by omega), if_neg (by omega), if_pos (by omega), if_pos (by omega)]
      refine Prod.ext ?_ rfl
      simp only
      omega
    · rw [allC4, Bool.and_eq_true, Bool.and_eq_true, cont_iff, cont_iff, cont_iff]; exact ⟨h.2.1, h.2.2.1, h.2.2.2.1⟩
    · rw [e]; omega
    · rw [e, scB_iff]; omega
    · rw [e]; omega
  · refine refN_none ?_ ?_
    · rw [hd]; unfold Lib.decodeN
      rw [if_neg (by omega), if_neg (by omega), if_neg (by omega)]
      by_cases g : M.by8 L i / 8 = 30 ∧ (1 < L.length - i ∧ M.by8 L (i + 1) / 64 = 2) ∧ (2 < L.length - i ∧ M.by8 L (i + 2) / 64 = 2) ∧ (3 < L.length - i ∧ M.by8 L (i + 3) / 64 = 2)
      · rw [if_pos g, if_neg (by omega)]
      · rw [if_neg g]
    · rw [allC4, Bool.and_eq_true, Bool.and_eq_true, cont_iff, cont_iff, cont_iff, e, scB_iff]; omega

set_option maxRecDepth 100000 in
set_option maxHeartbeats 1000000 in
/-- targumref1.Next: the scalar that begins at a byte, or (0, 0). -/
theorem rnext_any (s : ByteArray) (i : Nat) (w : World) (hi : i < s.size) (hs : s.size ≤ 100000) :
    Calls Try.prog 23 #[.string s, .int .i64 i] w fun r w' => r = .returned (.tuple #[.int .i64 ((M.nx8 (s.data.toList.drop i)).1 : Nat), .int .i64 ((M.nx8 (s.data.toList.drop i)).2 : Nat)]) ∧ w = w' := by
  have hiL : i < s.data.toList.length := by rw [← sz_list]; exact hi
  have hl : s.data.toList.drop i ≠ [] := by intro h; have := congrArg List.length h; rw [List.length_drop] at this; simp at this; rw [Array.length_toList] at hiL; omega
  have e0 : M.by8 (s.data.toList.drop i) 0 = M.by8 s.data.toList i := by rw [M.by8_drop, Nat.add_zero]
  have g0 := getB s i hi
  have hlt := M.by8_lt s.data.toList i
  have i0 : decide ((i : Int) < 0) = false := by simp
  have i1 : decide (s.size ≤ i) = false := by simp; omega
  have hbz : ((s[i]'hi).toNat : Int) < 256 := by omega
  by_cases h1 : M.by8 s.data.toList i < 128
  · rw [nx8_lt _ hl (by omega), e0, ← g0]
    have d0 : decide (((s[i]'hi).toNat : Int) < 128) = true := by simp; omega
    clear hl e0 g0 hlt h1 hiL
    go_enter Try.func23, Try.ntmps23
    go_wp2
    go_ret2
    exact ⟨ret_int2 rfl rfl, rfl⟩
  by_cases h2 : 192 ≤ M.by8 s.data.toList i ∧ M.by8 s.data.toList i < 224
  · have c := next_2 s i w hi hs h2.1 h2.2
    rw [ref_2 _ i hiL h2.1 h2.2] at c
    exact c
  by_cases h3 : 224 ≤ M.by8 s.data.toList i ∧ M.by8 s.data.toList i < 240
  · have c := next_3 s i w hi hs h3.1 h3.2
    rw [ref_3 _ i hiL h3.1 h3.2] at c
    exact c
  by_cases h4 : 240 ≤ M.by8 s.data.toList i ∧ M.by8 s.data.toList i < 248
  · have c := next_4 s i w hi hs h4.1 h4.2
    rw [ref_4 _ i hiL h4.1 h4.2] at c
    exact c
  rw [nx8_bad _ (by omega)]
  have d0 : decide (((s[i]'hi).toNat : Int) < 128) = false := by simp; omega
  have hx : ((s[i]'hi).toNat < 192) ∨ (248 ≤ (s[i]'hi).toNat) := by omega
  clear hl e0 g0 hlt h1 h2 h3 h4 hiL
  rcases hx with hx | hx
  · have e1 : decide ((192 : Int) ≤ ((s[i]'hi).toNat : Int)) = false := by simp; omega
    have e3 : decide ((224 : Int) ≤ ((s[i]'hi).toNat : Int)) = false := by simp; omega
    have e5 : decide ((240 : Int) ≤ ((s[i]'hi).toNat : Int)) = false := by simp; omega
    clear hx
    go_enter Try.func23, Try.ntmps23
    go_wp2
    go_ret2
    exact ⟨ret_int2 rfl rfl, rfl⟩
  · have e1 : decide ((192 : Int) ≤ ((s[i]'hi).toNat : Int)) = true := by simp; omega
    have e2 : decide (((s[i]'hi).toNat : Int) < 224) = false := by simp; omega
    have e3 : decide ((224 : Int) ≤ ((s[i]'hi).toNat : Int)) = true := by simp; omega
    have e4 : decide (((s[i]'hi).toNat : Int) < 240) = false := by simp; omega
    have e5 : decide ((240 : Int) ≤ ((s[i]'hi).toNat : Int)) = true := by simp; omega
    have e6 : decide (((s[i]'hi).toNat : Int) < 248) = false := by simp; omega
    clear hx
    go_enter Try.func23, Try.ntmps23
    go_wp2
    go_ret2
    exact ⟨ret_int2 rfl rfl, rfl⟩

end Go.Proofs.Ythbmppkngaifmaa
