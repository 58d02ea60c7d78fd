/- Walk of big.read: the pieces of decimal digits. Walks of big.Base, MulAdd. Walk: known. The law BigOrder: its walk. The law BigDigits: its walk. -/
import Derived.Test.YtocegiffbgnogaaDoorWd
set_option linter.unusedVariables false
namespace Go.Proofs.YtocegiffbgnogaaDoor
open Go.RowKit

/-- The value of the digits from a up to b. -/
def seg (s : ByteArray) (a b : Nat) : Nat := M.val 10 ((s.data.toList.take b).drop a)
theorem seg_self (s : ByteArray) (a : Nat) : seg s a a = 0 := by
  unfold seg; rw [List.drop_of_length_le (by rw [List.length_take]; omega)]; rfl
theorem seg_succ (s : ByteArray) (a b : Nat) (hab : a ≤ b) (h : b < s.size) : seg s a (b + 1) = seg s a b * 10 + M.dv s[b] := by
  unfold seg
  rw [take_snoc s b h, List.drop_append_of_le_length (by rw [List.length_take, ← sz_list]; omega), M.val_snoc]
theorem seg_join (s : ByteArray) (a b : Nat) (hab : a ≤ b) (h : b ≤ s.size) : seg s 0 b = seg s 0 a * 10 ^ (b - a) + seg s a b := by
  unfold seg
  rw [List.drop_zero, List.drop_zero]
  have e : s.data.toList.take b = s.data.toList.take a ++ (s.data.toList.take b).drop a := by
    have := List.take_append_drop a (s.data.toList.take b)
    rw [List.take_take, Nat.min_eq_left hab] at this
    exact this.symm
  conv => lhs; rw [e]
  rw [M.val_append, List.length_drop, List.length_take, ← sz_list, Nat.min_eq_left h]
theorem seg_lt (s : ByteArray) (a b : Nat) (hd : M.allD 10 s.data.toList = true) (h : b ≤ s.size) : seg s a b < 10 ^ (b - a) := by
  unfold seg
  have h1 : M.allD 10 ((s.data.toList.take b).drop a) = true := by
    rw [M.allD_iff] at hd ⊢
    intro c hc
    exact hd c (List.mem_of_mem_take (List.mem_of_mem_drop hc))
  have := M.val_lt 10 _ h1
  rwa [List.length_drop, List.length_take, ← sz_list, Nat.min_eq_left h] at this
theorem seg_all (s : ByteArray) : seg s 0 s.size = M.val 10 s.data.toList := by
  unfold seg; rw [take_all, List.drop_zero]
theorem read_step (s : ByteArray) (ds : List Nat) (e lo T : Nat) (hlo : lo = e - 7) (he : e ≤ s.size)
    (h : M.pv ds + 10000000 ^ ds.length * seg s 0 e = T) : M.pv (ds ++ [seg s lo e]) + 10000000 ^ (ds ++ [seg s lo e]).length * seg s 0 lo = T := by
  rw [M.pv_snoc, List.length_append, List.length_cons, List.length_nil, Nat.zero_add, Nat.pow_succ, ← h, Nat.add_assoc, Nat.mul_assoc, ← Nat.mul_add]
  congr 2
  rw [seg_join s lo e (by omega) he]
  by_cases h7 : 7 ≤ e
  · rw [show e - lo = 7 by omega, show (10 : Nat) ^ 7 = 10000000 by decide]; omega
  · rw [show lo = 0 by omega, seg_self, Nat.zero_mul]; omega

def ReadPost (B : Nat) (s : ByteArray) (r : Ending) (w' : World) : Prop := ∃ v ps, r = .returned v ∧ Own w' B v ps ∧ M.Small ps ∧ M.pv ps = M.val 10 s.data.toList ∧ ps.length ≤ s.size
theorem own_made {w : World} {B : Nat} {v : Value} (h : w.ownsRow B 63 1 v 0 []) : Own w B v [] := h

set_option maxRecDepth 100000 in
set_option maxHeartbeats 4000000 in
theorem read_any (s : ByteArray) (w : World) (hs : s.size ≤ 100000) (hd : M.allD 10 s.data.toList = true) :
    Calls Tryd.prog 70 #[.string s] w fun r w' => ReadPost w.heap.size s r w' ∧ Below w.heap.size w w' := by
  have HD := Lib.hid hd
  clear hd
  obtain ⟨i0, hi, hz0, hz1, hz2⟩ := info_parts Tryd.info63
  have hdiv : s.size / 7 ≤ s.size := Nat.div_le_self _ _
  go_enter Tryd.func70, Tryd.ntmps70
  go_wp2_with (first | (at_make; refine wpList_make_own w rfl (.const (.int .i64 0)) (.tmp 10) 61 rfl w.heap.size 63 i0 (.int .u64 0) 1 Tryd.underlying61 hi hz0 hz1 .i64 .i64 _ (s.size / 7 + 1) rfl rfl (by omega) (by rw [hz2]; omega) (by unfold maxLen; omega) (Nat.le_refl _) ?_; intro w1 ho1 hg1; have hB1 : Below w.heap.size w w1 := (Below.refl _ _).grown hg1 (Nat.le_refl _) (fun k hk => by cases hk); have HO1 := Lib.hid (own_made ho1); clear ho1 hg1) | fail)
  go_loopw [3, 4] (fun sv ev wr => ∃ (ds : List Nat) (e : Nat) (z : Int), ev = .int .i64 z ∧ z ≤ e ∧ (e : Int) ≤ z + 6 ∧ (0 < e → z = e) ∧ e ≤ s.size ∧ e + ds.length ≤ s.size ∧ Hid (M.Small ds) ∧ Hid (M.pv ds + 10000000 ^ ds.length * seg s 0 e = M.val 10 s.data.toList) ∧ Hid (Own wr w.heap.size sv ds) ∧ Below w.heap.size w wr) (fun _ ev _ => (intOf ev).toNat)
  case atStart => exact ⟨[], s.size, s.size, rfl, Int.le_refl _, by omega, fun _ => rfl, Nat.le_refl _, by simp, M.Small.nil, by show _ = _; rw [seg_all]; simp [M.pv], HO1.out, hB1⟩
  case round =>
    obtain ⟨ds, e, z, rfl, hz1', hz2', hez, hes, hlen, hsd, hst, hown, hbw⟩ := hrel
    have hwsz : w.heap.size ≤ wr.heap.size := hbw.size
    by_cases he0 : 0 < e
    · obtain rfl := hez he0
      clear hez hz1' hz2'
      obtain ⟨lo, hlo⟩ : ∃ lo, lo = e - 7 := ⟨_, rfl⟩
      have hlo1 : lo ≤ e := by omega
      have hlo2 : e ≤ lo + 7 := by omega
      have hstep := read_step s ds e lo _ hlo hes hst.out
      have hseg := seg_lt s lo e HD.out hes
      have hseg7 : seg s lo e < 10000000 := Nat.lt_of_lt_of_le hseg (by
        have := Nat.pow_le_pow_right (show 0 < 10 by omega) (show e - lo ≤ 7 by omega)
        rw [show (10 : Nat) ^ 7 = 10000000 by decide] at this; exact this)
      have HSTEP := Lib.hid hstep
      have HLO := Lib.hid hlo
      clear hstep hseg hst
      have hed : decide ((0 : Int) < (e : Int)) = true := by simp; omega
      clear hlo
      by_cases h7 : 7 ≤ e
      all_goals
        go_wp2
        go_loop [5, 6] (fun qv iv => ∃ (i : Nat), iv = .int .i64 (i : Int) ∧ lo ≤ i ∧ i ≤ e ∧ qv = .int .u64 ((seg s lo i : Nat) : Int)) (fun _ iv => e - (intOf iv).toNat)
        case atStart => exact ⟨lo, by (have := HLO.out; go_num), Nat.le_refl _, hlo1, by rw [seg_self]; rfl⟩
        case round =>
          obtain ⟨i, rfl, hi1, hi2, rfl⟩ := hrel
          by_cases hie : i < e
          · have hied : decide (i < e) = true := by simpa using hie
            have c1 := digitAt_any s i wr (by omega)
            have hsl := seg_lt s lo i HD.out (by omega)
            have hsl6 : seg s lo i < 1000000 := Nat.lt_of_lt_of_le hsl (by
              have := Nat.pow_le_pow_right (show 0 < 10 by omega) (show i - lo ≤ 6 by omega)
              rw [show (10 : Nat) ^ 6 = 1000000 by decide] at this; exact this)
            have hss := seg_succ s lo i hi1 (by omega)
            have hdv := M.dv_le (s[i]'(by omega))
            have HSS := Lib.hid hss
            clear hss hsl
            go_wp2_with (go_at_call 56; refine c1.mono ?_; rintro r w' ⟨rfl, rfl⟩)
            go_round
            case rel => exact ⟨i + 1, by go_num, by omega, by omega, by rw [HSS.out]; go_num⟩
            case measure => simp [intOf]; omega
          · obtain rfl : i = e := by omega
            have hied : decide (i < i) = false := by simp
            have hown1 := hown.out
            have hsm1 := hsd.out.snoc hseg7
            obtain ⟨q, hq⟩ : ∃ q, seg s lo i = q := ⟨_, rfl⟩
            rw [hq] at hseg7 HSTEP hsm1 ⊢
            have HQ := Lib.hid hq
            have HSM1 := Lib.hid hsm1
            clear hq hown hsm1
            go_wp2_with (first | (at_builtin; refine wpList_append_own _ rfl (.tmp 32) (.tmp 34) 61 rfl w.heap.size 63 i0 (.int .u64 0) 1 8 Tryd.underlying61 hi hz0 hz1 hz2 rfl (by decide) _ ds.length (ds.map uc) rfl (World.ownsRow.alloc hown1 _) ⟨wr.heap.size, 0, none⟩ 1 1 [.int .u64 (q : Int)] rfl rfl (uc_news _ _ _) (uc_one _) (by unfold maxLen; omega) (by omega) (by simp; omega) ?_; intro v5 w5 hown5 hgrow5 _; have hb5 : Below w.heap.size w w5 := (hbw.alloc hwsz _).grown hgrow5 (by simp; omega) (fun k hk => (World.ownsRow.lt hown1 k hk).1); have HO5 := Lib.hid (Own.snoc hown5); clear hgrow5 hown5 hown1) | fail)
            go_roundw
            case rel => exact ⟨ds ++ [q], lo, (i : Int) - 7, rfl, by have := HLO.out; omega, by have := HLO.out; omega, fun h => by have := HLO.out; omega, by omega, by have := HLO.out; rw [List.length_append]; simp; omega, HSM1.out, HSTEP.out, HO5.out, hb5⟩
            case measure => simp [intOf]; omega
    · obtain rfl : e = 0 := by omega
      have hed : decide ((0 : Int) < z) = false := by simp; omega
      have hst1 := hst.out
      rw [seg_self, Nat.mul_zero, Nat.add_zero] at hst1
      have HST := Lib.hid hst1
      clear hst hst1
      go_wp2
      go_ret
      exact ⟨⟨_, ds, rfl, hown.out, hsd.out, HST.out, by omega⟩, hbw⟩
end Go.Proofs.YtocegiffbgnogaaDoor

namespace Go.Proofs.YtocegiffbgnogaaDoor
open Go.RowKit

theorem wr_bA (ps : List Nat) (hs : M.Small ps) : M.allD 10 (bA (M.wr ps)).data.toList = true ∧ M.val 10 (bA (M.wr ps)).data.toList = M.pv ps ∧ (bA (M.wr ps)).size = 7 * ps.length := by
  rw [bA_toList, bA_size, M.wr_length]
  exact ⟨(M.wr_ok ps hs).1, (M.wr_ok ps hs).2, rfl⟩

/-- The last two calls: written, then whole. -/
theorem ends_any (neg : Bool) (ps : List Nat) (w : World) (hs : M.Small ps) (hn : ps.length ≤ 14000) :
    Calls Tryd.prog 40 #[.bool neg, .string (bA (M.wr ps))] w fun e w' => e = .returned (.string (tx (M.sgn neg (M.pv ps)))) ∧ Below w.heap.size w w' := by
  obtain ⟨h1, h2, h3⟩ := wr_bA ps hs
  have := whole_any neg (bA (M.wr ps)) w (by omega) h1
  rwa [h2] at this

theorem tx_good (z : Int) : M.goodB (tx z).data.toList = true := by rw [tx_list]; exact M.good_txt z
theorem tx_pos (z : Int) : 0 < (tx z).size := by rw [tx_size]; exact List.length_pos_iff.2 (M.txt_ne z)
theorem tx_0 (z : Int) : ((tx z)[0]'(tx_pos z) = 45) ↔ z < 0 := by
  have h := M.txt_isNeg z
  have hl := drop_cons (tx z) 0 (tx_pos z)
  rw [List.drop_zero, tx_list] at hl
  unfold M.isNeg at h
  rw [hl] at h
  simp at h
  exact h

theorem head_not (A : ByteArray) (h0 : 0 < A.size) (h : M.isNeg A.data.toList = false) : ((A[0].toNat : Int) == 45) = false := by
  have hl := drop_cons A 0 h0
  rw [List.drop_zero] at hl
  rw [hl] at h
  have h1 : ¬ A[0] = 45 := by intro e; rw [e] at h; simp [M.isNeg] at h
  simp only [beq_eq_false_iff_ne]
  intro e
  have e' : (A[0].toNat : Int) = ((45 : Nat) : Int) := e
  exact h1 (UInt8.toNat_inj.1 (Int.ofNat_inj.1 e'))
theorem head_is (A : ByteArray) (h0 : 0 < A.size) (h : M.isNeg A.data.toList = true) : A[0].toNat = 45 := by
  have hl := drop_cons A 0 h0
  rw [List.drop_zero] at hl
  rw [hl] at h
  have h1 : A[0] = 45 := by simpa [M.isNeg] using h
  rw [h1]; rfl

/-- MulAdd where nothing is told. -/
def mulNo (A : ByteArray) (m k : Int) : Prop := M.goodB A.data.toList = false ∨ M.isNeg A.data.toList = true ∨ stepB m = false ∨ stepB k = false
end Go.Proofs.YtocegiffbgnogaaDoor

namespace Go.Proofs.YtocegiffbgnogaaDoor
open Go.RowKit

theorem lit_pos (l : List UInt8) (h1 : M.okD 10 l = true) (h2 : l ≠ [] ∧ l.head? ≠ some 48) (n : Nat) (hn : M.val 10 l = n) : tx (n : Int) = bA l := by
  obtain ⟨_, he⟩ := M.dg_of l h1 h2
  unfold tx
  rw [M.txt_nat, ← hn, ← he]
theorem lit_neg (l : List UInt8) (h1 : M.okD 10 l = true) (h2 : l ≠ [] ∧ l.head? ≠ some 48) (n : Nat) (hn : M.val 10 l = n) : tx (-(n : Int)) = bA (45 :: l) := by
  obtain ⟨hp, he⟩ := M.dg_of l h1 h2
  unfold tx
  rw [M.txt_neg _ (by omega), ← hn, ← he]
theorem tx0 : tx 0 = ⟨#[48]⟩ := by unfold tx; rw [M.txt_zero]; rfl
theorem tx1 : tx 1 = ⟨#[49]⟩ := lit_pos [49] (by decide) (by decide) 1 (by decide)
theorem txm1 : tx (-1) = ⟨#[45, 49]⟩ := lit_neg [49] (by decide) (by decide) 1 (by decide)
theorem txm2 : tx (-2) = ⟨#[45, 50]⟩ := lit_neg [50] (by decide) (by decide) 2 (by decide)
end Go.Proofs.YtocegiffbgnogaaDoor

namespace Go.Proofs.YtocegiffbgnogaaDoor
open Go.RowKit

theorem norm_list (neg : Bool) (l : List UInt8) (w : World) (h : M.okD 10 l = true) (hl : l.length ≤ 1000) :
    Calls Tryd.prog 21 #[.bool neg, .string (bA l)] w fun e w' => e = .returned (.string (tx (M.sgn neg (M.val 10 l)))) ∧ Below w.heap.size w w' := by
  have := norm_yes neg (bA l) w (by rw [bA_size]; omega) (by rw [bA_toList]; exact h)
  rwa [bA_toList] at this
theorem val_zeros (k : Nat) (l : List UInt8) : M.val 10 (List.replicate k 48 ++ l) = M.val 10 l := by
  rw [M.val_append]
  have : M.val 10 (List.replicate k 48) = 0 := by
    induction k with
    | zero => rfl
    | succ k ih => rw [List.replicate_succ', M.val_snoc, ih]; decide
  rw [this, Nat.zero_mul, Nat.zero_add]
theorem ok_zeros (k : Nat) (l : List UInt8) (h : M.okD 10 l = true) : M.okD 10 (List.replicate k 48 ++ l) = true := by
  rw [M.okD_iff] at h ⊢
  refine ⟨by simp [h.1], ?_⟩
  rw [M.allD_append, h.2, Bool.and_true, M.allD_iff]
  intro c hc
  rw [(List.mem_replicate.1 hc).2]; decide
theorem tx_len (z : Int) (k : Nat) (hk : 0 < k) (h : z.natAbs < 10 ^ k) : (tx z).size ≤ k + 1 := by
  rw [tx_size]; exact M.txt_len z k hk h
theorem tx_inj {a b : Int} (h : tx a = tx b) : a = b := by
  unfold tx at h
  exact M.txt_inj (bA_inj.1 h)
theorem tx_beq (a b : Int) : ((tx a).toList == (tx b).toList) = decide (a = b) := by
  rw [Bool.eq_iff_iff, decide_eq_true_eq, beq_iff_eq, ByteArray.toList_eq, ByteArray.toList_eq]
  constructor
  · intro h
    apply M.txt_inj
    rwa [tx_list, tx_list] at h
  · intro h; rw [h]
theorem sgn_not (neg : Bool) (n : Nat) : M.sgn (!neg) n = -M.sgn neg n := by cases neg <;> simp [M.sgn]
theorem sgn_abs (neg : Bool) (n : Nat) : (M.sgn neg n).natAbs = n := by cases neg <;> simp [M.sgn]
theorem allD_cons {c : UInt8} {r : List UInt8} {k : Nat} (h : M.dv c = k) (hk : k < 10) (hr : M.allD 10 r = true) : M.allD 10 (c :: r) = true := by
  have := M.allD_append 10 [c] r
  rw [hr, Bool.and_true] at this
  rw [show c :: r = [c] ++ r from rfl, this]
  simp [M.allD, h, hk]
end Go.Proofs.YtocegiffbgnogaaDoor

namespace Go.Proofs.YtocegiffbgnogaaDoor
open Go.RowKit

/-- A byte alone, as a text. -/
theorem one_conv (w : World) (z : Int) (c : UInt8) (h : (c.toNat : Int) = z) :
    (convert 22 9 (.slice (some ⟨w.heap.size, 0, none⟩) 1 1)).run Tryd.prog (w.alloc (.cells #[.int .u8 z] 5)) = .ok (.string (bA [c])) (w.alloc (.cells #[.int .u8 z] 5)) := by
  have hr : Row (w.alloc (.cells #[.int .u8 z] 5)) w.heap.size [c] := by
    unfold Row
    subst h
    show (w.heap.push (.cells #[.int .u8 (c.toNat : Int)] 5))[w.heap.size]? = _
    simp [Lib.byteCells]
  exact hr.conv0 1
end Go.Proofs.YtocegiffbgnogaaDoor
