/- Walks: targumref10's moved, all ways; what a zone keeps. Facts of a time's end; of the time of day. -/
import Derived.Test.YtipgipgehnhgkaaGreatDoorTk
set_option linter.unusedVariables false
namespace Go.Proofs.YtipgipgehnhgkaaGreatDoor.S10
open Go.RowKit

def noT : Value := .tuple #[.string ⟨#[]⟩, .bool false]
/-- What moved answers. -/
def mvV (Y : M.Mo) : Value := if M.early Y = true ∨ 9999 < (M.zy Y).1 then noT else .tuple #[.string (bA (ml (M.zy Y).1 (M.zy Y).2.1 (M.zy Y).2.2.1 (M.zy Y).2.2.2)), .bool true]
theorem mvV_yes {Y : M.Mo} {y m d n : Nat} (h : M.zy Y = (y, m, d, n)) (he : M.early Y = false) (hy : y < 10000) : mvV Y = .tuple #[.string (bA (ml y m d n)), .bool true] := by
  unfold mvV; rw [h, he, if_neg (by rintro (h | h); exact nomatch h; simp at h; omega)]
theorem mvV_no {Y : M.Mo} (h : M.early Y = true ∨ 9999 < (M.zy Y).1) : mvV Y = noT := by unfold mvV; rw [if_pos h]
theorem early_not {Y : M.Mo} (h : ¬ M.mins Y < 0 ∨ ¬ Y.y = 0 ∨ ¬ Y.m ≤ 1 ∨ ¬ Y.d ≤ 1) : M.early Y = false := by
  unfold M.early
  rcases h with h | h | h | h <;> rw [decide_eq_false h] <;> simp
theorem mins_bound {Y : M.Mo} (h1 : Y.h < 24) (h2 : Y.mi < 60) (h3 : Y.zh < 24) (h4 : Y.zm < 60) : -1440 < M.mins Y ∧ M.mins Y < 2880 ∧ -1440 < M.off Y ∧ M.off Y < 1440 := by
  unfold M.mins M.off; split <;> omega
theorem moved_any (Y : M.Mo) (w : World) (hy : Y.y < 10000) (hm : M.may Y = true) :
    Calls Tryz.prog 121 #[.int .i64 (Y.y : Nat), .int .i64 (Y.m : Nat), .int .i64 (Y.d : Nat), .int .i64 (M.mins Y)] w fun e w' => e = .returned (mvV Y) ∧ Below w.heap.size w w' := by
  obtain ⟨⟨d1, d2⟩, ⟨a1, a2, a3⟩, a4, a5⟩ := (M.may_iff _).1 hm
  obtain ⟨m1, m2⟩ := M.month_of ⟨d1, d2⟩
  obtain ⟨b1, b2, -, -⟩ := mins_bound a1 a2 a4 a5
  have d31 := M.days_le Y.y Y.m
  obtain ⟨n, hn⟩ : ∃ n, M.mins Y = n := ⟨_, rfl⟩
  rw [hn] at b1 b2
  by_cases h1 : n < 0
  · have hN : n + 1440 = (((n + 1440).toNat : Nat) : Int) := by omega
    have hN2 : (n + 1440).toNat < 1440 := by omega
    by_cases hd : 1 < Y.d
    · have ez : M.zy Y = (Y.y, Y.m, Y.d - 1, (n + 1440).toNat) := by unfold M.zy; rw [hn, if_pos h1]; unfold M.bef; rw [if_pos hd]
      rw [mvV_yes ez (early_not (by omega)) hy, hn]
      exact moved_b Y.y Y.m Y.d (Y.d - 1) _ n w hy m2 d2 (by omega) (by omega) h1 hN hN2
    · have hd1 : Y.d = 1 := by omega
      by_cases hm1 : 1 < Y.m
      · have ez : M.zy Y = (Y.y, Y.m - 1, M.days Y.y (Y.m - 1), (n + 1440).toNat) := by unfold M.zy; rw [hn, if_pos h1]; unfold M.bef; rw [if_neg hd, if_pos hm1]
        rw [mvV_yes ez (early_not (by omega)) hy, hn, hd1]
        exact moved_c Y.y Y.m (Y.m - 1) _ _ n w hy (by omega) (by omega) (by omega) rfl h1 hN hN2
      · have hm2 : Y.m = 1 := by omega
        by_cases hy0 : Y.y = 0
        · rw [mvV_no (.inl (by unfold M.early; rw [hn, decide_eq_true h1, decide_eq_true hy0, decide_eq_true (by omega : Y.m ≤ 1), decide_eq_true (by omega : Y.d ≤ 1)]; rfl)), hn, hd1, hm2, hy0]
          exact moved_dx _ n w h1 hN hN2
        · have ez : M.zy Y = (Y.y - 1, 12, 31, (n + 1440).toNat) := by unfold M.zy; rw [hn, if_pos h1]; unfold M.bef; rw [if_neg hd, if_neg hm1]
          rw [mvV_yes ez (early_not (by omega)) (by omega), hn, hd1, hm2]
          exact moved_d Y.y (Y.y - 1) _ n w hy (by omega) h1 hN hN2
  · have he := early_not (Y := Y) (.inl (by rw [hn]; exact h1))
    by_cases h2 : 1440 ≤ n
    · have hN : n - 1440 = (((n - 1440).toNat : Nat) : Int) := by omega
      have hN2 : (n - 1440).toNat < 1440 := by omega
      by_cases hd : Y.d < M.days Y.y Y.m
      · have ez : M.zy Y = (Y.y, Y.m, Y.d + 1, (n - 1440).toNat) := by unfold M.zy; rw [hn, if_neg h1, if_pos h2]; unfold M.aft; rw [if_pos hd]
        rw [mvV_yes ez he hy, hn]
        exact moved_e Y.y Y.m Y.d (Y.d + 1) _ n w hy m2 (by omega) (by omega) h2 hN hN2
      · have hdd : M.days Y.y Y.m = Y.d := by omega
        by_cases hm1 : Y.m < 12
        · have ez : M.zy Y = (Y.y, Y.m + 1, 1, (n - 1440).toNat) := by unfold M.zy; rw [hn, if_neg h1, if_pos h2]; unfold M.aft; rw [if_neg hd, if_pos hm1]
          rw [mvV_yes ez he hy, hn]
          exact moved_f Y.y Y.m (Y.m + 1) Y.d (Y.d + 1) _ n w hy hm1 (by omega) (by omega) hdd h2 hN hN2
        · have hm2 : Y.m = 12 := by omega
          have hd1 : Y.d = 31 := by rw [hm2, M.days_dec] at hdd; omega
          have ez : M.zy Y = (Y.y + 1, 1, 1, (n - 1440).toNat) := by unfold M.zy; rw [hn, if_neg h1, if_pos h2]; unfold M.aft; rw [if_neg hd, if_neg hm1]
          by_cases hy9 : Y.y = 9999
          · rw [mvV_no (.inr (by rw [ez]; show 9999 < Y.y + 1; omega)), hn, hm2, hd1, hy9]
            exact moved_gx _ n w h2 hN hN2
          · rw [mvV_yes ez he (by omega), hn, hm2, hd1]
            exact moved_g Y.y (Y.y + 1) _ n w (by omega) (by omega) h2 hN hN2
    · obtain ⟨k, rfl⟩ : ∃ k : Nat, n = (k : Int) := ⟨n.toNat, by omega⟩
      have ez : M.zy Y = (Y.y, Y.m, Y.d, k) := by unfold M.zy; rw [hn, if_neg h1, if_neg h2]; rfl
      rw [mvV_yes ez he hy, hn]
      exact moved_in Y.y Y.m Y.d k w hy ⟨m1, m2⟩ ⟨d1, d2⟩ (by omega)

namespace M
/-- What the rest of a text leaves as it is. -/
def Kept (A Y : Mo) : Prop := (Y.y = A.y ∧ Y.m = A.m ∧ Y.d = A.d ∧ Y.td = A.td) ∧ Y.h = A.h ∧ Y.mi = A.mi ∧ Y.se = A.se ∧ Y.fr = A.fr
theorem kept_last {A Y : Mo} {l : List UInt8} (h : cLast A l = some Y) : Kept A Y := by rw [fr_cLast h]; exact ⟨⟨rfl, rfl, rfl, rfl⟩, rfl, rfl, rfl, rfl⟩
theorem kept_min {A Y : Mo} {l : List UInt8} (h : cMin A l = some Y) : Kept A Y := by
  unfold cMin at h; split at h
  · have q := kept_last h; exact q
  · cases h
theorem kept_hour {A Y : Mo} {l : List UInt8} (h : cHour A l = some Y) : Kept A Y := by
  unfold cHour at h; split at h
  · cases h
  · split at h
    · have q := kept_min h; exact q
    · have q := kept_last h; exact q
theorem kept_bl {A Y : Mo} {l : List UInt8} (h : cBl A l = some Y) : Kept A Y := by
  induction l with
  | nil => cases h
  | cons c r ih =>
    rw [cBl] at h
    split at h
    · exact ih h
    · split at h
      · have q := kept_last h; exact q
      · split at h
        · have q := kept_hour h; exact q
        · split at h
          · have q := kept_hour h; exact q
          · cases h
theorem kept_clk {A Y : Mo} {l : List UInt8} (h : cClk A l = some Y) : Kept A Y := by
  unfold cClk at h; split at h
  · cases h; exact ⟨⟨rfl, rfl, rfl, rfl⟩, rfl, rfl, rfl, rfl⟩
  · have q := kept_bl h; exact q
theorem apl_clk (A : Mo) (g l : List UInt8) : ∃ f r, aPl A g l = cClk { A with fr := f } r := by
  induction l generalizing g with
  | nil => exact ⟨_, _, rfl⟩
  | cons c r ih =>
    rw [aPl]; split
    · exact ih _
    · exact ⟨_, _, rfl⟩
end M
/-- What clock answers. -/
def clV : Option M.Mo → Value
  | none => noT
  | some Y => if M.mayC Y = true ∧ M.mayZ Y = true then ofV (M.zt Y) else noT
theorem clV_not {T : Option M.Mo} {h n s : Nat} (hx : 23 < h ∨ 59 < n ∨ 59 < s) (hT : ∀ Y, T = some Y → Y.h = h ∧ Y.mi = n ∧ Y.se = s) : clV T = noT := by
  cases T with
  | none => rfl
  | some Y =>
    obtain ⟨e1, e2, e3⟩ := hT Y rfl
    unfold clV; simp only; rw [if_neg]
    rintro ⟨h1, -⟩
    unfold M.mayC at h1
    rw [e1, e2, e3] at h1
    simp at h1; omega
end Go.Proofs.YtipgipgehnhgkaaGreatDoor.S10

namespace Go.Proofs.YtipgipgehnhgkaaGreatDoor.S10
open Go.RowKit

theorem tail_facts (s : ByteArray) (c : Nat) (X : M.Mo) (hs : s.size ≤ 1000) (hc : c ≤ s.size) (hy : X.y < 10000) (hmd : M.mayD X = true) (hmc : X.h < 24 ∧ X.mi < 60 ∧ X.se < 60) (h0 : X.bh = false ∧ X.zh = 0 ∧ X.zm = 0) :
    ((∀ W, Calls Tryz.prog 120 #[.string s, .int .i64 c] W fun e w' => e = .returned (.tuple #[.int .i64 0, .bool false]) ∧ Below W.heap.size W w') ∧ clV (M.cClk X (s.data.toList.drop c)) = noT) ∨
    ∃ o n : Int, -1440 < o ∧ o < 1440 ∧ 60 * (X.h : Int) + (X.mi : Int) - o = n ∧
      (∀ W, Calls Tryz.prog 120 #[.string s, .int .i64 c] W fun e w' => e = .returned (.tuple #[.int .i64 o, .bool true]) ∧ Below W.heap.size W w') ∧
      (((∀ W, Calls Tryz.prog 121 #[.int .i64 (X.y : Nat), .int .i64 (X.m : Nat), .int .i64 (X.d : Nat), .int .i64 n] W fun e w' => e = .returned (.tuple #[.string ⟨#[]⟩, .bool false]) ∧ Below W.heap.size W w') ∧ clV (M.cClk X (s.data.toList.drop c)) = noT) ∨
       ∃ ML : ByteArray, ML.size = 16 ∧ (∀ W, Calls Tryz.prog 121 #[.int .i64 (X.y : Nat), .int .i64 (X.m : Nat), .int .i64 (X.d : Nat), .int .i64 n] W fun e w' => e = .returned (.tuple #[.string ML, .bool true]) ∧ Below W.heap.size W w') ∧
         clV (M.cClk X (s.data.toList.drop c)) = .tuple #[.string (bA (ML.data.toList ++ (58 :: (M.d2 X.se ++ (M.dot (M.tz X.fr) ++ [90]))))), .bool true]) := by
  have cZ := fun W => zone_any s c X W (by omega) hc h0
  cases hT : M.cClk X (s.data.toList.drop c) with
  | none => rw [hT] at cZ; exact .inl ⟨cZ, rfl⟩
  | some Y =>
    rw [hT] at cZ
    obtain ⟨⟨k1, k2, k3, k4⟩, k5, k6, k7, k8⟩ := M.kept_clk hT
    unfold zoV at cZ
    simp only at cZ
    have hmC : M.mayC Y = true := by unfold M.mayC; rw [k5, k6, k7]; simp; omega
    have hmD : M.mayD Y = true := by unfold M.mayD at hmd ⊢; rw [k1, k2, k3]; exact hmd
    by_cases hz : M.mayZ Y = true
    · rw [if_pos hz] at cZ
      have hmay : M.may Y = true := by unfold M.may; rw [hmC, hmD, hz]; rfl
      obtain ⟨⟨d1, d2⟩, ⟨a1, a2, a3⟩, a4, a5⟩ := (M.may_iff _).1 hmay
      obtain ⟨b1, b2, b3, b4⟩ := mins_bound a1 a2 a4 a5
      have cM := fun W => moved_any Y W (by rw [k1]; exact hy) hmay
      rw [k1, k2, k3] at cM
      have hcl : clV (some Y) = ofV (M.zt Y) := by unfold clV; simp only; rw [if_pos ⟨hmC, hz⟩]
      refine .inr ⟨M.off Y, M.mins Y, b3, b4, by unfold M.mins; rw [k5, k6]; omega, cZ, ?_⟩
      rw [hcl]
      by_cases hno : M.early Y = true ∨ 9999 < (M.zy Y).1
      · rw [mvV_no hno] at cM
        refine .inl ⟨cM, ?_⟩
        unfold M.zt
        by_cases he : M.early Y = true
        · rw [if_pos he]; rfl
        · rw [if_neg he, if_pos (by rcases hno with h | h; exact absurd h he; exact h)]; rfl
      · have he : ¬ M.early Y = true := fun h => hno (.inl h)
        have h9 : ¬ 9999 < (M.zy Y).1 := fun h => hno (.inr h)
        unfold mvV at cM
        rw [if_neg hno] at cM
        refine .inr ⟨_, bA_size _, cM, ?_⟩
        unfold M.zt
        rw [if_neg he, if_neg h9, ml_ttx, bA_toList, k7, k8]; rfl
    · rw [if_neg hz] at cZ
      refine .inl ⟨cZ, ?_⟩
      unfold clV; simp only; rw [if_neg (fun h => hz h.2)]

theorem rhead_in (s : ByteArray) (k : Nat) (h : k < s.size) : (s.data.toList.drop k).head? = some s[k] := by rw [drop_cons s k h]; rfl
theorem rhead_not (s : ByteArray) (k : Nat) (c : UInt8) (h : ∀ hl : k < s.size, s[k] ≠ c) : ¬ (s.data.toList.drop k).head? = some c := by
  by_cases hl : k < s.size
  · rw [rhead_in s k hl]; intro q; exact h hl (Option.some.inj q)
  · rw [drop_nil s k (by omega)]; intro q; cases q
theorem aday_no (X : M.Mo) (l : List UInt8) (h : M.cnt 2 l = 0) : M.aDay X l = none := by unfold M.aDay; rw [if_pos h]
theorem aday_bad (s : ByteArray) (X : M.Mo) (k : Nat) (h : ¬ M.cnt 2 (s.data.toList.drop k) = 0) (hb : ∀ hl : k + M.cnt 2 (s.data.toList.drop k) < s.size, s[k + M.cnt 2 (s.data.toList.drop k)] ≠ 58) : M.aDay X (s.data.toList.drop k) = none := by
  unfold M.aDay; rw [if_neg h, List.drop_drop, if_neg (rhead_not s _ _ hb)]
theorem aday_go (s : ByteArray) (X : M.Mo) (k : Nat) (h : ¬ M.cnt 2 (s.data.toList.drop k) = 0) (hl : k + M.cnt 2 (s.data.toList.drop k) < s.size) (hb : s[k + M.cnt 2 (s.data.toList.drop k)] = 58) :
    M.aDay X (s.data.toList.drop k) = M.aMin { X with td := true, h := M.nv 2 0 (s.data.toList.drop k) } (s.data.toList.drop (k + M.cnt 2 (s.data.toList.drop k) + 1)) := by
  unfold M.aDay; rw [if_neg h, List.drop_drop, rhead_in s _ hl, hb, if_pos rfl, List.drop_drop]; rfl
theorem amin_no (X : M.Mo) (l : List UInt8) (h : ¬ M.cnt 2 l = 2) : M.aMin X l = none := by unfold M.aMin; rw [if_neg h]
theorem amin_bad (s : ByteArray) (X : M.Mo) (k : Nat) (h : M.cnt 2 (s.data.toList.drop k) = 2) (hb : ∀ hl : k + 2 < s.size, s[k + 2] ≠ 58) : M.aMin X (s.data.toList.drop k) = none := by
  unfold M.aMin; rw [if_pos h, List.drop_drop, if_neg (rhead_not s _ _ hb)]
theorem amin_go (s : ByteArray) (X : M.Mo) (k : Nat) (h : M.cnt 2 (s.data.toList.drop k) = 2) (hl : k + 2 < s.size) (hb : s[k + 2] = 58) :
    M.aMin X (s.data.toList.drop k) = M.aSec { X with mi := M.nv 2 0 (s.data.toList.drop k) } (s.data.toList.drop (k + 3)) := by
  unfold M.aMin; rw [if_pos h, List.drop_drop, rhead_in s _ hl, hb, if_pos rfl, List.drop_drop]
theorem asec_no (X : M.Mo) (l : List UInt8) (h : ¬ M.cnt 2 l = 2) : M.aSec X l = none := by unfold M.aSec; rw [if_neg h]
theorem asec_end (s : ByteArray) (X : M.Mo) (k : Nat) (h : M.cnt 2 (s.data.toList.drop k) = 2) (hb : ∀ hl : k + 2 < s.size, s[k + 2] ≠ 46) :
    M.aSec X (s.data.toList.drop k) = M.cClk { X with se := M.nv 2 0 (s.data.toList.drop k) } (s.data.toList.drop (k + 2)) := by
  unfold M.aSec; rw [if_pos h, List.drop_drop, if_neg (rhead_not s _ _ hb)]
theorem asec_dot (s : ByteArray) (X : M.Mo) (k : Nat) (h : M.cnt 2 (s.data.toList.drop k) = 2) (hl : k + 2 < s.size) (hb : s[k + 2] = 46) :
    M.aSec X (s.data.toList.drop k) = M.aPl { X with se := M.nv 2 0 (s.data.toList.drop k) } [] (s.data.toList.drop (k + 3)) := by
  unfold M.aSec; rw [if_pos h, List.drop_drop, rhead_in s _ hl, hb, if_pos rfl, List.drop_drop]
theorem apl_stop (s : ByteArray) (X : M.Mo) (g : List UInt8) (k : Nat) (hb : ∀ hl : k < s.size, M.dB s[k] = false) : M.aPl X g (s.data.toList.drop k) = M.cClk { X with fr := g } (s.data.toList.drop k) := by
  by_cases hl : k < s.size
  · rw [drop_cons s k hl, M.aPl, if_neg (by rw [hb hl]; decide)]
  · rw [drop_nil s k (by omega)]; rfl
theorem asec_keeps (X : M.Mo) (l : List UInt8) : ∀ Y, M.aSec X l = some Y → Y.h = X.h ∧ Y.mi = X.mi ∧ Y.se = M.nv 2 0 l := by
  intro Y h
  unfold M.aSec at h
  split at h
  · split at h
    · obtain ⟨f, r, e⟩ := M.apl_clk { X with se := M.nv 2 0 l } [] (l.drop 3)
      rw [e] at h
      obtain ⟨-, k5, k6, k7, k8⟩ := M.kept_clk h
      exact ⟨k5, k6, k7⟩
    · obtain ⟨-, k5, k6, k7, k8⟩ := M.kept_clk h
      exact ⟨k5, k6, k7⟩
  · cases h
end Go.Proofs.YtipgipgehnhgkaaGreatDoor.S10
