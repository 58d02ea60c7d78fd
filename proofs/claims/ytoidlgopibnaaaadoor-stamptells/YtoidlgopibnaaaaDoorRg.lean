/- Facts of a time's end; of the time of day. -/
import Derived.Test.YtoidlgopibnaaaaDoorRf
set_option linter.unusedVariables false
namespace Go.Proofs.YtoidlgopibnaaaaDoor
open Go.RowKit

theorem tail_facts (s : ByteArray) (c : Nat) (X : M.Mo) (hs : s.size ≤ 1000) (hc : c ≤ s.size) (hy : X.y < 10000) (hmd : M.mayD X = true) (hmc : X.h < 24 ∧ X.mi < 60 ∧ X.se < 60) (h0 : X.bh = false ∧ X.zh = 0 ∧ X.zm = 0) :
    ((∀ W, Calls Tryd.prog 37 #[.string s, .int .i64 c] W fun e w' => e = .returned (.tuple #[.int .i64 0, .bool false]) ∧ Below W.heap.size W w') ∧ clV (M.cClk X (s.data.toList.drop c)) = noT) ∨
    ∃ o n : Int, -1440 < o ∧ o < 1440 ∧ 60 * (X.h : Int) + (X.mi : Int) - o = n ∧
      (∀ W, Calls Tryd.prog 37 #[.string s, .int .i64 c] W fun e w' => e = .returned (.tuple #[.int .i64 o, .bool true]) ∧ Below W.heap.size W w') ∧
      (((∀ W, Calls Tryd.prog 38 #[.int .i64 (X.y : Nat), .int .i64 (X.m : Nat), .int .i64 (X.d : Nat), .int .i64 n] W fun e w' => e = .returned (.tuple #[.string ⟨#[]⟩, .bool false]) ∧ Below W.heap.size W w') ∧ clV (M.cClk X (s.data.toList.drop c)) = noT) ∨
       ∃ ML : ByteArray, ML.size = 16 ∧ (∀ W, Calls Tryd.prog 38 #[.int .i64 (X.y : Nat), .int .i64 (X.m : Nat), .int .i64 (X.d : Nat), .int .i64 n] W fun e w' => e = .returned (.tuple #[.string ML, .bool true]) ∧ Below W.heap.size W w') ∧
         clV (M.cClk X (s.data.toList.drop c)) = .tuple #[.string (bA (ML.data.toList ++ (58 :: (M.d2 X.se ++ (M.dot (M.tz X.fr) ++ [90]))))), .bool true]) := by
  have cZ := fun W => zone_any s c X W (by omega) hc h0
  cases hT : M.cClk X (s.data.toList.drop c) with
  | none => rw [hT] at cZ; exact .inl ⟨cZ, rfl⟩
  | some Y =>
    rw [hT] at cZ
    obtain ⟨⟨k1, k2, k3, k4⟩, k5, k6, k7, k8⟩ := M.kept_clk hT
    unfold zoV at cZ
    simp only at cZ
    have hmC : M.mayC Y = true := by unfold M.mayC; rw [k5, k6, k7]; simp; omega
    have hmD : M.mayD Y = true := by unfold M.mayD at hmd ⊢; rw [k1, k2, k3]; exact hmd
    by_cases hz : M.mayZ Y = true
    · rw [if_pos hz] at cZ
      have hmay : M.may Y = true := by unfold M.may; rw [hmC, hmD, hz]; rfl
      obtain ⟨⟨d1, d2⟩, ⟨a1, a2, a3⟩, a4, a5⟩ := (M.may_iff _).1 hmay
      obtain ⟨b1, b2, b3, b4⟩ := mins_bound a1 a2 a4 a5
      have cM := fun W => moved_any Y W (by rw [k1]; exact hy) hmay
      rw [k1, k2, k3] at cM
      have hcl : clV (some Y) = ofV (M.zt Y) := by unfold clV; simp only; rw [if_pos ⟨hmC, hz⟩]
      refine .inr ⟨M.off Y, M.mins Y, b3, b4, by unfold M.mins; rw [k5, k6]; omega, cZ, ?_⟩
      rw [hcl]
      by_cases hno : M.early Y = true ∨ 9999 < (M.zy Y).1
      · rw [mvV_no hno] at cM
        refine .inl ⟨cM, ?_⟩
        unfold M.zt
        by_cases he : M.early Y = true
        · rw [if_pos he]; rfl
        · rw [if_neg he, if_pos (by rcases hno with h | h; exact absurd h he; exact h)]; rfl
      · have he : ¬ M.early Y = true := fun h => hno (.inl h)
        have h9 : ¬ 9999 < (M.zy Y).1 := fun h => hno (.inr h)
        unfold mvV at cM
        rw [if_neg hno] at cM
        refine .inr ⟨_, bA_size _, cM, ?_⟩
        unfold M.zt
        rw [if_neg he, if_neg h9, ml_ttx, bA_toList, k7, k8]; rfl
    · rw [if_neg hz] at cZ
      refine .inl ⟨cZ, ?_⟩
      unfold clV; simp only; rw [if_neg (fun h => hz h.2)]

theorem rhead_in (s : ByteArray) (k : Nat) (h : k < s.size) : (s.data.toList.drop k).head? = some s[k] := by rw [drop_cons s k h]; rfl
theorem rhead_not (s : ByteArray) (k : Nat) (c : UInt8) (h : ∀ hl : k < s.size, s[k] ≠ c) : ¬ (s.data.toList.drop k).head? = some c := by
  by_cases hl : k < s.size
  · rw [rhead_in s k hl]; intro q; exact h hl (Option.some.inj q)
  · rw [drop_nil s k (by omega)]; intro q; cases q
theorem aday_no (X : M.Mo) (l : List UInt8) (h : M.cnt 2 l = 0) : M.aDay X l = none := by unfold M.aDay; rw [if_pos h]
theorem aday_bad (s : ByteArray) (X : M.Mo) (k : Nat) (h : ¬ M.cnt 2 (s.data.toList.drop k) = 0) (hb : ∀ hl : k + M.cnt 2 (s.data.toList.drop k) < s.size, s[k + M.cnt 2 (s.data.toList.drop k)] ≠ 58) : M.aDay X (s.data.toList.drop k) = none := by
  unfold M.aDay; rw [if_neg h, List.drop_drop, if_neg (rhead_not s _ _ hb)]
theorem aday_go (s : ByteArray) (X : M.Mo) (k : Nat) (h : ¬ M.cnt 2 (s.data.toList.drop k) = 0) (hl : k + M.cnt 2 (s.data.toList.drop k) < s.size) (hb : s[k + M.cnt 2 (s.data.toList.drop k)] = 58) :
    M.aDay X (s.data.toList.drop k) = M.aMin { X with td := true, h := M.nv 2 0 (s.data.toList.drop k) } (s.data.toList.drop (k + M.cnt 2 (s.data.toList.drop k) + 1)) := by
  unfold M.aDay; rw [if_neg h, List.drop_drop, rhead_in s _ hl, hb, if_pos rfl, List.drop_drop]; rfl
theorem amin_no (X : M.Mo) (l : List UInt8) (h : ¬ M.cnt 2 l = 2) : M.aMin X l = none := by unfold M.aMin; rw [if_neg h]
theorem amin_bad (s : ByteArray) (X : M.Mo) (k : Nat) (h : M.cnt 2 (s.data.toList.drop k) = 2) (hb : ∀ hl : k + 2 < s.size, s[k + 2] ≠ 58) : M.aMin X (s.data.toList.drop k) = none := by
  unfold M.aMin; rw [if_pos h, List.drop_drop, if_neg (rhead_not s _ _ hb)]
theorem amin_go (s : ByteArray) (X : M.Mo) (k : Nat) (h : M.cnt 2 (s.data.toList.drop k) = 2) (hl : k + 2 < s.size) (hb : s[k + 2] = 58) :
    M.aMin X (s.data.toList.drop k) = M.aSec { X with mi := M.nv 2 0 (s.data.toList.drop k) } (s.data.toList.drop (k + 3)) := by
  unfold M.aMin; rw [if_pos h, List.drop_drop, rhead_in s _ hl, hb, if_pos rfl, List.drop_drop]
theorem asec_no (X : M.Mo) (l : List UInt8) (h : ¬ M.cnt 2 l = 2) : M.aSec X l = none := by unfold M.aSec; rw [if_neg h]
theorem asec_end (s : ByteArray) (X : M.Mo) (k : Nat) (h : M.cnt 2 (s.data.toList.drop k) = 2) (hb : ∀ hl : k + 2 < s.size, s[k + 2] ≠ 46) :
    M.aSec X (s.data.toList.drop k) = M.cClk { X with se := M.nv 2 0 (s.data.toList.drop k) } (s.data.toList.drop (k + 2)) := by
  unfold M.aSec; rw [if_pos h, List.drop_drop, if_neg (rhead_not s _ _ hb)]
theorem asec_dot (s : ByteArray) (X : M.Mo) (k : Nat) (h : M.cnt 2 (s.data.toList.drop k) = 2) (hl : k + 2 < s.size) (hb : s[k + 2] = 46) :
    M.aSec X (s.data.toList.drop k) = M.aPl { X with se := M.nv 2 0 (s.data.toList.drop k) } [] (s.data.toList.drop (k + 3)) := by
  unfold M.aSec; rw [if_pos h, List.drop_drop, rhead_in s _ hl, hb, if_pos rfl, List.drop_drop]
theorem apl_stop (s : ByteArray) (X : M.Mo) (g : List UInt8) (k : Nat) (hb : ∀ hl : k < s.size, M.dB s[k] = false) : M.aPl X g (s.data.toList.drop k) = M.cClk { X with fr := g } (s.data.toList.drop k) := by
  by_cases hl : k < s.size
  · rw [drop_cons s k hl, M.aPl, if_neg (by rw [hb hl]; decide)]
  · rw [drop_nil s k (by omega)]; rfl
theorem asec_keeps (X : M.Mo) (l : List UInt8) : ∀ Y, M.aSec X l = some Y → Y.h = X.h ∧ Y.mi = X.mi ∧ Y.se = M.nv 2 0 l := by
  intro Y h
  unfold M.aSec at h
  split at h
  · split at h
    · obtain ⟨f, r, e⟩ := M.apl_clk { X with se := M.nv 2 0 l } [] (l.drop 3)
      rw [e] at h
      obtain ⟨-, k5, k6, k7, k8⟩ := M.kept_clk h
      exact ⟨k5, k6, k7⟩
    · obtain ⟨-, k5, k6, k7, k8⟩ := M.kept_clk h
      exact ⟨k5, k6, k7⟩
  · cases h
end Go.Proofs.YtoidlgopibnaaaaDoor
