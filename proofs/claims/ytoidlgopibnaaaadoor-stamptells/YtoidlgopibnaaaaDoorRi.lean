/- targumref10's Of: facts. -/
import Derived.Test.YtoidlgopibnaaaaDoorRg
set_option linter.unusedVariables false
namespace Go.Proofs.YtoidlgopibnaaaaDoor
open Go.RowKit

namespace M
def KD (A Y : Mo) : Prop := Y.y = A.y ∧ Y.m = A.m ∧ Y.d = A.d
theorem kd_clk {A Y : Mo} {l : List UInt8} (h : cClk A l = some Y) : KD A Y ∧ Y.td = A.td := by
  obtain ⟨⟨k1, k2, k3, k4⟩, -⟩ := kept_clk h
  exact ⟨⟨k1, k2, k3⟩, k4⟩
theorem kd_sec {A Y : Mo} {l : List UInt8} (h : aSec A l = some Y) : KD A Y ∧ Y.td = A.td := by
  unfold aSec at h
  split at h
  · split at h
    · obtain ⟨f, r, e⟩ := apl_clk { A with se := nv 2 0 l } [] (l.drop 3)
      rw [e] at h
      have q := kd_clk h; exact q
    · have q := kd_clk h; exact q
  · cases h
theorem kd_min {A Y : Mo} {l : List UInt8} (h : aMin A l = some Y) : KD A Y ∧ Y.td = A.td := by
  unfold aMin at h
  split at h
  · split at h
    · have q := kd_sec h; exact q
    · cases h
  · cases h
theorem kd_day {A Y : Mo} {l : List UInt8} (h : aDay A l = some Y) : KD A Y ∧ Y.td = true := by
  unfold aDay at h
  split at h
  · cases h
  · split at h
    · have q := kd_min h; exact q
    · cases h
theorem kd_bl {A Y : Mo} {l : List UInt8} (h : rBl A l = some Y) : KD A Y ∧ Y.td = true := by
  induction l with
  | nil => exact kd_day h
  | cons c r ih =>
    rw [rBl] at h; split at h
    · exact ih h
    · exact kd_day h
theorem kd_tail {n : Nat} {A Y : Mo} {l : List UInt8} (h : rTail n A l = some Y) : KD A Y ∧ (l ≠ [] → Y.td = true) := by
  cases l with
  | nil =>
    rw [rTail] at h; split at h
    · cases h; exact ⟨⟨rfl, rfl, rfl⟩, fun q => absurd rfl q⟩
    · cases h
  | cons c r =>
    rw [rTail] at h
    split at h
    · exact ⟨(kd_day h).1, fun _ => (kd_day h).2⟩
    · split at h
      · exact ⟨(kd_day h).1, fun _ => (kd_day h).2⟩
      · split at h
        · exact ⟨(kd_bl h).1, fun _ => (kd_bl h).2⟩
        · cases h
theorem mayD_kd {A Y : Mo} (h : KD A Y) : mayD Y = mayD A := by unfold mayD; rw [h.1, h.2.1, h.2.2]
end M
theorem of_bad {n : Nat} {A : M.Mo} {l r : List UInt8} (h : M.rd l = M.rTail n A r) (hm : M.mayD A = false) : ofV (M.ofS l) = noT := by
  cases hT : M.rTail n A r with
  | none => rw [ofS_none (by rw [h, hT])]; rfl
  | some Y =>
    rw [ofS_not (by rw [h, hT]) (by unfold M.may; rw [M.mayD_kd (M.kd_tail hT).1, hm]; rfl)]; rfl
theorem of_clV {n : Nat} {A : M.Mo} {l r : List UInt8} (h : M.rd l = M.rTail n A r) (hr : r ≠ []) (hm : M.mayD A = true) : ofV (M.ofS l) = clV (M.rTail n A r) := by
  cases hT : M.rTail n A r with
  | none => rw [ofS_none (by rw [h, hT])]; rfl
  | some Y =>
    have kd := M.kd_tail hT
    have hD := M.mayD_kd kd.1
    rw [hm] at hD
    unfold clV; simp only
    by_cases hc : M.mayC Y = true ∧ M.mayZ Y = true
    · rw [if_pos hc, ofS_time (by rw [h, hT]) (by unfold M.may; rw [hD, hc.1, hc.2]; rfl) (kd.2 hr)]
    · rw [if_neg hc, ofS_not (by rw [h, hT]) (by
        unfold M.may; rw [hD]
        cases h1 : M.mayC Y
        · rfl
        · cases h2 : M.mayZ Y
          · rfl
          · exact absurd ⟨h1, h2⟩ hc)]; rfl
theorem rd_no (s : ByteArray) (h : ¬ M.cnt 4 s.data.toList = 4) : M.rd s.data.toList = none := by unfold M.rd; rw [if_neg h]
theorem rd_bad (s : ByteArray) (h : M.cnt 4 s.data.toList = 4) (hb : ∀ hl : 4 < s.size, s[4] ≠ 45) : M.rd s.data.toList = none := by
  unfold M.rd; rw [if_pos h, if_neg (rhead_not s 4 45 hb)]
theorem rd_go (s : ByteArray) (h : M.cnt 4 s.data.toList = 4) (hl : 4 < s.size) (hb : s[4] = 45) :
    M.rd s.data.toList = M.rMon s.size { M.M0 with y := M.nv 4 0 s.data.toList } (s.data.toList.drop 5) := by
  unfold M.rd; rw [if_pos h, rhead_in s 4 hl, hb, if_pos rfl, sz_list]
theorem rmon_no (n : Nat) (X : M.Mo) (l : List UInt8) (h : M.cnt 2 l = 0) : M.rMon n X l = none := by unfold M.rMon; rw [if_pos h]
theorem rmon_bad (s : ByteArray) (n : Nat) (X : M.Mo) (k : Nat) (h : ¬ M.cnt 2 (s.data.toList.drop k) = 0) (hb : ∀ hl : k + M.cnt 2 (s.data.toList.drop k) < s.size, s[k + M.cnt 2 (s.data.toList.drop k)] ≠ 45) : M.rMon n X (s.data.toList.drop k) = none := by
  unfold M.rMon; rw [if_neg h, List.drop_drop, if_neg (rhead_not s _ _ hb)]
theorem rmon_go (s : ByteArray) (n : Nat) (X : M.Mo) (k : Nat) (h : ¬ M.cnt 2 (s.data.toList.drop k) = 0) (hl : k + M.cnt 2 (s.data.toList.drop k) < s.size) (hb : s[k + M.cnt 2 (s.data.toList.drop k)] = 45) :
    M.rMon n X (s.data.toList.drop k) = M.rDay n { X with m := M.nv 2 0 (s.data.toList.drop k) } (s.data.toList.drop (k + M.cnt 2 (s.data.toList.drop k) + 1)) := by
  unfold M.rMon; rw [if_neg h, List.drop_drop, rhead_in s _ hl, hb, if_pos rfl, List.drop_drop]; rfl
theorem rday_no (n : Nat) (X : M.Mo) (l : List UInt8) (h : M.cnt 2 l = 0) : M.rDay n X l = none := by unfold M.rDay; rw [if_pos h]
theorem rday_go (s : ByteArray) (n : Nat) (X : M.Mo) (k : Nat) (h : ¬ M.cnt 2 (s.data.toList.drop k) = 0) :
    M.rDay n X (s.data.toList.drop k) = M.rTail n { X with d := M.nv 2 0 (s.data.toList.drop k) } (s.data.toList.drop (k + M.cnt 2 (s.data.toList.drop k))) := by
  unfold M.rDay; rw [if_neg h, List.drop_drop]
theorem rbl_in (s : ByteArray) (X : M.Mo) (k : Nat) (hl : k < s.size) (hb : M.bB s[k] = true) : M.rBl X (s.data.toList.drop k) = M.rBl X (s.data.toList.drop (k + 1)) := by
  rw [drop_cons s k hl, M.rBl, if_pos hb]
theorem rbl_out (s : ByteArray) (X : M.Mo) (k : Nat) (hb : ∀ hl : k < s.size, M.bB s[k] = false) : M.rBl X (s.data.toList.drop k) = M.aDay X (s.data.toList.drop k) := by
  by_cases hl : k < s.size
  · rw [drop_cons s k hl, M.rBl, if_neg (by rw [hb hl]; decide)]
  · rw [drop_nil s k (by omega), M.rBl]
end Go.Proofs.YtoidlgopibnaaaaDoor
