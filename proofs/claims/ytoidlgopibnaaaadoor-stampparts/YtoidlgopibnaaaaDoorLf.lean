/- Plain mathematics: digits behind the point; parts that there are not. -/
import Derived.Test.YtoidlgopibnaaaaDoorLb
set_option linter.unusedVariables false
namespace Go.Proofs.YtoidlgopibnaaaaDoor
open Go.RowKit
namespace M

/-- A text's signs as digits. -/
def digs (l : List UInt8) : List UInt8 := l.map fun c => dch (c.toNat % 10)
theorem digs_len (l : List UInt8) : (digs l).length = l.length := by simp [digs]
theorem digs_all (l : List UInt8) : ∀ c ∈ digs l, dB c = true := by
  intro c hc
  obtain ⟨x, _, rfl⟩ := List.mem_map.1 hc
  exact dB_dig (by omega)
theorem digs_snoc (l : List UInt8) (c : UInt8) : digs (l ++ [c]) = digs l ++ [dch (c.toNat % 10)] := by simp [digs]
theorem of_digs (l : List UInt8) (h : ∀ c ∈ l, dB c = true) : ofS (DT 2001 12 14 ++ ([32] ++ (AT 21 59 43 ++ (46 :: l)))) = some (ttx 2001 12 14 1319 43 l) := by
  have hr := rd_time (y := 2001) (m := 12) (d := 14) (h := 21) (n := 59) (s := 43) (by omega) (by omega) (by omega) (by omega) (by omega) (by omega) [32] (46 :: (l ++ [])) (Or.inr (Or.inr ⟨by simp, by decide⟩))
  rw [aRest_dot _ l [] h (by intro c hc; cases hc), List.append_nil] at hr
  exact ofS_zone (h := 21) (n := 59) (s := 43) (b := false) (p := 0) (q := 0) hr (by omega) (by omega) (by decide) (by omega) (by omega) (by omega) (by omega) (by omega) (by decide) (by omega)
theorem of_x (l : List UInt8) (h : ∀ c ∈ l, dB c = true) : ofS (DT 2001 12 14 ++ ([32] ++ (AT 21 59 43 ++ (46 :: (l ++ [120]))))) = none := by
  have hr := rd_time (y := 2001) (m := 12) (d := 14) (h := 21) (n := 59) (s := 43) (by omega) (by omega) (by omega) (by omega) (by omega) (by omega) [32] (46 :: (l ++ [120])) (Or.inr (Or.inr ⟨by simp, by decide⟩))
  rw [aRest_dot _ l [120] h (by intro c hc; simp at hc; rw [← hc]; decide)] at hr
  exact ofS_none hr
theorem ttx_digs (l : List UInt8) : ttx 2001 12 14 1319 43 l = DT 2001 12 14 ++ (84 :: (AT 21 59 43 ++ (dot (tz l) ++ [90]))) := by
  rw [DT_app, AT_app]; rfl
theorem cBl_h (M : Mo) {h : Nat} (h1 : h < 100) : cBl M (43 :: d2 h) = some { M with bh := false, zh := h } := by
  rw [cBl, if_neg (by decide), if_neg (by decide), if_pos (by decide)]
  have := cnt2 h1 []
  rw [List.append_nil] at this
  have v := nv2 h1 []
  rw [List.append_nil] at v
  unfold cHour
  rw [this, if_neg (by decide), v]; rfl
/-- A time of which a part is beyond its greatest. -/
theorem of_parts (m d h n s z : Nat) (h1 : m < 100) (h2 : d < 100) (h3 : h < 100) (h4 : n < 100) (h5 : s < 100) (h6 : z < 100) (hx : 13 ≤ m ∨ 32 ≤ d ∨ 24 ≤ h ∨ 60 ≤ n ∨ 60 ≤ s ∨ 24 ≤ z) :
    ofS (DT 2001 m d ++ ([32] ++ (AT h n s ++ ([32] ++ (43 :: d2 z))))) = none := by
  have hr := rd_time (y := 2001) (m := m) (d := d) (h := h) (n := n) (s := s) (by omega) h1 h2 h3 h4 h5 [32] ([32] ++ (43 :: d2 z)) (Or.inr (Or.inr ⟨by simp, by decide⟩))
  rw [aRest_zone _ [32] _ (by decide) (by simp) (by simp), cBl_h _ h6] at hr
  refine ofS_not hr ?_
  cases hq : may ⟨2001, m, d, true, h, n, s, [], false, z, 0⟩
  · rfl
  · obtain ⟨⟨d1, d2'⟩, ⟨a1, a2, a3⟩, a4, a5⟩ := (may_iff _).1 hq
    have hdl := days_le 2001 m
    have hm := month_of (M := ⟨2001, m, d, true, h, n, s, [], false, z, 0⟩) ⟨d1, d2'⟩
    have e1 : d ≤ days 2001 m := d2'
    have e2 : m ≤ 12 := hm.2
    have e3 : h < 24 := a1
    have e4 : n < 60 := a2
    have e5 : s < 60 := a3
    have e6 : z < 24 := a4
    omega
end M
theorem isB (B : ByteArray) (l : List UInt8) (hl : B.data.toList = l) (ha : M.ofS l = none) (hs : l.length ≤ 1000) (W : World) (hT : Tab W) : Calls Tryd.prog 12 #[.string B] W fun e w' => e = .returned (.bool false) ∧ Below W.heap.size W w' := by
  have := is_any B W hT (by rw [sz_list, hl]; exact hs)
  rw [hl, ha] at this
  exact this
end Go.Proofs.YtoidlgopibnaaaaDoor
