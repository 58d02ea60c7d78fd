/- Walks of the document's answers (targumref1), on: units. -/
import Derived.Test.YthlbeoakaebcpaaDoorTe
namespace Go.Proofs.YthlbeoakaebcpaaDoor
open Go.RowKit

def upos (n : Nat) (little : Bool) (j : Nat) : Nat := if little = true then j else n - 1 - j
structure URel (c n : Nat) (little : Bool) (g : Nat) (w : World) (k : Nat) (wr : World) : Prop where
  below : Below w.heap.size w wr
  size : g < wr.heap.size
  can : Can wr g 0 n
  cells : ∀ j, j < k → wr.cell? ⟨g, upos n little j, none⟩ = some (.int .u8 ((c / 256 ^ j % 256 : Nat) : Int))

theorem URel.next {c n : Nat} {little : Bool} {g : Nat} {w : World} {k : Nat} {wr : World} (h : URel c n little g w k wr) (hk : k < n) (hg : w.heap.size ≤ g) :
    URel c n little g w (k + 1) (wr.setCell ⟨g, upos n little k, none⟩ (.int .u8 ((c / 256 ^ k % 256 : Nat) : Int))) := by
  have hp : upos n little k < n := by unfold upos; split <;> omega
  have hone := Wrote.one wr g (upos n little k) (.int .u8 ((c / 256 ^ k % 256 : Nat) : Int)) (by have := (h.can _ hp).1; rwa [Nat.zero_add] at this)
  refine ⟨h.below.setCell hg _, by simpa [World.setCell] using h.size, hone.can h.can, ?_⟩
  intro j hj
  by_cases hjk : j = k
  · subst hjk
    have := hone.inn 0 (by simp)
    simpa using this
  · rw [hone.out (upos n little j) ?_]
    · exact h.cells j (by omega)
    · simp only [List.length_singleton]
      unfold upos
      split <;> omega

set_option maxRecDepth 100000 in
set_option maxHeartbeats 2000000 in
theorem runits_core (c n : Nat) (little : Bool) (w : World) (hc : c ≤ 1114111) (hn : 1 ≤ n ∧ n ≤ 4) :
    Calls Tryd.prog 33 #[.int .i64 c, .int .i64 n, .bool little] w fun r w' => ∃ g, r = .returned (.slice (some ⟨g, 0, none⟩) n n) ∧ w.heap.size ≤ g ∧ URel c n little g w n w' := by
  obtain ⟨i0, hi, hz0, hz1, hz2⟩ := info_parts Tryd.info5
  obtain ⟨W, hrun, hown, hgrow⟩ := run_make_full (P := Tryd.prog) w w.heap.size 22 5 i0 (.int .u8 0) 1 Tryd.underlying22 hi hz0 hz1 .i64 .i64 n (by rw [hz2]; omega) (by unfold maxLen; omega) (Nat.le_refl _)
  have hbW : Below w.heap.size w W := (Below.refl _ _).grown hgrow (Nat.le_refl _) (by simp)
  have hcan : Can W w.heap.size 0 n := fun j hj => by
    have hc := hown.cellAt j (by omega)
    have hx := hown.1
    rw [Nat.zero_add, hc, List.getElem?_eq_getElem (by omega)]
    exact ⟨rfl, hown.frozenAt j⟩
  have hgW : w.heap.size < W.heap.size := by
    have h := (hcan 0 (by omega)).1
    obtain ⟨u, hu⟩ := Option.isSome_iff_exists.1 h
    exact World.block_lt_of_cell? W _ hu
  have HR : Hid (URel c n little w.heap.size w 0 W) := ⟨hbW, hgW, hcan, fun j hj => by omega⟩
  obtain ⟨K, hK⟩ : ∃ K, K = w.heap.size := ⟨_, rfl⟩
  rw [← hK] at hrun HR
  have HK := Lib.hid hK
  clear hgrow hown hbW hcan hgW hK hi hz0 hz1 hz2
  go_enter Tryd.func33, Tryd.ntmps33
  go_wp2
  go_loopw [0, 8] (fun v u wr => ∃ k : Nat, k ≤ n ∧ v = .int .i64 (c / 256 ^ k : Nat) ∧ u = .int .i64 k ∧ Hid (URel c n little K w k wr)) (fun _ u _ => n - (intOf u).toNat)
  case atStart => exact ⟨0, Nat.zero_le _, by simp, rfl, HR⟩
  case round =>
    obtain ⟨k, hk, rfl, rfl, hrel⟩ := hrel
    by_cases hlt : k < n
    · have hkd : decide (k < n) = true := by simpa using hlt
      have hnx := hrel.out.next hlt (by rw [HK.out]; exact Nat.le_refl _)
      have hcan := hrel.out.can
      have HD : Hid (c / 256 ^ (k + 1) = c / 256 ^ k / 256) := by rw [Nat.pow_succ, ← Nat.div_div_eq_div_mul]; exact rfl
      have hPb : c / 256 ^ k ≤ 1114111 := Nat.le_trans (Nat.div_le_self _ _) hc
      clear hrun
      generalize c / 256 ^ k = P at *
      cases little with
      | true =>
        obtain ⟨h0, f0⟩ := hcan k hlt
        obtain ⟨c0, h0⟩ := Option.isSome_iff_exists.1 h0
        rw [Nat.zero_add] at h0 f0
        have hkn : (k : Int) < (n : Int) := by omega
        have HN := Lib.hid hnx
        clear hnx hcan hrel
        go_wp2
        go_roundw
        case rel => exact ⟨k + 1, by omega, by rw [HD.out]; go_num, by go_num, by
          have h := HN.out
          rw [show upos n true k = k from rfl, show ((P % 256 : Nat) : Int) = (P : Int) % 256 by omega] at h
          exact h⟩
        case measure => simp [intOf]; omega
      | false =>
        obtain ⟨h0, f0⟩ := hcan (n - 1 - k) (by omega)
        obtain ⟨c0, h0⟩ := Option.isSome_iff_exists.1 h0
        rw [Nat.zero_add] at h0 f0
        have h2 : (n : Int) - 1 - (k : Int) < (n : Int) := by omega
        have h3 : 0 ≤ (n : Int) - 1 - (k : Int) := by omega
        have h4 : ((n : Int) - 1 - (k : Int)).toNat = n - 1 - k := by omega
        have HN := Lib.hid hnx
        clear hnx hcan hrel
        go_wp2
        go_roundw
        case rel => exact ⟨k + 1, by omega, by rw [HD.out]; go_num, by go_num, by
          have h := HN.out
          rw [show upos n false k = n - 1 - k from rfl, show ((P % 256 : Nat) : Int) = (P : Int) % 256 by omega] at h
          exact h⟩
        case measure => simp [intOf]; omega
    · obtain rfl : k = n := by omega
      have hkd : decide (k < k) = false := by simp
      go_wp2
      go_ret
      exact ⟨K, rfl, by rw [HK.out]; exact Nat.le_refl _, hrel.out⟩

theorem runits_2 (c : Nat) (little : Bool) (w : World) (hc : c < 65536) :
    Calls Tryd.prog 33 #[.int .i64 c, .int .i64 2, .bool little] w fun r w' => NewB (M.unit2 (!little) c) w r w' := by
  refine (runits_core c 2 little w (by omega) (by omega)).mono ?_
  rintro r w' ⟨g, rfl, hg, h⟩
  refine ⟨g, by rw [M.unit2_length], hg, h.size, ?_, h.below⟩
  intro j hj
  rw [M.unit2_length] at hj
  have a0 := h.cells 0 (by omega)
  have a1 := h.cells 1 (by omega)
  rw [Nat.zero_add]
  cases little with
  | true =>
    have : j = 0 ∨ j = 1 := by omega
    rcases this with rfl | rfl
    · exact a0.trans (by simp [M.unit2, M.by8, M.u8_toNat])
    · exact a1.trans (by simp [M.unit2, M.by8, M.u8_toNat])
  | false =>
    have : j = 0 ∨ j = 1 := by omega
    rcases this with rfl | rfl
    · exact a1.trans (by simp [M.unit2, M.by8, M.u8_toNat])
    · exact a0.trans (by simp [M.unit2, M.by8, M.u8_toNat])
theorem runits_4 (c : Nat) (little : Bool) (w : World) (hc : c ≤ 1114111) :
    Calls Tryd.prog 33 #[.int .i64 c, .int .i64 4, .bool little] w fun r w' => NewB (M.unit4 (!little) c) w r w' := by
  refine (runits_core c 4 little w (by omega) (by omega)).mono ?_
  rintro r w' ⟨g, rfl, hg, h⟩
  refine ⟨g, by rw [M.unit4_length], hg, h.size, ?_, h.below⟩
  intro j hj
  rw [M.unit4_length] at hj
  have a0 := h.cells 0 (by omega)
  have a1 := h.cells 1 (by omega)
  have a2 := h.cells 2 (by omega)
  have a3 := h.cells 3 (by omega)
  rw [Nat.zero_add]
  have hjj : j = 0 ∨ j = 1 ∨ j = 2 ∨ j = 3 := by omega
  cases little with
  | true =>
    rcases hjj with rfl | rfl | rfl | rfl
    · exact a0.trans (by simp [M.unit4, M.by8, M.u8_toNat])
    · exact a1.trans (by simp [M.unit4, M.by8, M.u8_toNat])
    · exact a2.trans (by simp [M.unit4, M.by8, M.u8_toNat])
    · exact a3.trans (by simp [M.unit4, M.by8, M.u8_toNat])
  | false =>
    rcases hjj with rfl | rfl | rfl | rfl
    · exact a3.trans (by simp [M.unit4, M.by8, M.u8_toNat])
    · exact a2.trans (by simp [M.unit4, M.by8, M.u8_toNat])
    · exact a1.trans (by simp [M.unit4, M.by8, M.u8_toNat])
    · exact a0.trans (by simp [M.unit4, M.by8, M.u8_toNat])

end Go.Proofs.YthlbeoakaebcpaaDoor
