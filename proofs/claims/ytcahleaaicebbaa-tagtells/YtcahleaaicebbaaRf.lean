/- Walks: the document's Expand. -/
import Derived.Test.YtcahleaaicebbaaWf
set_option linter.unusedVariables false
namespace Go.Proofs.Ytcahleaaicebbaa
open Go.RowKit

theorem bexp (w : World) (v : Bool) (H S : ByteArray) : Below w.heap.size w (w.alloc (.cells #[.bool v, .string H, .string S] 23)) := (Below.refl _ _).alloc (Nat.le_refl _) _
set_option maxRecDepth 100000 in
set_option maxHeartbeats 1000000 in
theorem rexp_verb (th ts : List UInt8) (a : Option Addr) (cap n : Nat) (w : World) :
    Calls Try.prog 12 #[tV true (bA th) (bA ts), .slice a n cap] w fun e w' => e = .returned (.tuple #[.string (bA ts), .bool true]) ∧ Below w.heap.size w w' := by
  have K := Blk.made w true (bA th) (bA ts)
  have B := bexp w true (bA th) (bA ts)
  obtain ⟨k0, k1, k2⟩ := K.cells
  generalize bA ts = S at *
  generalize bA th = H at *
  go_enter Try.func12, Try.ntmps12
  go_wp2
  go_ret2
  exact ⟨rfl, B⟩
set_option maxRecDepth 100000 in
set_option maxHeartbeats 1000000 in
theorem rexp_bang (a : Option Addr) (cap n : Nat) (w : World) :
    Calls Try.prog 12 #[tV false (bA [33]) (bA []), .slice a n cap] w fun e w' => e = .returned (.tuple #[.string (bA [33]), .bool true]) ∧ Below w.heap.size w w' := by
  have K := Blk.made w false (bA [33]) (bA [])
  have B := bexp w false (bA [33]) (bA [])
  obtain ⟨k0, k1, k2⟩ := K.cells
  have q1 := eq_list [33] [33]
  have q2 := eq_list [] []
  have q3 := emp_list []
  go_enter Try.func12, Try.ntmps12
  go_wp2
  go_ret2
  exact ⟨rfl, B⟩
theorem eq_beq (l m : List UInt8) : ((bA l).toList == (bA m).toList) = decide (l = m) := by
  rw [ByteArray.toList_eq, ByteArray.toList_eq, bA_toList, bA_toList, Bool.eq_iff_iff, beq_iff_eq, decide_eq_true_eq]
/-- What comes of what a handle stands for. -/
def exR (R : Option (List UInt8)) (ts : List UInt8) : Value := exV (match R with | some p => (p ++ ts, true) | none => ([], false))
theorem exv_some (p ts : List UInt8) : Ending.returned (.tuple #[.string (bA p ++ bA ts), .bool true]) = Ending.returned (exR (some p) ts) := by
  rw [bA_append]; rfl
set_option maxRecDepth 100000 in
set_option maxHeartbeats 1000000 in
theorem rexp_look (th ts : List UInt8) (a : Option Addr) (cap : Nat) (hs : HL) (w : World) (hn : hs.length ≤ 1000) (hok : HsOk hs) (hin : InH w a hs) (h2 : ts.length ≤ 140737488355328) (h : ¬ (th = [33] ∧ ts = [])) :
    Calls Try.prog 12 #[tV false (bA th) (bA ts), .slice a hs.length cap] w fun e w' => e = .returned (exR (M.lk hs th) ts) ∧ Below w.heap.size w w' := by
  have K := Blk.made w false (bA th) (bA ts)
  have B := bexp w false (bA th) (bA ts)
  obtain ⟨k0, k1, k2⟩ := K.cells
  have HI := Lib.hid (fun W (hb : Below (w.heap.size + 1) (w.alloc (.cells #[.bool false, .string (bA th), .string (bA ts)] 23)) W) => (And.intro ((hin.next B).next (hb.mono (by show (w.heap.push _).size ≤ _; simp))) (K.below hb (Nat.lt_succ_self _))))
  have HB := Lib.hid (fun W (hb : Below (w.heap.size + 1) (w.alloc (.cells #[.bool false, .string (bA th), .string (bA ts)] 23)) W) => B.trans (hb.mono (Nat.le_succ _)))
  have q1 := eq_list th [33]
  have q2 := eq_list ts []
  have q3 := emp_list ts
  have q4 := eq_list th [33, 33]
  have hcond : ((bA th).toList == [33]) = false ∨ ((bA th).toList == [33]) = true ∧ ((bA ts).toList == []) = false ∧ (bA ts).toList.isEmpty = false := by
    by_cases e1 : th = [33]
    · right
      have e2 : ¬ ts = [] := fun e => h ⟨e1, e⟩
      exact ⟨by rw [q1, decide_eq_true e1], by rw [q2, decide_eq_false e2], by rw [q3, decide_eq_false e2]⟩
    · left; rw [q1, decide_eq_false e1]
  have hS : (bA ts).size ≤ 140737488355328 := by rw [bA_size]; exact h2
  obtain ⟨R, hR⟩ : ∃ R, M.lk hs th = R := ⟨_, rfl⟩
  rw [hR]
  have hR0 : M.lk (hs.take ((hs.length : Int) - 1 + 1).toNat) th = R := by
    rw [← hR]; congr 1
    exact List.take_of_length_le (by omega)
  have HR := Lib.hid hR0
  have HX := Lib.hid (And.intro q1 (And.intro q2 (And.intro q3 q4)))
  clear hR hR0 h hin K B q1 q2 q3 q4
  have B0 := Below.refl (w.heap.size + 1) (w.alloc (.cells #[.bool false, .string (bA th), .string (bA ts)] 23))
  have hwr : wrap64 ((hs.length : Int) - 1) = (hs.length : Int) - 1 := by unfold wrap64; omega
  obtain ⟨W0, hW0⟩ : ∃ W0, w.alloc (.cells #[.bool false, .string (bA th), .string (bA ts)] 23) = W0 := ⟨_, rfl⟩
  rw [hW0] at HI HB B0
  have HW := Lib.hid hW0
  clear hW0
  rcases hcond with g1 | ⟨g1, g2, g3⟩
  · go_enter Try.func12, Try.ntmps12
    go_wp2
    have B1 := B0
    rw [← HW.out] at B1
    go_loopw [6] (fun x wr => ∃ z : Int, x = .int .i64 z ∧ -1 ≤ z ∧ z < hs.length ∧ Hid (M.lk (hs.take (z + 1).toNat) th = R) ∧ Below (w.heap.size + 1) W0 wr) (fun x _ => (intOf x + 1).toNat)
    case atStart => exact ⟨_, rfl, by omega, by omega, HR, HW.out ▸ B0⟩
    case round =>
      clear B0 B1 k0 k1 k2 HR
      obtain ⟨z, rfl, hz1, hz2, hst, hb⟩ := hrel
      obtain ⟨hin, K⟩ := HI.out wr hb
      obtain ⟨k0, k1, k2⟩ := K.cells
      clear K
      by_cases hz : z < 0
      · obtain rfl : z = -1 := by omega
        have hR : M.lk [] th = R := hst.out
        rw [M.lk_nil] at hR
        have hbw := HB.out _ hb
        obtain ⟨q1, q2, q3, q4⟩ := HX.out
        clear hst hin HI HX hb q2 q3
        by_cases e1 : th = [33]
        · rw [decide_eq_true e1] at q1
          exact absurd (g1.symm.trans q1) (by decide)
        · rw [decide_eq_false e1] at q1
          by_cases e2 : th = [33, 33]
          · rw [if_neg e1, if_pos e2] at hR
            rw [decide_eq_true e2] at q4
            have HR := Lib.hid hR
            clear hR e1 e2
            go_wp2
            go_ret2
            exact ⟨by rw [← HR.out]; exact exv_some M.core ts, hbw⟩
          · rw [if_neg e1, if_neg e2] at hR
            rw [decide_eq_false e2] at q4
            have HR := Lib.hid hR
            clear hR e1 e2
            go_wp2
            go_ret2
            exact ⟨by rw [← HR.out]; rfl, hbw⟩
      · obtain ⟨m, rfl⟩ := Int.eq_ofNat_of_zero_le (show (0 : Int) ≤ z by omega)
        have hm : m < hs.length := by omega
        obtain ⟨bb, off, rfl, hc, hbb⟩ := hin (by intro e; rw [e] at hm; exact absurd hm (by simp))
        obtain ⟨c0, c1⟩ := hc m hm
        have hst' : M.lk (hs.take m ++ [hs[m]]) th = R := by rw [← List.take_succ_eq_append_getElem hm]; exact hst.out
        have hsz := hok hs[m] (List.getElem_mem hm)
        obtain ⟨⟨n1, p1⟩, hh⟩ : ∃ h : List UInt8 × List UInt8, hs[m] = h := ⟨_, rfl⟩
        rw [hh] at hst' c0 c1 hsz
        rw [M.lk_snoc] at hst'
        dsimp only at c0 c1 hsz
        have dm1 : decide ((m : Int) < (hs.length : Int)) = true := decide_eq_true (by omega)
        have dm2 : decide (m < hs.length) = true := decide_eq_true hm
        have e1 := eq_beq n1 th
        have hP : (bA p1).size ≤ 140737488355328 := by rw [bA_size]; exact hsz.2
        clear hc hst hin hh hsz hz1
        by_cases he : n1 = th
        · rw [if_pos he] at hst'
          rw [decide_eq_true he] at e1
          have HR := Lib.hid hst'
          clear hst' he
          go_wp2_with fail
          go_quiet (fail)
          go_wp2_with fail
          go_quiet (fail)
          go_wp2
          go_ret2
          exact ⟨by rw [← HR.out]; exact exv_some p1 ts, HB.out _ (below_dN (below_dN hb _) _)⟩
        · rw [if_neg he] at hst'
          rw [decide_eq_false he] at e1
          have h6 : M.lk (hs.take ((m : Int) - 1 + 1).toNat) th = R := by
            rw [← hst']; congr 2; omega
          have H6 := Lib.hid h6
          clear hst' he h6
          go_wp2_with fail
          go_quiet (fail)
          go_wp2
          go_roundw
          case rel => exact ⟨(m : Int) - 1, by first | rfl | go_num, by omega, by omega, H6, below_dN hb _⟩
          case measure => first | (simp [intOf]; done) | (simp [intOf]; omega)
  · go_enter Try.func12, Try.ntmps12
    go_wp2
    have B1 := B0
    rw [← HW.out] at B1
    go_loopw [6] (fun x wr => ∃ z : Int, x = .int .i64 z ∧ -1 ≤ z ∧ z < hs.length ∧ Hid (M.lk (hs.take (z + 1).toNat) th = R) ∧ Below (w.heap.size + 1) W0 wr) (fun x _ => (intOf x + 1).toNat)
    case atStart => exact ⟨_, rfl, by omega, by omega, HR, HW.out ▸ B0⟩
    case round =>
      clear B0 B1 k0 k1 k2 HR
      obtain ⟨z, rfl, hz1, hz2, hst, hb⟩ := hrel
      obtain ⟨hin, K⟩ := HI.out wr hb
      obtain ⟨k0, k1, k2⟩ := K.cells
      clear K
      by_cases hz : z < 0
      · obtain rfl : z = -1 := by omega
        have hR : M.lk [] th = R := hst.out
        rw [M.lk_nil] at hR
        have hbw := HB.out _ hb
        obtain ⟨q1, q2, q3, q4⟩ := HX.out
        clear hst hin HI HX hb q2 q3
        by_cases e1 : th = [33]
        · rw [if_pos e1] at hR
          rw [decide_eq_true e1] at q1
          have HR := Lib.hid hR
          clear hR e1 q4
          go_wp2
          go_ret2
          exact ⟨by rw [← HR.out]; exact exv_some [33] ts, hbw⟩
        · rw [decide_eq_false e1] at q1
          exact absurd (g1.symm.trans q1) (by decide)
      · obtain ⟨m, rfl⟩ := Int.eq_ofNat_of_zero_le (show (0 : Int) ≤ z by omega)
        have hm : m < hs.length := by omega
        obtain ⟨bb, off, rfl, hc, hbb⟩ := hin (by intro e; rw [e] at hm; exact absurd hm (by simp))
        obtain ⟨c0, c1⟩ := hc m hm
        have hst' : M.lk (hs.take m ++ [hs[m]]) th = R := by rw [← List.take_succ_eq_append_getElem hm]; exact hst.out
        have hsz := hok hs[m] (List.getElem_mem hm)
        obtain ⟨⟨n1, p1⟩, hh⟩ : ∃ h : List UInt8 × List UInt8, hs[m] = h := ⟨_, rfl⟩
        rw [hh] at hst' c0 c1 hsz
        rw [M.lk_snoc] at hst'
        dsimp only at c0 c1 hsz
        have dm1 : decide ((m : Int) < (hs.length : Int)) = true := decide_eq_true (by omega)
        have dm2 : decide (m < hs.length) = true := decide_eq_true hm
        have e1 := eq_beq n1 th
        have hP : (bA p1).size ≤ 140737488355328 := by rw [bA_size]; exact hsz.2
        clear hc hst hin hh hsz hz1
        by_cases he : n1 = th
        · rw [if_pos he] at hst'
          rw [decide_eq_true he] at e1
          have HR := Lib.hid hst'
          clear hst' he
          go_wp2_with fail
          go_quiet (fail)
          go_wp2_with fail
          go_quiet (fail)
          go_wp2
          go_ret2
          exact ⟨by rw [← HR.out]; exact exv_some p1 ts, HB.out _ (below_dN (below_dN hb _) _)⟩
        · rw [if_neg he] at hst'
          rw [decide_eq_false he] at e1
          have h6 : M.lk (hs.take ((m : Int) - 1 + 1).toNat) th = R := by
            rw [← hst']; congr 2; omega
          have H6 := Lib.hid h6
          clear hst' he h6
          go_wp2_with fail
          go_quiet (fail)
          go_wp2
          go_roundw
          case rel => exact ⟨(m : Int) - 1, by first | rfl | go_num, by omega, by omega, H6, below_dN hb _⟩
          case measure => first | (simp [intOf]; done) | (simp [intOf]; omega)
theorem rexp_any (t : M.Tg) (a : Option Addr) (cap : Nat) (hs : HL) (w : World) (hn : hs.length ≤ 1000) (hok : HsOk hs) (hin : InH w a hs) (h2 : t.s.length ≤ 140737488355328) :
    Calls Try.prog 12 #[tgV t, .slice a hs.length cap] w fun e w' => e = .returned (exV (M.ex t hs)) ∧ Below w.heap.size w w' := by
  obtain ⟨tv, th, ts⟩ := t
  unfold tgV M.ex
  dsimp only at *
  cases tv
  · rw [if_neg (by simp)]
    by_cases h : th = [33] ∧ ts = []
    · rw [if_pos h]
      obtain ⟨rfl, rfl⟩ := h
      exact rexp_bang a cap _ w
    · rw [if_neg h]
      exact rexp_look th ts a cap hs w hn hok hin h2 h
  · rw [if_pos rfl]
    exact rexp_verb th ts a cap _ w
end Go.Proofs.Ytcahleaaicebbaa
