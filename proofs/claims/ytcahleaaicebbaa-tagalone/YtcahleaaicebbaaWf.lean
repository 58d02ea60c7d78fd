/- Walks: the code's Expand. -/
import Derived.Test.YtcahleaaicebbaaWe
import Derived.Deep.RegionWith
set_option linter.unusedVariables false
namespace Go.Proofs.Ytcahleaaicebbaa
open Go.RowKit Go.Maps

def exV (r : List UInt8 × Bool) : Value := .tuple #[.string (bA r.1), .bool r.2]
theorem eq_list (l m : List UInt8) : ((bA l).toList == m) = decide (l = m) := by
  rw [ByteArray.toList_eq, bA_toList, Bool.eq_iff_iff, beq_iff_eq, decide_eq_true_eq]
theorem emp_list (l : List UInt8) : (bA l).toList.isEmpty = decide (l = []) := by
  rw [ByteArray.toList_eq, bA_toList]; cases l <;> simp

set_option maxRecDepth 100000 in
set_option maxHeartbeats 1000000 in
theorem exp_verb (th ts : List UInt8) (a : Option Addr) (cap n : Nat) (w : World) (hs : ts.length ≤ 140737488355328) :
    Calls Try.prog 11 #[tV true (bA th) (bA ts), .slice a n cap] w fun e w' => e = .returned (.tuple #[.string (bA ts), .bool true]) ∧ Below w.heap.size w w' := by
  have c1 := fun W => clone_any (bA ts) W (by rw [bA_size]; omega)
  have K := Blk.made w true (bA th) (bA ts)
  have B : Below w.heap.size w (w.alloc (.cells #[.bool true, .string (bA th), .string (bA ts)] 23)) := (Below.refl _ _).alloc (Nat.le_refl _) _
  obtain ⟨k0, k1, k2⟩ := K.cells
  generalize bA ts = S at *
  generalize bA th = H at *
  go_enter Try.func11, Try.ntmps11
  go_wp2_with fail
  refine (c1 _).mono ?_
  rintro r w1 ⟨rfl, hb1⟩
  have B1 := B.trans (hb1.mono B.size)
  clear hb1 k0 k1 k2 K B
  go_wp2
  go_ret2
  exact ⟨rfl, B1⟩
set_option maxRecDepth 100000 in
set_option maxHeartbeats 1000000 in
theorem exp_bang (a : Option Addr) (cap n : Nat) (w : World) :
    Calls Try.prog 11 #[tV false (bA [33]) (bA []), .slice a n cap] w fun e w' => e = .returned (.tuple #[.string (bA [33]), .bool true]) ∧ Below w.heap.size w w' := by
  have K := Blk.made w false (bA [33]) (bA [])
  have B : Below w.heap.size w (w.alloc (.cells #[.bool false, .string (bA [33]), .string (bA [])] 23)) := (Below.refl _ _).alloc (Nat.le_refl _) _
  obtain ⟨k0, k1, k2⟩ := K.cells
  have q1 := eq_list [33] [33]
  have q2 := eq_list [] []
  have q3 := emp_list []
  go_enter Try.func11, Try.ntmps11
  go_wp2
  go_ret2
  exact ⟨rfl, B⟩
set_option maxRecDepth 100000 in
set_option maxHeartbeats 1000000 in
theorem exp_look (th ts : List UInt8) (a : Option Addr) (cap : Nat) (hs : HL) (w : World) (hn : hs.length ≤ 1000) (hok : HsOk hs) (hin : InH w a hs) (h1 : th.length ≤ 140737488355328) (h2 : ts.length ≤ 140737488355328) (h : ¬ (th = [33] ∧ ts = [])) :
    Calls Try.prog 11 #[tV false (bA th) (bA ts), .slice a hs.length cap] w fun e w' => e = .returned (exV (match M.lk hs th with | some p => (p ++ ts, true) | none => ([], false))) ∧ Below w.heap.size w w' := by
  have K := Blk.made w false (bA th) (bA ts)
  have B : Below w.heap.size w (w.alloc (.cells #[.bool false, .string (bA th), .string (bA ts)] 23)) := (Below.refl _ _).alloc (Nat.le_refl _) _
  obtain ⟨k0, k1, k2⟩ := K.cells
  have c1 : ∀ W, Below w.heap.size w W → W.heap.size = w.heap.size + 1 → Calls Try.prog 25 #[.slice a hs.length cap] W fun e w' => e = .returned (.map (some (w.heap.size + 1))) ∧ MapB w' (w.heap.size + 1) (2 + hs.length) hs ∧ Below W.heap.size W w' := by
    intro W hb hw
    have := prefixes_any a cap hs W hn hok (hin.next hb)
    rw [hw] at this ⊢
    exact this
  have q1 := eq_list th [33]
  have q2 := eq_list ts []
  have q3 := emp_list ts
  have B0 := B.drew
  have K0 : Blk (w.alloc (.cells #[.bool false, .string (bA th), .string (bA ts)] 23)).drew w.heap.size false (bA th) (bA ts) := K
  have S0 : (w.alloc (.cells #[.bool false, .string (bA th), .string (bA ts)] 23)).drew.heap.size = w.heap.size + 1 := by show (w.heap.push _).size = _; simp
  have HL := Lib.hid (fun W (hm : MapB W (w.heap.size + 1) (2 + hs.length) hs) => hm.look th h1)
  have HP := Lib.hid (fun p (hp : M.lk hs th = some p) => lk_le hok hp)
  have hcond : ((bA th).toList == [33]) = false ∨ ((bA th).toList == [33]) = true ∧ ((bA ts).toList == []) = false ∧ (bA ts).toList.isEmpty = false := by
    by_cases e1 : th = [33]
    · right
      have e2 : ¬ ts = [] := fun e => h ⟨e1, e⟩
      exact ⟨by rw [q1, decide_eq_true e1], by rw [q2, decide_eq_false e2], by rw [q3, decide_eq_false e2]⟩
    · left; rw [q1, decide_eq_false e1]
  have hS : (bA ts).size ≤ 140737488355328 := by rw [bA_size]; exact h2
  generalize M.lk hs th = R at *
  clear q1 q2 q3 h hok hin K B
  cases R with
  | none =>
    dsimp only [exV]
    simp only [Option.getD_none, Option.isSome_none] at HL
    generalize bA th = H at *
    generalize bA ts = S at *
    clear HP
    rcases hcond with g1 | ⟨g1, g2, g3⟩
    · go_enter Try.func11, Try.ntmps11
      go_wp2_with fail
      go_region_with (go_at_call 25; refine (c1 _ B0 S0).mono ?_; rintro r w1 ⟨rfl, hm, hb1⟩; have hrun := HL.out _ hm; replace K0 := K0.next hb1; replace B0 := B0.trans (hb1.mono B0.size); obtain ⟨j0, j1, j2⟩ := K0.cells; clear hb1 hm c1 HL)
      all_goals
        go_wp2
        go_ret2
        exact ⟨rfl, B0⟩
    · go_enter Try.func11, Try.ntmps11
      go_wp2_with fail
      go_region_with (go_at_call 25; refine (c1 _ B0 S0).mono ?_; rintro r w1 ⟨rfl, hm, hb1⟩; have hrun := HL.out _ hm; replace K0 := K0.next hb1; replace B0 := B0.trans (hb1.mono B0.size); obtain ⟨j0, j1, j2⟩ := K0.cells; clear hb1 hm c1 HL)
      all_goals
        go_wp2
        go_ret2
        exact ⟨rfl, B0⟩
  | some p =>
    have hp := HP.out p rfl
    dsimp only [exV]
    rw [← bA_append]
    simp only [Option.getD_some, Option.isSome_some] at HL
    have hP : (bA p).size ≤ 140737488355328 := by rw [bA_size]; exact hp
    have c5 := fun W => clone_any (bA p ++ bA ts) W (by rw [append_sz]; omega)
    generalize bA th = H at *
    generalize bA ts = S at *
    generalize bA p = PP at *
    clear HP hp
    rcases hcond with g1 | ⟨g1, g2, g3⟩
    · go_enter Try.func11, Try.ntmps11
      go_wp2_with fail
      go_region_with (go_at_call 25; refine (c1 _ B0 S0).mono ?_; rintro r w1 ⟨rfl, hm, hb1⟩; have hrun := HL.out _ hm; replace K0 := K0.next hb1; replace B0 := B0.trans (hb1.mono B0.size); obtain ⟨j0, j1, j2⟩ := K0.cells; clear hb1 hm c1 HL)
      all_goals
        go_wp2_with fail
        refine (c5 _).mono ?_
        rintro r w2 ⟨rfl, hb2⟩
        have B2 := B0.trans (hb2.mono B0.size)
        clear hb2 B0
        go_wp2
        go_ret2
        exact ⟨rfl, B2⟩
    · go_enter Try.func11, Try.ntmps11
      go_wp2_with fail
      go_region_with (go_at_call 25; refine (c1 _ B0 S0).mono ?_; rintro r w1 ⟨rfl, hm, hb1⟩; have hrun := HL.out _ hm; replace K0 := K0.next hb1; replace B0 := B0.trans (hb1.mono B0.size); obtain ⟨j0, j1, j2⟩ := K0.cells; clear hb1 hm c1 HL)
      all_goals
        go_wp2_with fail
        refine (c5 _).mono ?_
        rintro r w2 ⟨rfl, hb2⟩
        have B2 := B0.trans (hb2.mono B0.size)
        clear hb2 B0
        go_wp2
        go_ret2
        exact ⟨rfl, B2⟩
theorem exp_any (t : M.Tg) (a : Option Addr) (cap : Nat) (hs : HL) (w : World) (hn : hs.length ≤ 1000) (hok : HsOk hs) (hin : InH w a hs) (h1 : t.h.length ≤ 140737488355328) (h2 : t.s.length ≤ 140737488355328) :
    Calls Try.prog 11 #[tgV t, .slice a hs.length cap] w fun e w' => e = .returned (exV (M.ex t hs)) ∧ Below w.heap.size w w' := by
  obtain ⟨tv, th, ts⟩ := t
  unfold tgV M.ex
  dsimp only at *
  cases tv
  · rw [if_neg (by simp)]
    by_cases h : th = [33] ∧ ts = []
    · rw [if_pos h]
      obtain ⟨rfl, rfl⟩ := h
      exact exp_bang a cap _ w
    · rw [if_neg h]
      exact exp_look th ts a cap hs w hn hok hin h1 h2 h
  · rw [if_pos rfl]
    exact exp_verb th ts a cap _ w h2
end Go.Proofs.Ytcahleaaicebbaa
