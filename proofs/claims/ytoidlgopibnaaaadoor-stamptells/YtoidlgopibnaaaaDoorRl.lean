/- The law StampTells: its walk. -/
import Derived.Test.YtoidlgopibnaaaaDoorRk
set_option linter.unusedVariables false
namespace Go.Proofs.YtoidlgopibnaaaaDoor
open Go.RowKit

theorem ofV_form (O : Option (List UInt8)) : ∃ A : ByteArray, ofV O = .tuple #[.string A, .bool O.isSome] := by
  cases O with
  | none => exact ⟨_, rfl⟩
  | some a => exact ⟨_, rfl⟩
theorem inB_below {w w' : World} {a : Option Addr} {l : List UInt8} (h : InB w a l) (hb : Below w.heap.size w w') : InB w' a l := by
  intro hne
  obtain ⟨b, off, e, hc, hlt⟩ := h hne
  refine ⟨b, off, e, fun j hj => ?_, Nat.lt_of_lt_of_le hlt hb.size⟩
  rw [← hc j hj]; simp [World.cell?, hb.block b hlt]

set_option maxRecDepth 100000 in
set_option maxHeartbeats 4000000 in
theorem tells_long (s : ByteArray) (a : Option Addr) (cap : Nat) (l : List UInt8) (y m : Int) (w : World) (ht : Tab w) (hs : s.size ≤ maxLen) (h : 60 < s.size ∨ (s.size ≤ 60 ∧ 40 < l.length)) :
    Calls Tryd.prog 3 #[.string s, .slice a l.length cap, .int .i64 y, .int .i64 m] w fun e w' => e = .returned (.bool true) ∧ Below w.heap.size w w' := by
  unfold maxLen at hs
  rcases h with h | ⟨h, h'⟩
  · have d1 : decide ((60 : Int) < (s.size : Int)) = true := decide_eq_true (by omega)
    have d2 : decide (60 < s.size) = true := decide_eq_true (by omega)
    go_enter Tryd.func3, Tryd.ntmps3
    go_wp2_with fail
    refine (known_any _ ht).mono ?_
    rintro r w1 ⟨rfl, hb⟩
    go_wp2
    go_ret
    exact ⟨rfl, hb⟩
  · have d1 : decide ((60 : Int) < (s.size : Int)) = false := decide_eq_false (by omega)
    have d2 : decide (60 < s.size) = false := decide_eq_false (by omega)
    have d3 : decide ((40 : Int) < (l.length : Int)) = true := decide_eq_true (by omega)
    have d4 : decide (40 < l.length) = true := decide_eq_true (by omega)
    go_enter Tryd.func3, Tryd.ntmps3
    go_wp2_with fail
    refine (known_any _ ht).mono ?_
    rintro r w1 ⟨rfl, hb⟩
    go_wp2
    go_ret
    exact ⟨rfl, hb⟩

set_option maxRecDepth 100000 in
set_option maxHeartbeats 4000000 in
theorem tells_core (s : ByteArray) (a : Option Addr) (cap : Nat) (l : List UInt8) (y m : Int) (w : World) (ht : Tab w) (hin : InB w a l) (hs : s.size ≤ 60) (hl : l.length ≤ 40)
    (hy : -9223372036854775808 ≤ y ∧ y ≤ 9223372036854775807) (hm : -9223372036854775808 ≤ m ∧ m ≤ 9223372036854775807) :
    Calls Tryd.prog 3 #[.string s, .slice a l.length cap, .int .i64 y, .int .i64 m] w fun e w' => e = .returned (.bool true) ∧ Below w.heap.size w w' := by
  have d1 : decide ((60 : Int) < (s.size : Int)) = false := decide_eq_false (by omega)
  have d2 : decide (60 < s.size) = false := decide_eq_false (by omega)
  have d3 : decide ((40 : Int) < (l.length : Int)) = false := decide_eq_false (by omega)
  have d4 : decide (40 < l.length) = false := decide_eq_false (by omega)
  have HIN := Lib.hid hin
  clear hin
  go_enter Tryd.func3, Tryd.ntmps3
  go_wp2_with fail
  refine (known_any _ ht).mono ?_
  rintro r w1 ⟨rfl, B1⟩
  have T1 := ht.next B1
  have I1 := inB_below HIN.out B1
  clear HIN
  go_wp2_with fail
  refine (moment_any a cap l _ I1 hl).mono ?_
  rintro r w2 ⟨t, rfl, htz, hb⟩
  have B2 := B1.trans (hb.mono B1.size)
  have T2 := T1.next hb
  clear I1 B1 T1 hb d1 d2 d3 d4
  have sz : ∀ A : ByteArray, A.size ≤ 30 → (A ++ t).size ≤ 1000 := fun A h => by rw [append_sz]; omega
  have z1 := sz ⟨#[50, 48, 48, 49, 45, 49, 50, 45]⟩ (by decide)
  have z2 := sz ⟨#[50, 48, 48, 49, 45, 49, 50, 45, 49, 52, 32]⟩ (by decide)
  have z3 := sz ⟨#[48, 48, 48, 48, 45, 49, 45, 49, 84, 48, 58, 48, 48, 58, 48, 48]⟩ (by decide)
  have z4 := sz ⟨#[57, 57, 57, 57, 45, 49, 50, 45, 51, 49, 32, 50, 51, 58, 53, 57, 58]⟩ (by decide)
  have z5 := sz ⟨#[50, 48, 48, 52, 45, 48, 50, 45, 50, 56, 32, 50, 49, 58, 53, 57, 58, 52, 51, 46, 49, 32]⟩ (by decide)
  have sa : ∀ A : ByteArray, A.size ≤ 30 → ∀ W, (Op.stringOp .add A t).run Tryd.prog W = .ok (.string (A ++ t)) W := fun A h W => run_string_add_sum _ _ _ (by omega)
  have a1 := sa ⟨#[50, 48, 48, 49, 45, 49, 50, 45]⟩ (by decide)
  have a2 := sa ⟨#[50, 48, 48, 49, 45, 49, 50, 45, 49, 52, 32]⟩ (by decide)
  have a3 := sa ⟨#[48, 48, 48, 48, 45, 49, 45, 49, 84, 48, 58, 48, 48, 58, 48, 48]⟩ (by decide)
  have a4 := sa ⟨#[57, 57, 57, 57, 45, 49, 50, 45, 51, 49, 32, 50, 51, 58, 53, 57, 58]⟩ (by decide)
  have a5 := sa ⟨#[50, 48, 48, 52, 45, 48, 50, 45, 50, 56, 32, 50, 49, 58, 53, 57, 58, 52, 51, 46, 49, 32]⟩ (by decide)
  clear sz sa
  go_wp2_with fail
  obtain ⟨cs, hcs⟩ : ∃ cs : Array Value, (#[.string s, .string t, .string (⟨#[50, 48, 48, 49, 45, 49, 50, 45]⟩ ++ t), .string (⟨#[50, 48, 48, 49, 45, 49, 50, 45, 49, 52, 32]⟩ ++ t), .string (⟨#[48, 48, 48, 48, 45, 49, 45, 49, 84, 48, 58, 48, 48, 58, 48, 48]⟩ ++ t), .string (⟨#[57, 57, 57, 57, 45, 49, 50, 45, 51, 49, 32, 50, 51, 58, 53, 57, 58]⟩ ++ t), .string (⟨#[50, 48, 48, 52, 45, 48, 50, 45, 50, 56, 32, 50, 49, 58, 53, 57, 58, 52, 51, 46, 49, 32]⟩ ++ t)] : Array Value) = cs := ⟨_, rfl⟩
  rw [hcs]
  have hx : ∀ i, i < 7 → ∃ x : ByteArray, x.size ≤ 1000 ∧ cs[i]? = some (.string x) := by
    intro i hi
    rw [← hcs]
    have : i = 0 ∨ i = 1 ∨ i = 2 ∨ i = 3 ∨ i = 4 ∨ i = 5 ∨ i = 6 := by omega
    rcases this with rfl | rfl | rfl | rfl | rfl | rfl | rfl
    · exact ⟨s, by omega, rfl⟩
    · exact ⟨t, by omega, rfl⟩
    · exact ⟨_, z1, rfl⟩
    · exact ⟨_, z2, rfl⟩
    · exact ⟨_, z3, rfl⟩
    · exact ⟨_, z4, rfl⟩
    · exact ⟨_, z5, rfl⟩
  have hrow : (w2.alloc (.cells cs 9)).heap[w2.heap.size]? = some (.cells cs 9) := heap_alloc_new w2 _
  have B3 : Below w.heap.size w (w2.alloc (.cells cs 9)) := B2.alloc B2.size _
  have T3 : Tab (w2.alloc (.cells cs 9)) := T2.next ((Below.refl _ w2).alloc (Nat.le_refl _) _)
  have hg : w2.heap.size < (w2.alloc (.cells cs 9)).heap.size := (Array.getElem?_eq_some_iff.1 hrow).1
  have hcell : ∀ i, i < 7 → ∃ x : ByteArray, x.size ≤ 1000 ∧ (w2.alloc (.cells cs 9)).cell? ⟨w2.heap.size, i, none⟩ = some (.string x) := by
    intro i hi
    obtain ⟨x, h1, h2⟩ := hx i hi
    exact ⟨x, h1, by simp only [World.cell?, hrow]; exact h2⟩
  clear hx hrow hcs z1 z2 z3 z4 z5 a1 a2 a3 a4 a5 htz
  generalize w2.alloc (.cells cs 9) = W at *
  generalize w2.heap.size = g at *
  clear B2 T2
  have HC := Lib.hid hcell
  have cD := fun (y m : Int) (h : y ≤ 9223372036854775807) W => days_any y m W h
  have cR := fun (y m : Int) (h : y ≤ 9223372036854775807) W => rdays_any y m W h
  clear hcell
  go_loopw [11, 12, 13, 14, 15, 42] (fun _ _ _ _ _ kv wr => ∃ i : Nat, kv = .int .i64 i ∧ i ≤ 7 ∧ Below W.heap.size W wr) (fun _ _ _ _ _ kv _ => 7 - (intOf kv).toNat)
  case atStart => exact ⟨0, rfl, by omega, Below.refl _ _⟩
  case round =>
    obtain ⟨i, rfl, hi, hbw⟩ := hrel
    have Tr := T3.next hbw
    by_cases hlt : i < 7
    · have l1 : decide (i < 7) = true := decide_eq_true hlt
      have l2 : decide ((i : Int) < 7) = true := decide_eq_true (by omega)
      obtain ⟨x, hx, hc0⟩ := HC.out i hlt
      have hc : wr.cell? ⟨g, i, none⟩ = some (.string x) := by
        rw [← hc0]; simp [World.cell?, hbw.block g hg]
      have c1 := fun W' hT => of_any x W' hT hx
      have c2 := fun W' => rof_any x W' hx
      have c3 := fun W' hT => is_any x W' hT hx
      obtain ⟨A, hA⟩ := ofV_form (M.ofS x.data.toList)
      rw [hA] at c1 c2
      generalize (M.ofS x.data.toList).isSome = o at *
      clear hA hc0 HC
      go_wp2_with fail
      refine (c1 _ Tr).mono ?_
      rintro r w3 ⟨rfl, hb⟩
      have B4 := hbw.trans (hb.mono hbw.size)
      have T4 := T3.next B4
      clear hbw hb Tr hc c1
      go_wp2_with fail
      refine (c2 _).mono ?_
      rintro r w4 ⟨rfl, hb⟩
      have B5 := B4.trans (hb.mono B4.size)
      have T5 := T3.next B5
      clear B4 T4 hb c2
      cases o
      · go_wp2_with fail
        refine (c3 _ T5).mono ?_
        rintro r w5 ⟨rfl, hb⟩
        have B6 := B5.trans (hb.mono B5.size)
        clear B5 T5 hb c3
        go_wp2_with fail
        go_roundw
        case rel => exact ⟨i + 1, by go_num, by omega, B6⟩
        case measure => simp [intOf]; omega
      · go_wp2_with fail
        refine (c3 _ T5).mono ?_
        rintro r w5 ⟨rfl, hb⟩
        have B6 := B5.trans (hb.mono B5.size)
        clear B5 T5 hb c3
        go_wp2_with fail
        go_roundw
        case rel => exact ⟨i + 1, by go_num, by omega, B6⟩
        case measure => simp [intOf]; omega
    · obtain rfl : i = 7 := by omega
      have B6 := B3.trans (hbw.mono B3.size)
      have t1 : Int.tmod y 3000 < 3000 := Int.tmod_lt_of_pos y (by decide)
      clear hbw Tr hlt hi HC B3 T3
      go_wp2_with fail
      refine (cD _ _ (by omega) _).mono ?_
      rintro r w3 ⟨rfl, rfl⟩
      go_wp2_with fail
      refine (cR _ _ (by omega) _).mono ?_
      rintro r w3 ⟨rfl, rfl⟩
      go_wp2_with fail
      refine (cD _ _ (by omega) _).mono ?_
      rintro r w3 ⟨rfl, rfl⟩
      go_wp2_with fail
      refine (cR _ _ (by omega) _).mono ?_
      rintro r w3 ⟨rfl, rfl⟩
      go_wp2
      go_ret
      exact ⟨rfl, B6⟩

theorem tells_any (s : ByteArray) (a : Option Addr) (cap : Nat) (l : List UInt8) (y m : Int) (w : World) (ht : Env w) (hs : s.size ≤ maxLen) (hin : InB w a l)
    (hy : -9223372036854775808 ≤ y ∧ y ≤ 9223372036854775807) (hm : -9223372036854775808 ≤ m ∧ m ≤ 9223372036854775807) :
    Calls Tryd.prog 3 #[.string s, .slice a l.length cap, .int .i64 y, .int .i64 m] w fun e w' => e = .returned (.bool true) ∧ Below w.heap.size w w' := by
  by_cases h : 60 < s.size ∨ (s.size ≤ 60 ∧ 40 < l.length)
  · exact tells_long s a cap l y m w ht hs h
  · exact tells_core s a cap l y m w ht hin (by omega) (by omega) hy hm
end Go.Proofs.YtoidlgopibnaaaaDoor
