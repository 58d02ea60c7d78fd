/- The law Num12Tells: its walk. -/
import Derived.Test.YtocegiffbgnogaaDoorPk
import Derived.Test.YtocegiffbgnogaaDoorPj
import Derived.Test.YtocegiffbgnogaaDoorFs
import Derived.Deep.QuietTactic
set_option linter.unusedVariables false
namespace Go.Proofs.YtocegiffbgnogaaDoor
open Go.RowKit

set_option maxRecDepth 100000 in
theorem tells_long (s : ByteArray) (a : Option Addr) (cap : Nat) (l : List UInt8) (w : World) (he : Env w) (hs : s.size ≤ maxLen) (h : 60 < s.size) :
    Calls Tryd.prog 3 #[.string s, .slice a l.length cap] w fun e w' => e = .returned (.bool true) ∧ Below w.heap.size w w' := by
  unfold maxLen at hs
  have hd : decide (60 < s.size) = true := by simpa using h
  have hd2 : decide ((60 : Int) < (s.size : Int)) = true := by simp; omega
  go_enter Tryd.func3, Tryd.ntmps3
  go_wp2_with fail
  refine (known_any _ he).mono ?_
  rintro r w1 ⟨rfl, hb1⟩
  go_wp2
  go_ret
  exact ⟨rfl, hb1⟩
set_option maxRecDepth 100000 in
theorem tells_many (s : ByteArray) (a : Option Addr) (cap : Nat) (l : List UInt8) (w : World) (he : Env w) (hs : s.size ≤ 60) (h : 40 < l.length) :
    Calls Tryd.prog 3 #[.string s, .slice a l.length cap] w fun e w' => e = .returned (.bool true) ∧ Below w.heap.size w w' := by
  have hd : decide (60 < s.size) = false := by simp; omega
  have hd2 : decide ((60 : Int) < (s.size : Int)) = false := by simp; omega
  have hd3 : decide (40 < l.length) = true := by simpa using h
  have hd4 : decide ((40 : Int) < (l.length : Int)) = true := by simp; omega
  go_enter Tryd.func3, Tryd.ntmps3
  go_wp2_with fail
  refine (known_any _ he).mono ?_
  rintro r w1 ⟨rfl, hb1⟩
  go_wp2
  go_ret
  exact ⟨rfl, hb1⟩
/-- The eight texts that are tried. -/
def eight (s T : ByteArray) : List ByteArray := [s, T, ⟨#[48, 111]⟩ ++ T, ⟨#[48, 120]⟩ ++ T, ⟨#[49, 101]⟩ ++ T, ⟨#[45, 46]⟩ ++ T, ⟨#[49, 46]⟩ ++ T, ⟨#[43]⟩ ++ T]
theorem eight_small (s T : ByteArray) (hs : s.size ≤ 60) (hT : T.size ≤ 40) (i : Nat) (h : i < 8) : ∃ X, (eight s T)[i]? = some X ∧ X.size ≤ 100 := by
  match i, h with
  | 0, _ => exact ⟨_, rfl, by omega⟩
  | 1, _ => exact ⟨_, rfl, by omega⟩
  | 2, _ => exact ⟨_, rfl, by rw [append_sz]; show 2 + T.size ≤ 100; omega⟩
  | 3, _ => exact ⟨_, rfl, by rw [append_sz]; show 2 + T.size ≤ 100; omega⟩
  | 4, _ => exact ⟨_, rfl, by rw [append_sz]; show 2 + T.size ≤ 100; omega⟩
  | 5, _ => exact ⟨_, rfl, by rw [append_sz]; show 2 + T.size ≤ 100; omega⟩
  | 6, _ => exact ⟨_, rfl, by rw [append_sz]; show 2 + T.size ≤ 100; omega⟩
  | 7, _ => exact ⟨_, rfl, by rw [append_sz]; show 1 + T.size ≤ 100; omega⟩
theorem eight_cell (s T : ByteArray) (w : World) (i : Nat) (X : ByteArray) (h : (eight s T)[i]? = some X) :
    (w.alloc (.cells #[.string s, .string T, .string (⟨#[48, 111]⟩ ++ T), .string (⟨#[48, 120]⟩ ++ T), .string (⟨#[49, 101]⟩ ++ T), .string (⟨#[45, 46]⟩ ++ T), .string (⟨#[49, 46]⟩ ++ T), .string (⟨#[43]⟩ ++ T)] 9)).cell? ⟨w.heap.size, i, none⟩ = some (.string X) := by
  match i, h with
  | 0, h => simp [eight] at h; subst h; simp
  | 1, h => simp [eight] at h; subst h; simp
  | 2, h => simp [eight] at h; subst h; simp
  | 3, h => simp [eight] at h; subst h; simp
  | 4, h => simp [eight] at h; subst h; simp
  | 5, h => simp [eight] at h; subst h; simp
  | 6, h => simp [eight] at h; subst h; simp
  | 7, h => simp [eight] at h; subst h; simp
  | n + 8, h => simp [eight] at h
theorem tailV_is (o : Option Int) : ∃ (A : ByteArray) (q : Bool), tailV o = .tuple #[.string A, .bool q] := by
  cases o with
  | none => exact ⟨_, _, rfl⟩
  | some z => exact ⟨_, _, rfl⟩
set_option maxRecDepth 100000 in
set_option maxHeartbeats 4000000 in
theorem tells_core (s : ByteArray) (a : Option Addr) (cap : Nat) (l : List UInt8) (w : World) (he : Env w) (hin : InB w a l) (hs : s.size ≤ 60) (hl : l.length ≤ 40) :
    Calls Tryd.prog 3 #[.string s, .slice a l.length cap] w fun e w' => e = .returned (.bool true) ∧ Below w.heap.size w w' := by
  have hd : decide (60 < s.size) = false := by simp; omega
  have hd2 : decide ((60 : Int) < (s.size : Int)) = false := by simp; omega
  have hd3 : decide (40 < l.length) = false := by simp; omega
  have hd4 : decide ((40 : Int) < (l.length : Int)) = false := by simp; omega
  have HIN := Lib.hid hin
  clear hin
  go_enter Tryd.func3, Tryd.ntmps3
  go_wp2_with fail
  refine (known_any _ he).mono ?_
  rintro r w1 ⟨rfl, hb1⟩
  go_wp2_with fail
  go_loopw [5, 6] (fun tv iv wr => ∃ (i : Nat) (T : ByteArray), iv = .int .i64 i ∧ i ≤ l.length ∧ tv = .string T ∧ T.size = i ∧ Below w.heap.size w wr) (fun _ iv _ => l.length - (intOf iv).toNat)
  case atStart => exact ⟨0, ⟨#[]⟩, rfl, Nat.zero_le _, rfl, rfl, hb1⟩
  case round =>
    obtain ⟨i, T, rfl, hi, rfl, hT, hbw⟩ := hrel
    by_cases hlt : i < l.length
    · have hltd : decide ((i : Int) < (l.length : Int)) = true := by simp; omega
      have hltd2 : decide (i < l.length) = true := by simp; omega
      have hi2 : (i : Int) < (l.length : Int) := by omega
      have hi3 : (0 : Int) ≤ (i : Int) := by omega
      obtain ⟨b, off, rfl, hcl, hbh⟩ := HIN.out (by intro e; rw [e] at hlt; simp at hlt)
      have hc0 := (hbw.cell (p := ⟨b, off + i, none⟩) hbh).trans (hcl i hlt)
      have h256 := l[i].toNat_lt
      generalize l[i].toNat = v at *
      obtain ⟨q, hq⟩ : ∃ q, v % 26 = q := ⟨_, rfl⟩
      have hq25 : q < 26 := by omega
      have e1 : Int.tmod (v : Int) 26 = (q : Int) := by rw [show (26 : Int) = ((26 : Nat) : Int) from rfl, ← Int.ofNat_tmod, hq]
      have e2 : (v : Int) % 26 = (q : Int) := by omega
      have hw1 : IntKind.i64.wrap ((q : Int) + 1) = (q : Int) + 1 := by rw [IntWalk.i64_in _ (by omega)]
      have hw2 : IntKind.i64.wrap (q : Int) = (q : Int) := by rw [IntWalk.i64_in _ (by omega)]
      have hw3 : IntKind.i64.wrap (v : Int) = (v : Int) := by rw [IntWalk.i64_in _ (by omega)]
      have hb1q : (q : Int) ≤ (q : Int) + 1 := by omega
      have hb2q : (q : Int) + 1 ≤ 26 := by omega
      have hb0q : (0 : Int) ≤ (q : Int) := by omega
      obtain ⟨X, hX⟩ : ∃ X, (⟨#[48, 49, 50, 51, 52, 53, 54, 55, 56, 57, 46, 101, 43, 45, 69, 111, 120, 95, 97, 98, 99, 100, 101, 102, 70, 58]⟩ : ByteArray).extract q (q + 1) = X := ⟨_, rfl⟩
      have hXs : X.size = 1 := by
        rw [← hX, ByteArray.size_extract]
        show min (q + 1) 26 - q = 1
        omega
      have hadd : ∀ W, (Op.stringOp .add T X).run Tryd.prog W = .ok (.string (T ++ X)) W := fun W => run_string_add_sum _ _ _ (by omega)
      clear hcl hq hb1
      go_wp2_with fail
      go_quiet (fail)
      go_wp2
      go_roundw
      case rel => exact ⟨i + 1, T ++ X, by go_num, by omega, rfl, by rw [append_sz]; omega, below_dN hbw _⟩
      case measure => simp [intOf]; omega
    · obtain rfl : l.length = i := by omega
      have hltd : decide ((l.length : Int) < (l.length : Int)) = false := by simp
      have hltd2 : decide (l.length < l.length) = false := by simp
      have hTs : T.size ≤ 40 := by omega
      clear HIN hb1
      go_wp2_with fail
      have B7 : Below w.heap.size w (wr.alloc (.cells #[.string s, .string T, .string (⟨#[48, 111]⟩ ++ T), .string (⟨#[48, 120]⟩ ++ T), .string (⟨#[49, 101]⟩ ++ T), .string (⟨#[45, 46]⟩ ++ T), .string (⟨#[49, 46]⟩ ++ T), .string (⟨#[43]⟩ ++ T)] 9)) := hbw.alloc hbw.size _
      have HC := Lib.hid (fun i X h => eight_cell s T wr i X h)
      have hG : wr.heap.size < (wr.alloc (.cells #[.string s, .string T, .string (⟨#[48, 111]⟩ ++ T), .string (⟨#[48, 120]⟩ ++ T), .string (⟨#[49, 101]⟩ ++ T), .string (⟨#[45, 46]⟩ ++ T), .string (⟨#[49, 46]⟩ ++ T), .string (⟨#[43]⟩ ++ T)] 9)).heap.size := by simp
      generalize wr.alloc (.cells #[.string s, .string T, .string (⟨#[48, 111]⟩ ++ T), .string (⟨#[48, 120]⟩ ++ T), .string (⟨#[49, 101]⟩ ++ T), .string (⟨#[45, 46]⟩ ++ T), .string (⟨#[49, 46]⟩ ++ T), .string (⟨#[43]⟩ ++ T)] 9) = W7 at *
      generalize wr.heap.size = G at *
      clear hbw
      go_loopw [65] (fun iv w9 => ∃ i : Nat, iv = .int .i64 i ∧ i ≤ 8 ∧ Below W7.heap.size W7 w9) (fun iv _ => 8 - (intOf iv).toNat)
      case atStart => exact ⟨0, rfl, by omega, Below.refl _ _⟩
      case round =>
        obtain ⟨i, rfl, hi, hb9⟩ := hrel
        have B9 : Below w.heap.size w wr := B7.trans (hb9.mono B7.size)
        by_cases hlt : i < 8
        · have hltd : decide ((i : Int) < 8) = true := by simp; omega
          obtain ⟨X, hX, hXs⟩ := eight_small s T hs hTs i hlt
          have hcell := (hb9.cell (p := ⟨G, i, none⟩) hG).trans (HC.out i X hX)
          obtain ⟨k, n, ok, D, E, c3, c4⟩ := float_agree X hXs
          have c1 := fun W => nint_any X W (by omega)
          have c2 := fun W => rint12_any X W hXs
          obtain ⟨A, q, hA⟩ := tailV_is (M.iv X.data.toList)
          rw [hA] at c1 c2
          have eG := eqG
          have e4 := neq4
          have hi2 : (i : Int) < 8 := by omega
          clear hX HC hA
          go_wp2_with fail
          refine (c1 _).mono ?_
          rintro r w2 ⟨rfl, hw2⟩
          have b2 := below_on hb9 hw2
          go_wp2_with fail
          refine (c2 _).mono ?_
          rintro r w3 ⟨rfl, hw3⟩
          have b3 := below_on b2 hw3
          clear hw2 hw3 b2 c1 c2
          go_wp2_with fail
          refine (c3 _ (he.next (B7.trans (b3.mono B7.size)))).mono ?_
          rintro r w4 ⟨rfl, hw4⟩
          have b4 := below_on b3 hw4
          clear hw4 b3
          go_wp2_with fail
          refine (c4 _).mono ?_
          rintro r w5 ⟨rfl, hw5⟩
          have KA := (Blk.made w4 k n D E).next hw5
          have BZ := below_over b4 hw5
          have la := KA.lt
          obtain ⟨p0, p1, p2, p3⟩ := KA.cells
          clear hw5 b4 c3 c4
          go_wp2
          go_roundw
          case rel => exact ⟨i + 1, by go_num, by omega, BZ.alloc BZ.size _⟩
          case measure => simp [intOf]; omega
        · obtain rfl : i = 8 := by omega
          clear HC
          go_wp2
          go_ret
          exact ⟨rfl, B9⟩
theorem tells_any (s : ByteArray) (a : Option Addr) (cap : Nat) (l : List UInt8) (w : World) (he : Env w) (hs : s.size ≤ maxLen) (hin : InB w a l) :
    Calls Tryd.prog 3 #[.string s, .slice a l.length cap] w fun e w' => e = .returned (.bool true) ∧ Below w.heap.size w w' := by
  by_cases h60 : s.size ≤ 60
  · by_cases h40 : l.length ≤ 40
    · exact tells_core s a cap l w he hin h60 h40
    · exact tells_many s a cap l w he h60 (by omega)
  · exact tells_long s a cap l w he hs (by omega)
end Go.Proofs.YtocegiffbgnogaaDoor
