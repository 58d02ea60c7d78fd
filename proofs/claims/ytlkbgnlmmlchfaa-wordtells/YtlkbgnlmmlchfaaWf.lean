/- The law WordTells: its walk. -/
import Derived.Test.YtlkbgnlmmlchfaaWe
import Derived.BigRegion
import Derived.Deep.WholeRow
import Derived.Great.BuildSlice
set_option linter.unusedVariables false
namespace Go.Proofs.Ytlkbgnlmmlchfaa
open Go.RowKit

/-- The thirty texts of the law's table. -/
def someA : Array Value := #[.string ⟨#[121]⟩, .string ⟨#[89]⟩, .string ⟨#[121, 101, 115]⟩, .string ⟨#[89, 101, 115]⟩, .string ⟨#[89, 69, 83]⟩, .string ⟨#[110]⟩, .string ⟨#[78]⟩, .string ⟨#[110, 111]⟩, .string ⟨#[78, 111]⟩, .string ⟨#[78, 79]⟩, .string ⟨#[116, 114, 117, 101]⟩, .string ⟨#[84, 114, 117, 101]⟩, .string ⟨#[84, 82, 85, 69]⟩, .string ⟨#[102, 97, 108, 115, 101]⟩, .string ⟨#[70, 97, 108, 115, 101]⟩, .string ⟨#[70, 65, 76, 83, 69]⟩, .string ⟨#[111, 110]⟩, .string ⟨#[79, 110]⟩, .string ⟨#[79, 78]⟩, .string ⟨#[111, 102, 102]⟩, .string ⟨#[79, 102, 102]⟩, .string ⟨#[79, 70, 70]⟩, .string ⟨#[126]⟩, .string ⟨#[110, 117, 108, 108]⟩, .string ⟨#[78, 117, 108, 108]⟩, .string ⟨#[78, 85, 76, 76]⟩, .string ⟨#[]⟩, .string ⟨#[60, 60]⟩, .string ⟨#[61]⟩, .string ⟨#[121, 69, 115]⟩]
abbrev someB : Obj := .cells someA 23
abbrev noneA : Array Value := #[.string ⟨#[]⟩, .string ⟨#[]⟩, .string ⟨#[]⟩, .string ⟨#[]⟩, .string ⟨#[]⟩, .string ⟨#[]⟩, .string ⟨#[]⟩, .string ⟨#[]⟩, .string ⟨#[]⟩, .string ⟨#[]⟩, .string ⟨#[]⟩, .string ⟨#[]⟩, .string ⟨#[]⟩, .string ⟨#[]⟩, .string ⟨#[]⟩, .string ⟨#[]⟩, .string ⟨#[]⟩, .string ⟨#[]⟩, .string ⟨#[]⟩, .string ⟨#[]⟩, .string ⟨#[]⟩, .string ⟨#[]⟩, .string ⟨#[]⟩, .string ⟨#[]⟩, .string ⟨#[]⟩, .string ⟨#[]⟩, .string ⟨#[]⟩, .string ⟨#[]⟩, .string ⟨#[]⟩, .string ⟨#[]⟩]
theorem some_one : someA.all (·.oneCell') = true := by simp [someA, Value.oneCell']
theorem some_cell (w : World) (q : Nat) (h : q < 30) : ∃ X : ByteArray, X.size ≤ 5 ∧ (w.alloc someB).cell? ⟨w.heap.size, q, none⟩ = some (.string X) := by
  match q, h with
  | 0, _ => exact ⟨⟨#[121]⟩, by decide, by simp [someA]⟩
  | 1, _ => exact ⟨⟨#[89]⟩, by decide, by simp [someA]⟩
  | 2, _ => exact ⟨⟨#[121, 101, 115]⟩, by decide, by simp [someA]⟩
  | 3, _ => exact ⟨⟨#[89, 101, 115]⟩, by decide, by simp [someA]⟩
  | 4, _ => exact ⟨⟨#[89, 69, 83]⟩, by decide, by simp [someA]⟩
  | 5, _ => exact ⟨⟨#[110]⟩, by decide, by simp [someA]⟩
  | 6, _ => exact ⟨⟨#[78]⟩, by decide, by simp [someA]⟩
  | 7, _ => exact ⟨⟨#[110, 111]⟩, by decide, by simp [someA]⟩
  | 8, _ => exact ⟨⟨#[78, 111]⟩, by decide, by simp [someA]⟩
  | 9, _ => exact ⟨⟨#[78, 79]⟩, by decide, by simp [someA]⟩
  | 10, _ => exact ⟨⟨#[116, 114, 117, 101]⟩, by decide, by simp [someA]⟩
  | 11, _ => exact ⟨⟨#[84, 114, 117, 101]⟩, by decide, by simp [someA]⟩
  | 12, _ => exact ⟨⟨#[84, 82, 85, 69]⟩, by decide, by simp [someA]⟩
  | 13, _ => exact ⟨⟨#[102, 97, 108, 115, 101]⟩, by decide, by simp [someA]⟩
  | 14, _ => exact ⟨⟨#[70, 97, 108, 115, 101]⟩, by decide, by simp [someA]⟩
  | 15, _ => exact ⟨⟨#[70, 65, 76, 83, 69]⟩, by decide, by simp [someA]⟩
  | 16, _ => exact ⟨⟨#[111, 110]⟩, by decide, by simp [someA]⟩
  | 17, _ => exact ⟨⟨#[79, 110]⟩, by decide, by simp [someA]⟩
  | 18, _ => exact ⟨⟨#[79, 78]⟩, by decide, by simp [someA]⟩
  | 19, _ => exact ⟨⟨#[111, 102, 102]⟩, by decide, by simp [someA]⟩
  | 20, _ => exact ⟨⟨#[79, 102, 102]⟩, by decide, by simp [someA]⟩
  | 21, _ => exact ⟨⟨#[79, 70, 70]⟩, by decide, by simp [someA]⟩
  | 22, _ => exact ⟨⟨#[126]⟩, by decide, by simp [someA]⟩
  | 23, _ => exact ⟨⟨#[110, 117, 108, 108]⟩, by decide, by simp [someA]⟩
  | 24, _ => exact ⟨⟨#[78, 117, 108, 108]⟩, by decide, by simp [someA]⟩
  | 25, _ => exact ⟨⟨#[78, 85, 76, 76]⟩, by decide, by simp [someA]⟩
  | 26, _ => exact ⟨⟨#[]⟩, by decide, by simp [someA]⟩
  | 27, _ => exact ⟨⟨#[60, 60]⟩, by decide, by simp [someA]⟩
  | 28, _ => exact ⟨⟨#[61]⟩, by decide, by simp [someA]⟩
  | 29, _ => exact ⟨⟨#[121, 69, 115]⟩, by decide, by simp [someA]⟩
  | n + 30, h => exact absurd h (by omega)
/-- The four texts that are tried. -/
abbrev fourB (s X : ByteArray) : Obj := .cells #[.string s, .string X, .string (X ++ s), .string (s ++ ⟨#[101]⟩)] 9
theorem four_cell (s X : ByteArray) (w : World) (hs : s.size ≤ 100) (hX : X.size ≤ 5) (i : Nat) (h : i < 4) : ∃ Y : ByteArray, Y.size ≤ 105 ∧ (w.alloc (fourB s X)).cell? ⟨w.heap.size, i, none⟩ = some (.string Y) := by
  match i, h with
  | 0, _ => exact ⟨s, by omega, by simp⟩
  | 1, _ => exact ⟨X, by omega, by simp⟩
  | 2, _ => exact ⟨X ++ s, by rw [append_sz]; omega, by simp⟩
  | 3, _ => exact ⟨s ++ ⟨#[101]⟩, by rw [append_sz]; show s.size + 1 ≤ 105; omega, by simp⟩
abbrev threeB (v : Int) : Obj := .cells #[.int .i64 v, .int .i64 11, .int .i64 12] 3
theorem three_cell (v : Int) (w : World) (i : Nat) (h : i < 3) : ∃ z : Int, (w.alloc (threeB v)).cell? ⟨w.heap.size, i, none⟩ = some (.int .i64 z) := by
  match i, h with
  | 0, _ => exact ⟨v, by simp⟩
  | 1, _ => exact ⟨11, by simp⟩
  | 2, _ => exact ⟨12, by simp⟩

set_option maxRecDepth 100000 in
theorem tells_long (v : Int) (s : ByteArray) (k : Nat) (w : World) (hs : s.size ≤ maxLen) (h : 100 < s.size) : Calls Try.prog 3 #[.int .i64 v, .string s, .int .u8 k] w fun e w' => e = .returned (.bool true) ∧ Below w.heap.size w w' := by
  unfold maxLen at hs
  have hd : decide (100 < s.size) = true := decide_eq_true h
  have hd2 : decide ((100 : Int) < (s.size : Int)) = true := decide_eq_true (by omega)
  go_enter Try.func3, Try.ntmps3
  go_wp2_with fail
  refine (known_any _).mono ?_
  rintro r w' ⟨rfl, rfl⟩
  go_wp2
  go_ret
  exact ⟨rfl, Below.refl _ _⟩
set_option maxRecDepth 100000 in
set_option maxHeartbeats 4000000 in
theorem tells_core (v : Int) (s : ByteArray) (k : Nat) (w : World) (h : s.size ≤ 100) (hk : k ≤ 255) : Calls Try.prog 3 #[.int .i64 v, .string s, .int .u8 k] w fun e w' => e = .returned (.bool true) ∧ Below w.heap.size w w' := by
  have hd : decide (100 < s.size) = false := decide_eq_false (by omega)
  have hd2 : decide ((100 : Int) < (s.size : Int)) = false := decide_eq_false (by omega)
  go_enter Try.func3, Try.ntmps3
  go_wp2_with fail
  refine (known_any _).mono ?_
  rintro r w' ⟨rfl, rfl⟩
  go_wp2_with (first
    | refine wpList_buildTo rfl 23 _ rfl (some 21) rfl someA (by kernel_rfl) ?_
    | (refine wpList_store_rowTo rfl 23 _ _ rfl rfl w.heap.size someA rfl rfl 23 noneA (heap_alloc_last w _) (by kernel_rfl) (by kernel_rfl) some_one ?_; rw [World.setRow_alloc_new])
    | fail)
  obtain ⟨X, hX5, hcX⟩ := some_cell w (k % 30) (Nat.mod_lt _ (by omega))
  have B1 : Below w.heap.size w (w.alloc someB) := (Below.refl _ _).alloc (Nat.le_refl _) _
  obtain ⟨W1, hW1⟩ : ∃ W1, w.alloc someB = W1 := ⟨_, rfl⟩
  rw [hW1] at hcX B1
  rw [show w.alloc (.cells someA 23) = W1 from hW1]
  obtain ⟨g, hg⟩ : ∃ g, w.heap.size = g := ⟨_, rfl⟩
  rw [hg] at hcX ⊢
  have HB1 := Lib.hid B1
  clear hW1 hg B1
  obtain ⟨q, hq⟩ : ∃ q, k % 30 = q := ⟨_, rfl⟩
  have hq30 : q < 30 := by omega
  have e1 : Int.tmod (k : Int) 30 = (q : Int) := by rw [show (30 : Int) = ((30 : Nat) : Int) from rfl, ← Int.ofNat_tmod, hq]
  have e2 : (k : Int) % 30 = (q : Int) := by omega
  rw [hq] at hcX
  have hadd1 : ∀ W, (Op.stringOp .add X s).run Try.prog W = .ok (.string (X ++ s)) W := fun W => run_string_add_sum _ _ _ (by omega)
  clear hq
  go_region
  have H4 : ∀ i, i < 4 → ∃ Y : ByteArray, Y.size ≤ 105 ∧ ((W1.alloc (fourB s X)).drew).cell? ⟨W1.heap.size, i, none⟩ = some (.string Y) := fun i hi => four_cell s X W1 h hX5 i hi
  have B7 : Below w.heap.size w ((W1.alloc (fourB s X)).drew) := below_dN (HB1.out.alloc HB1.out.size _) 1
  have hG : W1.heap.size < ((W1.alloc (fourB s X)).drew).heap.size := by show W1.heap.size < (W1.alloc (fourB s X)).heap.size; simp
  obtain ⟨W7, hW7⟩ : ∃ W7, (W1.alloc (fourB s X)).drew = W7 := ⟨_, rfl⟩
  rw [hW7] at H4 B7 hG
  rw [show (W1.alloc (.cells #[.string s, .string X, .string (X ++ s), .string (s ++ ⟨#[101]⟩)] 9)).drew = W7 from hW7]
  obtain ⟨G, hGe⟩ : ∃ G, W1.heap.size = G := ⟨_, rfl⟩
  rw [hGe] at H4 hG ⊢
  have H4 := Lib.hid H4
  clear hW7 hGe HB1 hcX hadd1 e1 e2 hq30 hX5
  go_wp2_with fail
  go_loopw [37] (fun iv w9 => ∃ i : Nat, iv = .int .i64 i ∧ i ≤ 4 ∧ Below W7.heap.size W7 w9) (fun iv _ => 4 - (intOf iv).toNat)
  case atStart => exact ⟨0, rfl, by omega, Below.refl _ _⟩
  case round =>
    obtain ⟨i, rfl, hi, hb9⟩ := hrel
    have B9 : Below w.heap.size w wr := B7.trans (hb9.mono B7.size)
    by_cases hlt : i < 4
    · have hltd : decide ((i : Int) < 4) = true := decide_eq_true (by omega)
      have hi2 : (i : Int) < 4 := by omega
      obtain ⟨Y, hY, hcY⟩ := H4.out i hlt
      have hcell := (hb9.cell (p := ⟨G, i, none⟩) hG).trans hcY
      have HT := Lib.hid (fun j hj => three_cell v wr j hj)
      have b8 : Below W7.heap.size W7 (wr.alloc (threeB v)) := hb9.alloc hb9.size _
      clear hcY
      go_wp2_with fail
      obtain ⟨W8, hW8⟩ : ∃ W8, wr.alloc (threeB v) = W8 := ⟨_, rfl⟩
      rw [hW8] at HT b8
      rw [show wr.alloc (.cells #[.int .i64 v, .int .i64 11, .int .i64 12] 3) = W8 from hW8]
      clear hcell hW8 B9 hb9
      obtain ⟨G8, hG8⟩ : ∃ G8, wr.heap.size = G8 := ⟨_, rfl⟩
      rw [hG8] at HT ⊢
      clear hG8
      go_loopw [44] (fun jv w5 => ∃ j : Nat, jv = .int .i64 j ∧ j ≤ 3 ∧ w5 = W8) (fun jv _ => 3 - (intOf jv).toNat)
      case atStart => exact ⟨0, rfl, by omega, rfl⟩
      case round =>
        obtain ⟨j, rfl, hj, rfl⟩ := hrel
        by_cases hlt3 : j < 3
        · have hltd3 : decide ((j : Int) < 3) = true := decide_eq_true (by omega)
          have hj2 : (j : Int) < 3 := by omega
          obtain ⟨z, hz⟩ := HT.out j hlt3
          have c1 := fun W => bool_any z Y W
          have c2 := fun W => rbool_any z Y W
          generalize M.bo (decide (z = 11)) Y.data.toList = p at *
          obtain ⟨p1, p2⟩ := p
          dsimp only [bV] at c1 c2
          go_wp2_with fail
          refine (c1 _).mono ?_
          rintro r w' ⟨rfl, rfl⟩
          go_wp2_with fail
          refine (c2 _).mono ?_
          rintro r w' ⟨rfl, rfl⟩
          clear c1 c2
          go_wp2
          go_roundw
          case rel => exact ⟨j + 1, by go_num, by omega, by first | rfl | trivial⟩
          case measure => simp [intOf]; omega
        · obtain rfl : j = 3 := by omega
          have c1 := fun W => null_any Y W
          have c2 := fun W => rnull_any Y W
          have c3 := fun W => merge_any Y W
          have c4 := fun W => plain_any Y W (by omega)
          have c5 := fun W => rpl_any Y W (by omega)
          obtain ⟨m, hm⟩ : ∃ m, (Y.toList == [60, 60]) = m := ⟨_, rfl⟩
          rw [hm] at c3
          generalize M.pl Y.data.toList = g at *
          generalize decide (Y.data.toList ∈ M.wN) = n at *
          clear HT
          go_wp2_with fail
          refine (c1 _).mono ?_
          rintro r w' ⟨rfl, rfl⟩
          go_wp2_with fail
          refine (c2 _).mono ?_
          rintro r w' ⟨rfl, rfl⟩
          go_wp2_with fail
          refine (c3 _).mono ?_
          rintro r w' ⟨rfl, rfl⟩
          go_wp2_with fail
          refine (c4 _).mono ?_
          rintro r w' ⟨rfl, rfl⟩
          go_wp2_with fail
          refine (c5 _).mono ?_
          rintro r w' ⟨rfl, rfl⟩
          clear c1 c2 c3 c4 c5
          go_wp2
          go_roundw
          case rel => exact ⟨i + 1, by go_num, by omega, b8⟩
          case measure => simp [intOf]; omega
    · obtain rfl : i = 4 := by omega
      clear H4
      go_wp2
      go_ret
      exact ⟨rfl, B9⟩
theorem tells_any (v : Int) (s : ByteArray) (k : Nat) (w : World) (hs : s.size ≤ maxLen) (hk : k ≤ 255) : Calls Try.prog 3 #[.int .i64 v, .string s, .int .u8 k] w fun e w' => e = .returned (.bool true) ∧ Below w.heap.size w w' := by
  by_cases h : s.size ≤ 100
  · exact tells_core v s k w h hk
  · exact tells_long v s k w hs (by omega)
end Go.Proofs.Ytlkbgnlmmlchfaa
