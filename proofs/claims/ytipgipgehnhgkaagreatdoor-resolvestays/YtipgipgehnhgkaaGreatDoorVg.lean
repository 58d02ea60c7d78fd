/- Walks: targumlaw13's some. -/
import Derived.Test.YtipgipgehnhgkaaGreatDoorFs
import Derived.Test.YtipgipgehnhgkaaGreatDoorKa
import Derived.BigRegion
import Derived.Deep.WholeRow
import Derived.Great.BuildSlice
set_option linter.unusedVariables false
namespace Go.Proofs.YtipgipgehnhgkaaGreatDoor
open Go.RowKit
open Go

/-- The texts of the law's table. -/
def partA : Array Value := #[.string ⟨#[121, 101, 115]⟩, .string ⟨#[110, 111]⟩, .string ⟨#[48]⟩, .string ⟨#[49]⟩, .string ⟨#[56]⟩, .string ⟨#[48, 120]⟩, .string ⟨#[48, 111]⟩, .string ⟨#[48, 98]⟩, .string ⟨#[95]⟩, .string ⟨#[58]⟩, .string ⟨#[46]⟩, .string ⟨#[101]⟩, .string ⟨#[69]⟩, .string ⟨#[43]⟩, .string ⟨#[45]⟩, .string ⟨#[105, 110, 102]⟩, .string ⟨#[110, 97, 110]⟩, .string ⟨#[50, 48, 48, 49, 45, 48, 49, 45, 48, 49]⟩, .string ⟨#[32]⟩, .string ⟨#[84]⟩, .string ⟨#[116, 114, 117, 101]⟩, .string ⟨#[126]⟩, .string ⟨#[60, 60]⟩, .string ⟨#[120]⟩]
abbrev partB : Obj := .cells partA 37
abbrev partZ : Array Value := #[.string ⟨#[]⟩, .string ⟨#[]⟩, .string ⟨#[]⟩, .string ⟨#[]⟩, .string ⟨#[]⟩, .string ⟨#[]⟩, .string ⟨#[]⟩, .string ⟨#[]⟩, .string ⟨#[]⟩, .string ⟨#[]⟩, .string ⟨#[]⟩, .string ⟨#[]⟩, .string ⟨#[]⟩, .string ⟨#[]⟩, .string ⟨#[]⟩, .string ⟨#[]⟩, .string ⟨#[]⟩, .string ⟨#[]⟩, .string ⟨#[]⟩, .string ⟨#[]⟩, .string ⟨#[]⟩, .string ⟨#[]⟩, .string ⟨#[]⟩, .string ⟨#[]⟩]
theorem part_one : partA.all (·.oneCell') = true := by simp [partA, Value.oneCell']
theorem part_cell (w : World) (q : Nat) (h : q < 24) : ∃ X : ByteArray, X.size ≤ 10 ∧ (w.alloc partB).cell? ⟨w.heap.size, q, none⟩ = some (.string X) := by
  match q, h with
  | 0, _ => exact ⟨⟨#[121, 101, 115]⟩, by decide, by simp [partA]⟩
  | 1, _ => exact ⟨⟨#[110, 111]⟩, by decide, by simp [partA]⟩
  | 2, _ => exact ⟨⟨#[48]⟩, by decide, by simp [partA]⟩
  | 3, _ => exact ⟨⟨#[49]⟩, by decide, by simp [partA]⟩
  | 4, _ => exact ⟨⟨#[56]⟩, by decide, by simp [partA]⟩
  | 5, _ => exact ⟨⟨#[48, 120]⟩, by decide, by simp [partA]⟩
  | 6, _ => exact ⟨⟨#[48, 111]⟩, by decide, by simp [partA]⟩
  | 7, _ => exact ⟨⟨#[48, 98]⟩, by decide, by simp [partA]⟩
  | 8, _ => exact ⟨⟨#[95]⟩, by decide, by simp [partA]⟩
  | 9, _ => exact ⟨⟨#[58]⟩, by decide, by simp [partA]⟩
  | 10, _ => exact ⟨⟨#[46]⟩, by decide, by simp [partA]⟩
  | 11, _ => exact ⟨⟨#[101]⟩, by decide, by simp [partA]⟩
  | 12, _ => exact ⟨⟨#[69]⟩, by decide, by simp [partA]⟩
  | 13, _ => exact ⟨⟨#[43]⟩, by decide, by simp [partA]⟩
  | 14, _ => exact ⟨⟨#[45]⟩, by decide, by simp [partA]⟩
  | 15, _ => exact ⟨⟨#[105, 110, 102]⟩, by decide, by simp [partA]⟩
  | 16, _ => exact ⟨⟨#[110, 97, 110]⟩, by decide, by simp [partA]⟩
  | 17, _ => exact ⟨⟨#[50, 48, 48, 49, 45, 48, 49, 45, 48, 49]⟩, by decide, by simp [partA]⟩
  | 18, _ => exact ⟨⟨#[32]⟩, by decide, by simp [partA]⟩
  | 19, _ => exact ⟨⟨#[84]⟩, by decide, by simp [partA]⟩
  | 20, _ => exact ⟨⟨#[116, 114, 117, 101]⟩, by decide, by simp [partA]⟩
  | 21, _ => exact ⟨⟨#[126]⟩, by decide, by simp [partA]⟩
  | 22, _ => exact ⟨⟨#[60, 60]⟩, by decide, by simp [partA]⟩
  | 23, _ => exact ⟨⟨#[120]⟩, by decide, by simp [partA]⟩
  | n + 24, h => exact absurd h (by omega)
set_option maxRecDepth 100000 in
set_option maxHeartbeats 4000000 in
theorem some_any (a : Option Addr) (cap : Nat) (l : List UInt8) (w : World) (hin : InB w a l) (hl : l.length ≤ 8) :
    Calls Tryz.prog 7 #[.slice a l.length cap] w fun e w' => ∃ T : ByteArray, e = .returned (.string T) ∧ T.size ≤ 80 ∧ Below w.heap.size w w' := by
  have HIN := Lib.hid hin
  clear hin
  have HC := Lib.hid (part_cell w)
  have B1 : Below w.heap.size w (w.alloc partB) := (Below.refl _ _).alloc (Nat.le_refl _) _
  have hG : w.heap.size < (w.alloc partB).heap.size := by simp
  go_enter Tryz.func7, Tryz.ntmps7
  go_wp2_with (first
    | refine wpList_buildTo rfl 37 _ rfl (some 6) rfl partA (by kernel_rfl) ?_
    | (refine wpList_store_rowTo rfl 37 _ _ rfl rfl w.heap.size partA rfl rfl 37 partZ (heap_alloc_last w _) (by kernel_rfl) (by kernel_rfl) part_one ?_; rw [World.setRow_alloc_new])
    | fail)
  obtain ⟨W1, hW1⟩ : ∃ W1, w.alloc partB = W1 := ⟨_, rfl⟩
  rw [hW1] at HC B1 hG
  rw [show w.alloc (.cells partA 37) = W1 from hW1]
  obtain ⟨g, hg⟩ : ∃ g, w.heap.size = g := ⟨_, rfl⟩
  rw [hg] at HC hG
  try rw [hg]
  have HB1 := Lib.hid B1
  clear hW1 B1
  go_loopw [4, 5] (fun tv kv wr => ∃ (t : ByteArray) (i : Nat), tv = .string t ∧ kv = .int .i64 i ∧ i ≤ l.length ∧ t.size ≤ 10 * i ∧ Below W1.heap.size W1 wr) (fun _ kv _ => l.length - (intOf kv).toNat)
  case atStart => exact ⟨⟨#[]⟩, 0, rfl, rfl, Nat.zero_le _, by decide, Below.refl _ _⟩
  case round =>
    obtain ⟨t, i, rfl, rfl, hi, ht, hbw⟩ := hrel
    by_cases hlt : i < l.length
    · have l1 : decide (i < l.length) = true := decide_eq_true hlt
      have l2 : decide ((i : Int) < (l.length : Int)) = true := decide_eq_true (by omega)
      obtain ⟨b, off, rfl, hcell, hb⟩ := HIN.out (by intro h; rw [h] at hlt; exact absurd hlt (by simp))
      have hc : wr.cell? ⟨b, off + i, none⟩ = some (.int .u8 (l[i].toNat : Int)) := by
        rw [← hcell i hlt]
        have h1 := HB1.out.block b hb
        simp [World.cell?, hbw.block b (Nat.lt_trans hb (by omega)), h1]
      obtain ⟨X, hX, hcX⟩ := HC.out (l[i].toNat % 24) (Nat.mod_lt _ (by omega))
      have hcX2 := (hbw.cell (p := ⟨g, l[i].toNat % 24, none⟩) hG).trans hcX
      have h8 := l[i].toNat_lt
      clear hcell HIN HC hcX
      generalize l[i].toNat = x at *
      obtain ⟨k, hk⟩ : ∃ k, x % 24 = k := ⟨_, rfl⟩
      have hk24 : k < 24 := by omega
      have hk24' : (k : Int) < 24 := by omega
      have f1 : (x : Int) % 24 = (k : Int) := by omega
      have f3 : Int.tmod (x : Int) 24 = (k : Int) := by rw [show (24 : Int) = ((24 : Nat) : Int) from rfl, ← Int.ofNat_tmod, hk]
      rw [hk] at hcX2
      have hadd : ∀ W, (Op.stringOp .add t X).run Tryz.prog W = .ok (.string (t ++ X)) W := fun W => run_string_add_sum _ _ _ (by omega)
      clear hk
      go_wp2_with fail
      go_roundw
      case rel => exact ⟨_, i + 1, rfl, by go_num, by omega, by rw [append_sz]; omega, hbw⟩
      case measure => simp [intOf]; omega
    · obtain rfl : i = l.length := by omega
      have l1 : decide (l.length < l.length) = false := decide_eq_false (by omega)
      have BF := HB1.out.trans (hbw.mono HB1.out.size)
      go_wp2
      go_ret
      exact ⟨t, rfl, by omega, BF⟩
end Go.Proofs.YtipgipgehnhgkaaGreatDoor
