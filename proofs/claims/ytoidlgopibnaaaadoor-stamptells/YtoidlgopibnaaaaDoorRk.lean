/- Walks: targumlaw10's moment. -/
import Derived.Test.YtoidlgopibnaaaaDoorRj
import Derived.Test.YtoidlgopibnaaaaDoorFs
set_option linter.unusedVariables false
namespace Go.Proofs.YtoidlgopibnaaaaDoor
open Go.RowKit

def SG : ByteArray := ⟨#[48, 49, 50, 51, 52, 53, 54, 55, 56, 57, 45, 58, 84, 32, 116, 90, 43, 46, 9]⟩
theorem sg_size : SG.size = 19 := rfl
set_option maxRecDepth 100000 in
set_option maxHeartbeats 2000000 in
theorem moment_any (a : Option Addr) (cap : Nat) (l : List UInt8) (w : World) (hin : InB w a l) (hl : l.length ≤ 40) :
    Calls Tryd.prog 9 #[.slice a l.length cap] w fun e w' => ∃ T : ByteArray, e = .returned (.string T) ∧ T.size ≤ 40 ∧ Below w.heap.size w w' := by
  have HIN := Lib.hid hin
  clear hin
  go_enter Tryd.func9, Tryd.ntmps9
  go_wp2_with fail
  go_loopw [3, 4] (fun tv kv wr => ∃ (t : ByteArray) (i : Nat), tv = .string t ∧ kv = .int .i64 i ∧ i ≤ l.length ∧ t.size ≤ i ∧ Below w.heap.size w wr) (fun _ kv _ => l.length - (intOf kv).toNat)
  case atStart => exact ⟨⟨#[]⟩, 0, rfl, rfl, Nat.zero_le _, by decide, Below.refl _ _⟩
  case round =>
    obtain ⟨t, i, rfl, rfl, hi, ht, hbw⟩ := hrel
    by_cases hlt : i < l.length
    · have l1 : decide (i < l.length) = true := decide_eq_true hlt
      have l2 : decide ((i : Int) < (l.length : Int)) = true := decide_eq_true (by omega)
      obtain ⟨b, off, rfl, hcell, hb⟩ := HIN.out (by intro h; rw [h] at hlt; exact absurd hlt (by simp))
      have hc : wr.cell? ⟨b, off + i, none⟩ = some (.int .u8 (l[i].toNat : Int)) := by
        rw [← hcell i hlt]; simp [World.cell?, hbw.block b hb]
      have h8 := l[i].toNat_lt
      clear hcell HIN
      generalize l[i].toNat = x at *
      obtain ⟨k, hk⟩ : ∃ k, x % 19 = k := ⟨_, rfl⟩
      obtain ⟨k1, hk1⟩ : ∃ k1, k + 1 = k1 := ⟨_, rfl⟩
      have f1 : (x : Int) % 19 = (k : Int) := by omega
      have f2 : (k : Int) + 1 = (k1 : Int) := by omega
      have g1 : (k : Int) ≤ (k1 : Int) := by omega
      have g2 : (k1 : Int) ≤ 19 := by omega
      have g3 : (0 : Int) ≤ (k : Int) := by omega
      have he : ((⟨#[48, 49, 50, 51, 52, 53, 54, 55, 56, 57, 45, 58, 84, 32, 116, 90, 43, 46, 9]⟩ : ByteArray).extract k k1).size ≤ 1 := by
        rw [ByteArray.size_extract]; have := sg_size; unfold SG at this; rw [this]; omega
      clear hk hk1
      go_wp2_with fail
      go_quiet (fail)
      go_wp2_with fail
      go_roundw
      case rel => exact ⟨_, i + 1, rfl, by go_num, by omega, by rw [append_sz]; omega, below_dN hbw _⟩
      case measure => simp [intOf]; omega
    · obtain rfl : i = l.length := by omega
      have l1 : decide (l.length < l.length) = false := decide_eq_false (by omega)
      go_wp2
      go_ret
      exact ⟨t, rfl, by omega, hbw⟩
end Go.Proofs.YtoidlgopibnaaaaDoor
