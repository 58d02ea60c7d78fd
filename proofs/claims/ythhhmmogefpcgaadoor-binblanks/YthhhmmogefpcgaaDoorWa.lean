/- Walks: bin's isSpace, signsOf. -/
import Derived.Test.YthhhmmogefpcgaaDoorK
set_option linter.unusedVariables false
namespace Go.Proofs.YthhhmmogefpcgaaDoor
open Go.RowKit

theorem space_any (c : UInt8) (w : World) : Calls Tryd.prog 20 #[.int .u8 c.toNat] w fun e w' => e = .returned (.bool (M.bl c)) ∧ w' = w := by
  obtain ⟨R, hR⟩ : ∃ R, M.bl c = R := ⟨_, rfl⟩
  rw [hR]
  have e1 : ∀ k : Nat, k < 256 → ((c == UInt8.ofNat k) = ((c.toNat : Int) == (k : Int))) := fun k hk => by
    by_cases h : c = UInt8.ofNat k
    · subst h
      have : (UInt8.ofNat k).toNat = k := by simp; omega
      rw [this]; simp
    · rw [neC hk h]; simp [h]
  have hr : R = (((c.toNat : Int) == 32) || ((c.toNat : Int) == 9) || ((c.toNat : Int) == 10) || ((c.toNat : Int) == 13)) := by
    rw [← hR]; unfold M.bl
    rw [show (32 : UInt8) = UInt8.ofNat 32 from rfl, show (9 : UInt8) = UInt8.ofNat 9 from rfl, show (10 : UInt8) = UInt8.ofNat 10 from rfl, show (13 : UInt8) = UInt8.ofNat 13 from rfl, e1 _ (by omega), e1 _ (by omega), e1 _ (by omega), e1 _ (by omega)]
    rfl
  clear hR e1
  generalize (c.toNat : Int) = q at *
  subst hr
  go_enter Tryd.func20, Tryd.ntmps20
  go_wp2
  all_goals go_ret
  all_goals simp_all
end Go.Proofs.YthhhmmogefpcgaaDoor
