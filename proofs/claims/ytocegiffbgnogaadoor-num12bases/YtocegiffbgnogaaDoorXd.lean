/- Walks: afterDigit. -/
import Derived.Test.YtocegiffbgnogaaDoorXb
set_option linter.unusedVariables false
namespace Go.Proofs.YtocegiffbgnogaaDoor
open Go.RowKit

theorem fS1_nil : M.fS 1 [] = 0 := rfl
theorem fS2_nil : M.fS 2 [] = 6 := rfl
theorem fS3_nil : M.fS 3 [] = 6 := rfl
theorem fS1_cons (c : UInt8) (r : List UInt8) : M.fS 1 (c :: r) = if M.dv c < 6 then M.fS 2 r else if M.dv c < 10 then M.fS 3 r else 0 := by rw [M.fS, if_pos rfl]
theorem fS2_cons (c : UInt8) (r : List UInt8) : M.fS 2 (c :: r) = if M.dv c < 10 then M.fS 3 r else if c = 58 then M.fS 1 r else 0 := by rw [M.fS, if_neg (by omega)]; simp
theorem fS3_cons (c : UInt8) (r : List UInt8) : M.fS 3 (c :: r) = if c = 58 then M.fS 1 r else 0 := by rw [M.fS, if_neg (by omega), if_neg (by omega)]
/-- What holds at afterDigit's labels. -/
def JD (s : ByteArray) (T : Nat) (w : World) (l : Nat) (a : Act) (w' : World) : Prop :=
  w = w' ∧ ∃ (i : Nat) (u1 u2 u4 u5 u6 u7 u8 u9 u10 u11 u12 u13 u14 u15 u16 u17 u18 u19 u20 u21 u22 u23 u24 u25 u26 u27 u28 u29 u30 u31 u32 u33 u34 u35 u36 u37 u38 u39 u40 u41 u42 u43 u44 u45 u46 u47 u48 u49 u50 u51 u52 u53 : Value), a = { tmps := #[.string s, u1, u2, .int .i64 (i : Nat), u4, u5, u6, u7, u8, u9, u10, u11, u12, u13, u14, u15, u16, u17, u18, u19, u20, u21, u22, u23, u24, u25, u26, u27, u28, u29, u30, u31, u32, u33, u34, u35, u36, u37, u38, u39, u40, u41, u42, u43, u44, u45, u46, u47, u48, u49, u50, u51, u52, u53], defers := [] } ∧ i ≤ s.size ∧ ((l = 0 ∧ M.fA (s.data.toList.drop i) = T) ∨ (l = 1 ∧ M.fS 1 (s.data.toList.drop i) = T) ∨ (l = 2 ∧ M.fS 2 (s.data.toList.drop i) = T) ∨ (l = 3 ∧ M.fS 3 (s.data.toList.drop i) = T))
end Go.Proofs.YtocegiffbgnogaaDoor
