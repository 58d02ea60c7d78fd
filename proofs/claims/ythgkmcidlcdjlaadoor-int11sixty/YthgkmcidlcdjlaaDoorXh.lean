/- Walks: Of; the document's find, sign. -/
import Derived.Test.YthgkmcidlcdjlaaDoorXg
set_option linter.unusedVariables false
namespace Go.Proofs.YthgkmcidlcdjlaaDoor
open Go.RowKit

/-- The number that a text says, by its form. -/
def zOf (l : List UInt8) : Int := M.sgn (M.isNeg l) (M.num (M.body l))
set_option maxRecDepth 100000 in
set_option maxHeartbeats 1000000 in
theorem of_yes (s : ByteArray) (w : World) (he : Env w) (hs : s.size ≤ 990) (hf : M.form s.data.toList ≠ 0) :
    Calls Tryd.prog 9 #[.string s] w fun e w' => e = .returned (.tuple #[.string (tx (zOf s.data.toList)), .bool true]) ∧ Below w.heap.size w w' := by
  have hl := M.body_len s.data.toList
  rw [← sz_list] at hl
  obtain ⟨D, hD, hv, hDs, c4⟩ := said_any (M.body s.data.toList) (by omega) hf
  have c1 := form_any s w (by omega)
  have c2 := isplit_any s w (by omega)
  have c3 := rep_any (bA (M.body s.data.toList)) w he (by rw [bA_size]; omega)
  rw [bA_toList] at c3
  have c5 := fun W => norm_yes (M.isNeg s.data.toList) D W (by omega) hD
  rw [hv] at c5
  rw [show M.fB (M.body s.data.toList) = M.form s.data.toList from rfl] at c4
  unfold zOf
  have hfd : ((M.form s.data.toList : Int) == 0) = false := beq_eq_false_iff_ne.2 (by omega)
  generalize M.form s.data.toList = F at *
  generalize tx (M.sgn (M.isNeg s.data.toList) (M.num (M.body s.data.toList))) = Z at *
  generalize bA (M.body s.data.toList) = B at *
  generalize bA (M.gone (M.body s.data.toList)) = G at *
  generalize M.isNeg s.data.toList = N at *
  clear hD hv hDs hl hf
  go_enter Tryd.func9, Tryd.ntmps9
  go_wp2_with fail
  refine c1.mono ?_
  rintro r w' ⟨rfl, rfl⟩
  go_wp2_with fail
  refine c2.mono ?_
  rintro r w' ⟨rfl, rfl⟩
  go_wp2_with fail
  refine c3.mono ?_
  rintro r w1 ⟨rfl, hb1⟩
  go_wp2_with fail
  refine (c4 _ (he.next hb1)).mono ?_
  rintro r w2 ⟨rfl, hb2⟩
  go_wp2_with fail
  refine (c5 _).mono ?_
  rintro r w3 ⟨rfl, hb3⟩
  clear c1 c2 c3 c4 c5
  go_wp2
  go_ret2
  exact ⟨rfl, hb1.trans ((hb2.mono hb1.size).trans (hb3.mono (Nat.le_trans hb1.size hb2.size)))⟩
theorem of_no (s : ByteArray) (w : World) (hs : s.size ≤ 990) (hf : M.form s.data.toList = 0) :
    Calls Tryd.prog 9 #[.string s] w fun e w' => e = .returned (.tuple #[.string ⟨#[]⟩, .bool false]) ∧ w = w' := by
  have c1 := form_any s w (by omega)
  rw [hf] at c1
  clear hf
  go_enter Tryd.func9, Tryd.ntmps9
  go_wp2_with fail
  refine c1.mono ?_
  rintro r w' ⟨rfl, rfl⟩
  go_wp2
  go_ret2
  exact ⟨rfl, rfl⟩
end Go.Proofs.YthgkmcidlcdjlaaDoor
