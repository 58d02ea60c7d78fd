/- The law BrkChecks: its walk. -/
import Derived.Test.YtnmfiadljhbmiaaDoorWh
import Derived.Test.YtnmfiadljhbmiaaDoorRc
set_option linter.unusedVariables false
namespace Go.Proofs.YtnmfiadljhbmiaaDoor
open Go.RowKit

set_option maxRecDepth 100000 in
set_option maxHeartbeats 1000000 in
theorem checks_any (s t : ByteArray) (w : World) (hT : Tabs w) (hs : s.size ≤ maxLen) (ht : t.size ≤ maxLen) :
    Calls Tryd.prog 7 #[.string s, .string t] w fun r w' => r = .returned (.bool true) ∧ Below w.heap.size w w' := by
  unfold maxLen at hs ht
  have HLs := Lib.hid (sz_list s)
  have HLa := Lib.hid (append_list s t)
  have HLz := Lib.hid (append_sz s t)
  go_enter Tryd.func7, Tryd.ntmps7
  go_wp2_with fail
  refine (known_any w hT).mono ?_
  rintro r w1 ⟨rfl, b1⟩
  by_cases h3 : 300 < s.size
  · have d3 : decide ((300 : Int) < (s.size : Int)) = true := by simp; omega
    go_wp2
    go_ret
    exact ⟨rfl, b1⟩
  have d3 : decide ((300 : Int) < (s.size : Int)) = false := by simp; omega
  have hs3 : s.size ≤ 300 := by omega
  by_cases h4 : 300 < t.size
  · have d4 : decide ((300 : Int) < (t.size : Int)) = true := by simp; omega
    go_wp2
    go_ret
    exact ⟨rfl, b1⟩
  have d4 : decide ((300 : Int) < (t.size : Int)) = false := by simp; omega
  have ht3 : t.size ≤ 300 := by omega
  clear h3 h4 hs ht
  have cS := check_any s w1 (hT.below b1) (by omega)
  have cT := fun w hT => check_any t w hT (by omega)
  have cA := fun w hT => check_any (s ++ t) w hT (by rw [HLz.out]; omega)
  have cW := fun w => well_any s w (by omega)
  rw [HLa.out] at cA
  have hlt := M.chk_lt s.data.toList.length s.data.toList
  have hap := M.chk_append s.data.toList.length s.data.toList t.data.toList (Nat.le_refl _)
  have hwl := M.chk_well s.data.toList t.data.toList
  rw [← HLs.out] at hlt hap
  have htl := M.chk_lt t.data.toList.length t.data.toList
  rw [← sz_list] at htl
  go_wp2_with fail
  refine cS.mono ?_
  rintro r w2 ⟨rfl, b2⟩
  go_wp2_with fail
  refine (cT _ ((hT.below b1).below b2)).mono ?_
  rintro r w3 ⟨rfl, b3⟩
  have T3 : Tabs w3 := ((hT.below b1).below b2).below b3
  have B3 : Below w.heap.size w w3 := (b1.trans (b2.mono b1.size)).trans (b3.mono (Nat.le_trans b1.size b2.size))
  clear cS cT b1 b2 b3
  cases ha : M.chk s.data.toList with
  | some k =>
    have hk : k < s.size := hlt k (by omega) ha
    have hkd : decide (k < s.size) = true := by simpa using hk
    have hk0 : decide ((0 : Int) ≤ (k : Int)) = true := by simp
    rw [show M.optZ (some k) = (k : Int) from rfl]
    have HW := Lib.hid (fun hv => hwl k hv ha)
    clear ha hlt hap htl hwl
    by_cases hv : Lib.validD s.data.toList = true
    · have he := HW.out hv
      rw [hv] at cW
      rw [he] at cA
      clear he hv
      go_wp2_with fail
      refine (cW _).mono ?_
      rintro r w4 ⟨rfl, rfl⟩
      go_wp2_with fail
      refine (cA _ T3).mono ?_
      rintro r w4 ⟨rfl, b4⟩
      rw [show M.optZ (some k) = (k : Int) from rfl]
      go_wp2
      go_ret
      exact ⟨rfl, B3.trans (b4.mono B3.size)⟩
    · rw [show Lib.validD s.data.toList = false by simpa using hv] at cW
      clear hv cA
      go_wp2_with fail
      refine (cW _).mono ?_
      rintro r w4 ⟨rfl, rfl⟩
      go_wp2
      go_ret
      exact ⟨rfl, B3⟩
  | none =>
    have he := hap ha
    rw [he] at cA
    rw [show M.optZ none = -1 from rfl]
    clear he ha hlt hap hwl cW
    cases hb : M.chk t.data.toList with
    | some j =>
      rw [hb] at cA
      rw [show M.optZ (Option.map (· + s.size) (some j)) = (j : Int) + (s.size : Int) from by simp [M.optZ]] at cA
      rw [show M.optZ (some j) = (j : Int) from rfl]
      have hj := htl j (by omega) hb
      have hj0 : decide ((0 : Int) ≤ (j : Int)) = true := by simp
      clear hb htl
      go_wp2_with fail
      refine (cA _ T3).mono ?_
      rintro r w4 ⟨rfl, b4⟩
      go_wp2
      go_ret
      exact ⟨rfl, B3.trans (b4.mono B3.size)⟩
    | none =>
      rw [hb] at cA
      rw [show M.optZ (Option.map (· + s.size) none) = -1 from rfl] at cA
      rw [show M.optZ none = -1 from rfl]
      clear hb htl
      go_wp2_with fail
      refine (cA _ T3).mono ?_
      rintro r w4 ⟨rfl, b4⟩
      go_wp2
      go_ret
      exact ⟨rfl, B3.trans (b4.mono B3.size)⟩

end Go.Proofs.YtnmfiadljhbmiaaDoor
