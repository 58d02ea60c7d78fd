/- The law DecTells: its walk. -/
import Derived.Test.YtomgbcgaokebjaaDoorRm
set_option linter.unusedVariables false
namespace Go.Proofs.YtomgbcgaokebjaaDoor
open Go.RowKit

set_option maxRecDepth 100000 in
set_option maxHeartbeats 4000000 in
theorem tells_any (k : Int) (n : Bool) (D E : ByteArray) (neg : Bool) (A F X s : ByteArray) (w : World) (he : Env w) (hD : D.size ≤ maxLen) (hE : E.size ≤ maxLen) (hA : A.size ≤ maxLen) (hF : F.size ≤ maxLen) (hX : X.size ≤ maxLen) (hs : s.size ≤ maxLen) :
    Calls Tryd.prog 3 #[dV k n D E, .bool neg, .string A, .string F, .string X, .string s] w fun r w' => r = .returned (.bool true) ∧ Below w.heap.size w w' := by
  unfold maxLen at hD hE hA hF hX hs
  have hD2 : D.size ≤ 9223372036854775807 := by omega
  have hE2 : E.size ≤ 9223372036854775807 := by omega
  have hA2 : A.size ≤ 9223372036854775807 := by omega
  have hF2 : F.size ≤ 9223372036854775807 := by omega
  have hX2 : X.size ≤ 9223372036854775807 := by omega
  have hs2 : s.size ≤ 9223372036854775807 := by omega
  clear hD hE hA hF hX hs
  go_enter Tryd.func3, Tryd.ntmps3
  go_wp2_with fail
  refine (known_any _ (env_new he _)).mono ?_
  rintro r w1 ⟨rfl, hb1⟩
  have K1 := (Blk.made w k n D E).next hb1
  have B1 : Below w.heap.size w w1 := below_new hb1
  have T1 := he.next B1
  clear hb1
  obtain ⟨g0, hg0⟩ : ∃ g, w.heap.size = g := ⟨_, rfl⟩
  rw [hg0] at K1 B1 ⊢
  have HG0 := Lib.hid hg0
  clear hg0
  have lt0 := K1.lt
  obtain ⟨k0, k1, k2, k3⟩ := K1.cells
  by_cases h1 : 60 < D.size
  · have d1 : decide ((60 : Int) < (D.size : Int)) = true := decide_eq_true (by omega)
    go_wp2
    go_ret
    exact ⟨rfl, HG0.out ▸ B1⟩
  have d1 : decide ((60 : Int) < (D.size : Int)) = false := decide_eq_false (by omega)
  by_cases h2 : 60 < E.size
  · have d2 : decide ((60 : Int) < (E.size : Int)) = true := decide_eq_true (by omega)
    go_wp2
    go_ret
    exact ⟨rfl, HG0.out ▸ B1⟩
  have d2 : decide ((60 : Int) < (E.size : Int)) = false := decide_eq_false (by omega)
  by_cases h3 : 60 < A.size
  · have d3 : decide ((60 : Int) < (A.size : Int)) = true := decide_eq_true (by omega)
    go_wp2
    go_ret
    exact ⟨rfl, HG0.out ▸ B1⟩
  have d3 : decide ((60 : Int) < (A.size : Int)) = false := decide_eq_false (by omega)
  by_cases h4 : 60 < F.size
  · have d4 : decide ((60 : Int) < (F.size : Int)) = true := decide_eq_true (by omega)
    go_wp2
    go_ret
    exact ⟨rfl, HG0.out ▸ B1⟩
  have d4 : decide ((60 : Int) < (F.size : Int)) = false := decide_eq_false (by omega)
  by_cases h5 : 60 < X.size
  · have d5 : decide ((60 : Int) < (X.size : Int)) = true := decide_eq_true (by omega)
    go_wp2
    go_ret
    exact ⟨rfl, HG0.out ▸ B1⟩
  have d5 : decide ((60 : Int) < (X.size : Int)) = false := decide_eq_false (by omega)
  by_cases h6 : 150 < s.size
  · have d6 : decide ((150 : Int) < (s.size : Int)) = true := decide_eq_true (by omega)
    go_wp2
    go_ret
    exact ⟨rfl, HG0.out ▸ B1⟩
  have d6 : decide ((150 : Int) < (s.size : Int)) = false := decide_eq_false (by omega)
  obtain ⟨ka, na, Da, Ea, oa, zDa, zEa, cA, cB⟩ := make_agree neg A F X (by omega) (by omega) (by omega)
  obtain ⟨kx, nx, Dx, Ex, ox, cX, cY⟩ := parse_agree s (by omega)
  have e1 := eqG
  have e2 := eql4 ka ka na na Da Da Ea Ea
  have e3 := eql4 kx kx nx nx Dx Dx Ex Ex
  rw [decide_eq_true ⟨rfl, rfl, rfl, rfl⟩] at e2 e3
  have zD : D.size ≤ 1000 := by omega
  have zE : E.size ≤ 1000 := by omega
  obtain ⟨PR, hPR⟩ : ∃ PR : Int → Bool → ByteArray → ByteArray → ByteArray, ∀ k n D E, bA (M.out k n D.data.toList E.data.toList) = PR k n D E := ⟨fun k n D E => bA (M.out k n D.data.toList E.data.toList), fun _ _ _ _ => rfl⟩
  have c15 := fun (k : Int) (n : Bool) (D E : ByteArray) (hD : D.size ≤ 1000) (hE : E.size ≤ 1000) W (hW : Tab W) => print_any k n D E W hW hD hE
  have c16 := fun (k : Int) (n : Bool) (D E : ByteArray) (hD : D.size ≤ 1000) (hE : E.size ≤ 1000) W => rprint_any k n D E W hD hE
  have c13 := fun W (hW : Tab W) => goodD_any k n D E W hW zD zE
  have c14 := fun W => rdec_any k n D E W zD zE
  simp only [hPR] at c15 c16
  generalize M.decB k n D.data.toList E.data.toList = gd at *
  clear hPR
  clear h1 h2 h3 h4 h5 h6
  go_wp2_with fail
  refine (cA _ T1.1).mono ?_
  rintro r w2 ⟨rfl, hb2⟩
  have K2 := K1.next hb2
  have B2 : Below w.heap.size w w2 := (HG0.out ▸ B1).trans (hb2.mono (HG0.out ▸ B1).size)
  clear hb2 K1 B1 T1 k0 k1 k2 k3 lt0 d1 d2 d3 d4 d5 d6 cA
  go_wp2_with fail
  refine (cB _).mono ?_
  rintro r w3 ⟨rfl, hb3⟩
  have K3 := K2.over hb3
  have KA3 := (Blk.made w2 ka na Da Ea).next hb3
  have B3 : Below w.heap.size w w3 := below_over B2 hb3
  have T3 := he.next B3
  clear hb3 K2 B2 cB
  obtain ⟨ga, hga⟩ : ∃ g, w2.heap.size = g := ⟨_, rfl⟩
  rw [hga] at KA3 ⊢
  clear hga
  go_wp2_with fail
  refine (cX _ (env_new T3 _)).mono ?_
  rintro r w4 ⟨rfl, hb4⟩
  have K4 := K3.over hb4
  have KA4 := KA3.over hb4
  have KB4 := (Blk.made w3 ka na Da Ea).next hb4
  have B4 : Below w.heap.size w w4 := below_over B3 hb4
  clear hb4 K3 KA3 B3 T3 cX
  obtain ⟨gb, hgb⟩ : ∃ g, w3.heap.size = g := ⟨_, rfl⟩
  rw [hgb] at KB4 ⊢
  clear hgb
  go_wp2_with fail
  refine (cY _).mono ?_
  rintro r w5 ⟨rfl, hb5⟩
  have K5 := K4.over hb5
  have KA5 := KA4.over hb5
  have KB5 := KB4.over hb5
  have KX5 := (Blk.made w4 kx nx Dx Ex).next hb5
  have B5 : Below w.heap.size w w5 := below_over B4 hb5
  clear hb5 K4 KA4 KB4 B4 cY
  obtain ⟨gx, hgx⟩ : ∃ g, w4.heap.size = g := ⟨_, rfl⟩
  rw [hgx] at KX5 ⊢
  clear hgx
  go_wp2_with fail
  have K6 := K5.alloc' (cD kx nx Dx Ex)
  have KA6 := KA5.alloc' (cD kx nx Dx Ex)
  have KB6 := KB5.alloc' (cD kx nx Dx Ex)
  have KX6 := KX5.alloc' (cD kx nx Dx Ex)
  have KY6 := Blk.made w5 kx nx Dx Ex
  have B6 := B5.alloc B5.size (cD kx nx Dx Ex)
  clear K5 KA5 KB5 KX5 B5
  generalize w5.heap.size = gy at *
  generalize w5.alloc (cD kx nx Dx Ex) = W0 at *
  have T6 := he.next B6
  have hS2 : ∀ w', Below W0.heap.size W0 w' → (w'.cell? ⟨g0, 0, none⟩ = some (.int .i64 k) ∧ w'.cell? ⟨g0, 1, none⟩ = some (.bool n) ∧ w'.cell? ⟨g0, 2, none⟩ = some (.string D) ∧ w'.cell? ⟨g0, 3, none⟩ = some (.string E) ∧ w'.cell? ⟨ga, 0, none⟩ = some (.int .i64 ka) ∧ w'.cell? ⟨ga, 1, none⟩ = some (.bool na) ∧ w'.cell? ⟨ga, 2, none⟩ = some (.string Da) ∧ w'.cell? ⟨ga, 3, none⟩ = some (.string Ea) ∧ w'.cell? ⟨gb, 0, none⟩ = some (.int .i64 ka) ∧ w'.cell? ⟨gb, 1, none⟩ = some (.bool na) ∧ w'.cell? ⟨gb, 2, none⟩ = some (.string Da) ∧ w'.cell? ⟨gb, 3, none⟩ = some (.string Ea) ∧ w'.cell? ⟨gx, 0, none⟩ = some (.int .i64 kx) ∧ w'.cell? ⟨gx, 1, none⟩ = some (.bool nx) ∧ w'.cell? ⟨gx, 2, none⟩ = some (.string Dx) ∧ w'.cell? ⟨gx, 3, none⟩ = some (.string Ex) ∧ w'.cell? ⟨gy, 0, none⟩ = some (.int .i64 kx) ∧ w'.cell? ⟨gy, 1, none⟩ = some (.bool nx) ∧ w'.cell? ⟨gy, 2, none⟩ = some (.string Dx) ∧ w'.cell? ⟨gy, 3, none⟩ = some (.string Ex) ∧ Below W0.heap.size W0 w') := by
    intro w' hb
    obtain ⟨a0, a1, a2, a3⟩ := (K6.next hb).cells
    obtain ⟨b0, b1, b2, b3⟩ := (KA6.next hb).cells
    obtain ⟨c0, c1, c2, c3⟩ := (KB6.next hb).cells
    obtain ⟨d0, d1, d2, d3⟩ := (KX6.next hb).cells
    obtain ⟨f0, f1, f2, f3⟩ := (KY6.next hb).cells
    exact ⟨a0, a1, a2, a3, b0, b1, b2, b3, c0, c1, c2, c3, d0, d1, d2, d3, f0, f1, f2, f3, hb⟩
  clear K6 KA6 KB6 KX6 KY6
  go_region_held3 (fun w' => w'.cell? ⟨g0, 0, none⟩ = some (.int .i64 k) ∧ w'.cell? ⟨g0, 1, none⟩ = some (.bool n) ∧ w'.cell? ⟨g0, 2, none⟩ = some (.string D) ∧ w'.cell? ⟨g0, 3, none⟩ = some (.string E) ∧ w'.cell? ⟨ga, 0, none⟩ = some (.int .i64 ka) ∧ w'.cell? ⟨ga, 1, none⟩ = some (.bool na) ∧ w'.cell? ⟨ga, 2, none⟩ = some (.string Da) ∧ w'.cell? ⟨ga, 3, none⟩ = some (.string Ea) ∧ w'.cell? ⟨gb, 0, none⟩ = some (.int .i64 ka) ∧ w'.cell? ⟨gb, 1, none⟩ = some (.bool na) ∧ w'.cell? ⟨gb, 2, none⟩ = some (.string Da) ∧ w'.cell? ⟨gb, 3, none⟩ = some (.string Ea) ∧ w'.cell? ⟨gx, 0, none⟩ = some (.int .i64 kx) ∧ w'.cell? ⟨gx, 1, none⟩ = some (.bool nx) ∧ w'.cell? ⟨gx, 2, none⟩ = some (.string Dx) ∧ w'.cell? ⟨gx, 3, none⟩ = some (.string Ex) ∧ w'.cell? ⟨gy, 0, none⟩ = some (.int .i64 kx) ∧ w'.cell? ⟨gy, 1, none⟩ = some (.bool nx) ∧ w'.cell? ⟨gy, 2, none⟩ = some (.string Dx) ∧ w'.cell? ⟨gy, 3, none⟩ = some (.string Ex) ∧ Below W0.heap.size W0 w')
    (first | exact hS | exact hS2 _ (Below.refl _ _).drew)
    (first
      | (go_at_call 13; refine (lift_b hS2 (fun _ h => h.2.2.2.2.2.2.2.2.2.2.2.2.2.2.2.2.2.2.2.2) (c13 _ (T6.1.next (‹_ ∧ _ ∧ _ ∧ _ ∧ _ ∧ _ ∧ _ ∧ _ ∧ _ ∧ _ ∧ _ ∧ _ ∧ _ ∧ _ ∧ _ ∧ _ ∧ _ ∧ _ ∧ _ ∧ _ ∧ Below _ _ _›).2.2.2.2.2.2.2.2.2.2.2.2.2.2.2.2.2.2.2.2)) ?_).mono ?_; (exact ‹_ ∧ _ ∧ _ ∧ _ ∧ _ ∧ _ ∧ _ ∧ _ ∧ _ ∧ _ ∧ _ ∧ _ ∧ _ ∧ _ ∧ _ ∧ _ ∧ _ ∧ _ ∧ _ ∧ _ ∧ Below _ _ _›); rintro r w7 ⟨rfl, hS⟩)
      | (go_at_call 14; refine (lift_b hS2 (fun _ h => h.2.2.2.2.2.2.2.2.2.2.2.2.2.2.2.2.2.2.2.2) (c14 _) ?_).mono ?_; (exact ‹_ ∧ _ ∧ _ ∧ _ ∧ _ ∧ _ ∧ _ ∧ _ ∧ _ ∧ _ ∧ _ ∧ _ ∧ _ ∧ _ ∧ _ ∧ _ ∧ _ ∧ _ ∧ _ ∧ _ ∧ Below _ _ _›); rintro r w7 ⟨rfl, hS⟩)
      | (go_at_call 15; refine (lift_b hS2 (fun _ h => h.2.2.2.2.2.2.2.2.2.2.2.2.2.2.2.2.2.2.2.2) (c15 _ _ _ _ (by assumption) (by assumption) _ (T6.1.next (‹_ ∧ _ ∧ _ ∧ _ ∧ _ ∧ _ ∧ _ ∧ _ ∧ _ ∧ _ ∧ _ ∧ _ ∧ _ ∧ _ ∧ _ ∧ _ ∧ _ ∧ _ ∧ _ ∧ _ ∧ Below _ _ _›).2.2.2.2.2.2.2.2.2.2.2.2.2.2.2.2.2.2.2.2)) ?_).mono ?_; (exact ‹_ ∧ _ ∧ _ ∧ _ ∧ _ ∧ _ ∧ _ ∧ _ ∧ _ ∧ _ ∧ _ ∧ _ ∧ _ ∧ _ ∧ _ ∧ _ ∧ _ ∧ _ ∧ _ ∧ _ ∧ Below _ _ _›); rintro r w7 ⟨rfl, hS⟩)
      | (go_at_call 16; refine (lift_b hS2 (fun _ h => h.2.2.2.2.2.2.2.2.2.2.2.2.2.2.2.2.2.2.2.2) (c16 _ _ _ _ (by assumption) (by assumption) _) ?_).mono ?_; (exact ‹_ ∧ _ ∧ _ ∧ _ ∧ _ ∧ _ ∧ _ ∧ _ ∧ _ ∧ _ ∧ _ ∧ _ ∧ _ ∧ _ ∧ _ ∧ _ ∧ _ ∧ _ ∧ _ ∧ _ ∧ Below _ _ _›); rintro r w7 ⟨rfl, hS⟩))
  have B7 : Below w.heap.size w w7 := B6.trans (hS.2.2.2.2.2.2.2.2.2.2.2.2.2.2.2.2.2.2.2.2.mono B6.size)
  go_wp2
  go_ret
  exact ⟨rfl, B7⟩
end Go.Proofs.YtomgbcgaokebjaaDoor
