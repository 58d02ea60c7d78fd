/- The law DecBack: its walk. -/
import Derived.Test.YtomgbcgaokebjaaDoorNc
set_option linter.unusedVariables false
namespace Go.Proofs.YtomgbcgaokebjaaDoor
open Go.RowKit

/-- What Parse answers, of whatever text: a decimal whose text it is, or nought and false. -/
theorem parse_or (s : ByteArray) (hs : s.size ≤ 200) : (∃ k n D E, D.size ≤ 200 ∧ E.size ≤ 200 ∧ M.decB k n D.data.toList E.data.toList = true ∧ s = bA (M.prt k n D.data.toList E.data.toList) ∧ ∀ W, Env W → Calls Tryd.prog 11 #[.string s] W fun e w' => e = .returned (.tuple #[dV k n D E, .bool true]) ∧ Below W.heap.size W w') ∨
    (NoDec s.data.toList ∧ ∀ W, Env W → Calls Tryd.prog 11 #[.string s] W fun e w' => e = .returned (.tuple #[dZ, .bool false]) ∧ Below W.heap.size W w') := by
  rcases dec_or s.data.toList with ⟨k, n, D, E, hb, he⟩ | h
  · left
    have hl := prt_len hb
    rw [he, ← sz_list] at hl
    refine ⟨k, n, bA D, bA E, by rw [bA_size]; omega, by rw [bA_size]; omega, by rw [bA_toList, bA_toList]; exact hb, by rw [bA_toList, bA_toList, he, bA_of], fun W hW => ?_⟩
    exact parse_yes k n (bA D) (bA E) s hs (by rw [bA_size]; omega) (by rw [bA_size]; omega) (by rw [bA_toList, bA_toList]; exact hb) (by rw [bA_toList, bA_toList, he]) W hW
  · exact Or.inr ⟨h, fun W hW => parse_no s W hW hs h⟩
set_option maxRecDepth 100000 in
set_option maxHeartbeats 2000000 in
theorem back_any (k : Int) (n : Bool) (D E s : ByteArray) (w : World) (he : Env w) (hD : D.size ≤ maxLen) (hE : E.size ≤ maxLen) (hs : s.size ≤ maxLen) :
    Calls Tryd.prog 4 #[dV k n D E, .string s] w fun r w' => r = .returned (.bool true) ∧ Below w.heap.size w w' := by
  unfold maxLen at hD hE hs
  have hD2 : D.size ≤ 9223372036854775807 := by omega
  have hE2 : E.size ≤ 9223372036854775807 := by omega
  have hs2 : s.size ≤ 9223372036854775807 := by omega
  clear hD hE hs
  go_enter Tryd.func4, Tryd.ntmps4
  go_wp2_with fail
  refine (known_any _ (env_new he _)).mono ?_
  rintro r w1 ⟨rfl, hb1⟩
  have K1 := (Blk.made w k n D E).next hb1
  have B1 : Below w.heap.size w w1 := below_new hb1
  have T1 := he.next B1
  clear hb1
  obtain ⟨g0, hg0⟩ : ∃ g, w.heap.size = g := ⟨_, rfl⟩
  rw [hg0] at K1 B1 ⊢
  have HG0 := Lib.hid hg0
  clear hg0
  have lt0 := K1.lt
  obtain ⟨k0, k1, k2, k3⟩ := K1.cells
  by_cases h1 : 60 < D.size
  · have d1 : decide ((60 : Int) < (D.size : Int)) = true := decide_eq_true (by omega)
    go_wp2
    go_ret
    exact ⟨rfl, HG0.out ▸ B1⟩
  have d1 : decide ((60 : Int) < (D.size : Int)) = false := decide_eq_false (by omega)
  by_cases h2 : 60 < E.size
  · have d2 : decide ((60 : Int) < (E.size : Int)) = true := decide_eq_true (by omega)
    go_wp2
    go_ret
    exact ⟨rfl, HG0.out ▸ B1⟩
  have d2 : decide ((60 : Int) < (E.size : Int)) = false := decide_eq_false (by omega)
  by_cases h3 : 150 < s.size
  · have d3 : decide ((150 : Int) < (s.size : Int)) = true := decide_eq_true (by omega)
    go_wp2
    go_ret
    exact ⟨rfl, HG0.out ▸ B1⟩
  have d3 : decide ((150 : Int) < (s.size : Int)) = false := decide_eq_false (by omega)
  have cP := fun W (hW : Tab W) => print_any k n D E W hW (by omega) (by omega)
  have cGd := fun W (hW : Tab W) => goodD_any k n D E W hW (by omega) (by omega)
  have e1 := eqG
  have e0 := eql4 0 0 false false ⟨#[]⟩ ⟨#[]⟩ ⟨#[]⟩ ⟨#[]⟩
  rw [decide_eq_true ⟨rfl, rfl, rfl, rfl⟩] at e0
  have hsec := parse_or s (by omega)
  have eself := neq4 k k n n D D E E
  rw [decide_eq_true ⟨rfl, rfl, rfl, rfl⟩, Bool.not_true] at eself
  have hfirst : ∃ (kx : Int) (nx : Bool) (Dx Ex : ByteArray), (M.decB k n D.data.toList E.data.toList = true → ∀ w, (binOp .neq 23 (dV kx nx Dx Ex) (dV k n D E)).run Tryd.prog w = .ok (.bool false) w) ∧ ∀ W, Env W → Calls Tryd.prog 11 #[.string (bA (M.out k n D.data.toList E.data.toList))] W fun e w' => e = .returned (.tuple #[dV kx nx Dx Ex, .bool (M.decB k n D.data.toList E.data.toList)]) ∧ Below W.heap.size W w' := by
    cases hb : M.decB k n D.data.toList E.data.toList
    · refine ⟨0, false, ⟨#[]⟩, ⟨#[]⟩, (fun h => by cases h), fun W hW => ?_⟩
      rw [M.out_no hb]
      exact parse_no ⟨#[]⟩ W hW (by decide) nodec_empty
    · refine ⟨k, n, D, E, fun _ => eself, fun W hW => ?_⟩
      rw [M.out_yes hb]
      have hl := prt_len hb
      rw [← sz_list, ← sz_list] at hl
      exact parse_yes k n D E _ (by rw [bA_size]; omega) (by omega) (by omega) hb (by rw [bA_toList]) W hW
  obtain ⟨kx, nx, Dx, Ex, ex, cX⟩ := hfirst
  generalize bA (M.out k n D.data.toList E.data.toList) = P at *
  generalize M.decB k n D.data.toList E.data.toList = g at *
  clear eself
  go_wp2_with fail
  refine (cP _ T1.1).mono ?_
  rintro r w2 ⟨rfl, hb2⟩
  have K2 := K1.next hb2
  have B2 : Below w.heap.size w w2 := (HG0.out ▸ B1).trans (hb2.mono (HG0.out ▸ B1).size)
  have T2 := he.next B2
  clear hb2 K1 B1 T1 k0 k1 k2 k3 lt0 cP
  go_wp2_with fail
  refine (cX _ T2).mono ?_
  rintro r w3 ⟨rfl, hb3⟩
  have K3 := K2.next hb3
  have B3 : Below w.heap.size w w3 := B2.trans (hb3.mono B2.size)
  have T3 := he.next B3
  clear hb3 K2 B2 T2 cX
  have lt0 := K3.lt
  obtain ⟨k0, k1, k2, k3⟩ := K3.cells
  go_wp2_with fail
  refine (cGd _ (env_new T3 _).1).mono ?_
  rintro r w4 ⟨rfl, hb4⟩
  have K4 := K3.over hb4
  have X4 := (Blk.made w3 kx nx Dx Ex).next hb4
  have B4 : Below w.heap.size w w4 := below_over B3 hb4
  have T4 := he.next B4
  clear hb4 K3 B3 T3 cGd k0 k1 k2 k3 lt0
  obtain ⟨gx, hgx⟩ : ∃ g, w3.heap.size = g := ⟨_, rfl⟩
  rw [hgx] at X4 ⊢
  clear hgx
  have lt0 := K4.lt
  have lt1 := X4.lt
  obtain ⟨k0, k1, k2, k3⟩ := K4.cells
  obtain ⟨x0, x1, x2, x3⟩ := X4.cells
  clear K4 X4
  cases g
  · clear ex
    rcases hsec with ⟨ky, ny, Dy, Ey, hDy, hEy, hby, hsy, cY⟩ | ⟨_, cY⟩
    · have cG2 := fun W (hW : Tab W) => goodD_any ky ny Dy Ey W hW (by omega) (by omega)
      have cP2 := fun W (hW : Tab W) => print_any ky ny Dy Ey W hW (by omega) (by omega)
      rw [hby] at cG2
      rw [M.out_yes hby, ← hsy] at cP2
      clear hsy hby
      go_wp2_with fail
      refine (cY _ T4).mono ?_
      rintro r w5 ⟨rfl, hb5⟩
      have B5 : Below w.heap.size w w5 := B4.trans (hb5.mono B4.size)
      have T5 := he.next B5
      clear hb5 B4 T4 k0 k1 k2 k3 x0 x1 x2 x3 lt0 lt1
      go_wp2_with fail
      refine (cG2 _ (env_new T5 _).1).mono ?_
      rintro r w6 ⟨rfl, hb6⟩
      have Y6 := (Blk.made w5 ky ny Dy Ey).next hb6
      have B6 : Below w.heap.size w w6 := below_over B5 hb6
      have T6 := he.next B6
      clear hb6 B5 T5
      obtain ⟨gy, hgy⟩ : ∃ g, w5.heap.size = g := ⟨_, rfl⟩
      rw [hgy] at Y6 ⊢
      clear hgy
      have lt0 := Y6.lt
      obtain ⟨k0, k1, k2, k3⟩ := Y6.cells
      go_wp2_with fail
      refine (cP2 _ T6.1).mono ?_
      rintro r w7 ⟨rfl, hb7⟩
      have B7 : Below w.heap.size w w7 := B6.trans (hb7.mono B6.size)
      go_wp2
      go_ret
      exact ⟨rfl, B7⟩
    · go_wp2_with fail
      refine (cY _ T4).mono ?_
      rintro r w5 ⟨rfl, hb5⟩
      have B5 : Below w.heap.size w w5 := B4.trans (hb5.mono B4.size)
      clear hb5 B4 T4 k0 k1 k2 k3 x0 x1 x2 x3 lt0 lt1
      go_wp2
      go_ret
      exact ⟨rfl, B5.alloc B5.size _⟩
  · have ex' := ex rfl
    clear ex
    rcases hsec with ⟨ky, ny, Dy, Ey, hDy, hEy, hby, hsy, cY⟩ | ⟨_, cY⟩
    · have cG2 := fun W (hW : Tab W) => goodD_any ky ny Dy Ey W hW (by omega) (by omega)
      have cP2 := fun W (hW : Tab W) => print_any ky ny Dy Ey W hW (by omega) (by omega)
      rw [hby] at cG2
      rw [M.out_yes hby, ← hsy] at cP2
      clear hsy hby
      go_wp2_with fail
      refine (cY _ T4).mono ?_
      rintro r w5 ⟨rfl, hb5⟩
      have B5 : Below w.heap.size w w5 := B4.trans (hb5.mono B4.size)
      have T5 := he.next B5
      clear hb5 B4 T4 k0 k1 k2 k3 x0 x1 x2 x3 lt0 lt1
      go_wp2_with fail
      refine (cG2 _ (env_new T5 _).1).mono ?_
      rintro r w6 ⟨rfl, hb6⟩
      have Y6 := (Blk.made w5 ky ny Dy Ey).next hb6
      have B6 : Below w.heap.size w w6 := below_over B5 hb6
      have T6 := he.next B6
      clear hb6 B5 T5
      obtain ⟨gy, hgy⟩ : ∃ g, w5.heap.size = g := ⟨_, rfl⟩
      rw [hgy] at Y6 ⊢
      clear hgy
      have lt0 := Y6.lt
      obtain ⟨k0, k1, k2, k3⟩ := Y6.cells
      go_wp2_with fail
      refine (cP2 _ T6.1).mono ?_
      rintro r w7 ⟨rfl, hb7⟩
      have B7 : Below w.heap.size w w7 := B6.trans (hb7.mono B6.size)
      go_wp2
      go_ret
      exact ⟨rfl, B7⟩
    · go_wp2_with fail
      refine (cY _ T4).mono ?_
      rintro r w5 ⟨rfl, hb5⟩
      have B5 : Below w.heap.size w w5 := B4.trans (hb5.mono B4.size)
      clear hb5 B4 T4 k0 k1 k2 k3 x0 x1 x2 x3 lt0 lt1
      go_wp2
      go_ret
      exact ⟨rfl, B5.alloc B5.size _⟩
end Go.Proofs.YtomgbcgaokebjaaDoor
