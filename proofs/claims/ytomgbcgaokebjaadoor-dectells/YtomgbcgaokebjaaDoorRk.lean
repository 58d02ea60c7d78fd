/- Walk of targumref4's Parse. -/
import Derived.Test.YtomgbcgaokebjaaDoorRj
import Derived.Test.YtomgbcgaokebjaaDoorNc
import Derived.BigRegion
set_option linter.unusedVariables false
namespace Go.Proofs.YtomgbcgaokebjaaDoor
open Go.RowKit

/-- The document's Parse finds the point. -/
def Pt (t : ByteArray) (p : Nat) : Prop := p ≤ t.size ∧ (∀ j (h : j < t.size), j < p → t[j].toNat ≠ 46) ∧ (∀ h : p < t.size, t[p].toNat = 46)
/-- The text is none of the three that have no digits. -/
def Odd3 (s : ByteArray) : Prop := (s.toList == [46, 110, 97, 110]) = false ∧ (s.toList == [46, 105, 110, 102]) = false ∧ (s.toList == [45, 46, 105, 110, 102]) = false
abbrev cZ : Obj := .cells #[.int .i64 0, .bool false, .string ⟨#[]⟩, .string ⟨#[]⟩] 23
abbrev cD (k : Int) (n : Bool) (D E : ByteArray) : Obj := .cells #[.int .i64 k, .bool n, .string D, .string E] 23
theorem two_r (w : World) (k : Int) (n : Bool) (D E : ByteArray) : Blk ((w.alloc cZ).alloc (cD k n D E)) w.heap.size 0 false ⟨#[]⟩ ⟨#[]⟩ := (Blk.made w 0 false ⟨#[]⟩ ⟨#[]⟩).alloc' _
theorem two_d (w : World) (k : Int) (n : Bool) (D E : ByteArray) : Blk ((w.alloc cZ).alloc (cD k n D E)) (w.heap.size + 1) k n D E := by
  have := Blk.made (w.alloc cZ) k n D E
  rwa [show (w.alloc cZ).heap.size = w.heap.size + 1 by simp] at this
theorem two_b (w : World) (k : Int) (n : Bool) (D E : ByteArray) : Below w.heap.size w ((w.alloc cZ).alloc (cD k n D E)) := ((Below.refl _ _).alloc (Nat.le_refl _) _).alloc (by simp) _
theorem Blk.drew' {w : World} {g : Nat} {k : Int} {n : Bool} {D E : ByteArray} (h : Blk w g k n D E) : Blk w.drew g k n D E := h
set_option maxRecDepth 100000 in
set_option maxHeartbeats 2000000 in
theorem rp_f1 (s : ByteArray) (p : Nat) (w : World) (hs : s.size ≤ 200) (ho : Odd3 s) (h0 : 0 < s.size) (hn : ((s[0].toNat : Int) == 45) = false) (hp : Pt s p) (h4 : s.size < p + 4) :
    Calls Tryd.prog 12 #[.string s] w fun e w' => e = .returned (.tuple #[dZ, .bool false]) ∧ Below w.heap.size w w' := by
  obtain ⟨o1, o2, o3⟩ := ho
  obtain ⟨hp1, hp2, hp3⟩ := hp
  have HP2 := Lib.hid hp2
  have HP3 := Lib.hid hp3
  clear hp2 hp3
  go_enter Tryd.func12, Tryd.ntmps12
  go_wp2_with fail
  go_loop [6] (fun kv => ∃ k : Nat, kv = .int .i64 k ∧ k ≤ p) (fun kv => p - (intOf kv).toNat)
  case atStart => exact ⟨0, rfl, Nat.zero_le _⟩
  case round =>
    obtain ⟨k, rfl, hk⟩ := hrel
    by_cases hkp : k < p
    · have hkd : decide (k < s.size) = true := decide_eq_true (by omega)
      have hkl : k < s.size := by omega
      have hk46 := HP2.out k hkl hkp
      have hkb : ((s[k].toNat : Int) != 46) = true := by simp; omega
      clear hk46
      go_wp2
      go_round
      case rel => exact ⟨k + 1, by go_num, by omega⟩
      case measure => simp [intOf]; omega
    · obtain rfl : k = p := by omega
      have d4 : decide ((s.size : Int) - (k : Int) < 4) = true := decide_eq_true (by omega)
      by_cases hkl : k < s.size
      · have hkd : decide (k < s.size) = true := decide_eq_true hkl
        have hp4 := HP3.out hkl
        go_wp2
        exact bodyPost_ret (ret_dec Tryd.results12 _ rfl rfl (two_r w 0 false ⟨#[]⟩ ⟨#[]⟩)) rfl ⟨rfl, two_b w 0 false ⟨#[]⟩ ⟨#[]⟩⟩
      · have hkd : decide (k < s.size) = false := decide_eq_false hkl
        go_wp2
        exact bodyPost_ret (ret_dec Tryd.results12 _ rfl rfl (two_r w 0 false ⟨#[]⟩ ⟨#[]⟩)) rfl ⟨rfl, two_b w 0 false ⟨#[]⟩ ⟨#[]⟩⟩
set_option maxRecDepth 100000 in
set_option maxHeartbeats 2000000 in
theorem rp_f2 (s : ByteArray) (p : Nat) (w : World) (hs : s.size ≤ 200) (ho : Odd3 s) (h0 : 0 < s.size) (hn : ((s[0].toNat : Int) == 45) = false) (hp : Pt s p) (h4 : p + 4 ≤ s.size) (hb : (((s[p + 1]'(by omega)).toNat : Int) != 101) = true) :
    Calls Tryd.prog 12 #[.string s] w fun e w' => e = .returned (.tuple #[dZ, .bool false]) ∧ Below w.heap.size w w' := by
  obtain ⟨o1, o2, o3⟩ := ho
  obtain ⟨hp1, hp2, hp3⟩ := hp
  have HP2 := Lib.hid hp2
  have HP3 := Lib.hid hp3
  clear hp2 hp3
  go_enter Tryd.func12, Tryd.ntmps12
  go_wp2_with fail
  go_loop [6] (fun kv => ∃ k : Nat, kv = .int .i64 k ∧ k ≤ p) (fun kv => p - (intOf kv).toNat)
  case atStart => exact ⟨0, rfl, Nat.zero_le _⟩
  case round =>
    obtain ⟨k, rfl, hk⟩ := hrel
    by_cases hkp : k < p
    · have hkd : decide (k < s.size) = true := decide_eq_true (by omega)
      have hkl : k < s.size := by omega
      have hk46 := HP2.out k hkl hkp
      have hkb : ((s[k].toNat : Int) != 46) = true := by simp; omega
      clear hk46
      go_wp2
      go_round
      case rel => exact ⟨k + 1, by go_num, by omega⟩
      case measure => simp [intOf]; omega
    · obtain rfl : k = p := by omega
      have hkl : k < s.size := by omega
      have hkd : decide (k < s.size) = true := decide_eq_true hkl
      have hp4 := HP3.out hkl
      have d4 : decide ((s.size : Int) - (k : Int) < 4) = false := decide_eq_false (by omega)
      go_wp2
      exact bodyPost_ret (ret_dec Tryd.results12 _ rfl rfl (two_r w 0 false ⟨#[]⟩ ⟨#[]⟩)) rfl ⟨rfl, two_b w 0 false ⟨#[]⟩ ⟨#[]⟩⟩
set_option maxRecDepth 100000 in
set_option maxHeartbeats 2000000 in
theorem rp_f3 (s : ByteArray) (p : Nat) (w : World) (hs : s.size ≤ 200) (ho : Odd3 s) (h0 : 0 < s.size) (hn : ((s[0].toNat : Int) == 45) = false) (hp : Pt s p) (h4 : p + 4 ≤ s.size) (hb : (s[p + 1]'(by omega)).toNat = 101) (hx : (((s[p + 2]'(by omega)).toNat : Int) != 43) = true) (hx2 : (((s[p + 2]'(by omega)).toNat : Int) != 45) = true) :
    Calls Tryd.prog 12 #[.string s] w fun e w' => e = .returned (.tuple #[dZ, .bool false]) ∧ Below w.heap.size w w' := by
  obtain ⟨o1, o2, o3⟩ := ho
  obtain ⟨hp1, hp2, hp3⟩ := hp
  have HP2 := Lib.hid hp2
  have HP3 := Lib.hid hp3
  clear hp2 hp3
  go_enter Tryd.func12, Tryd.ntmps12
  go_wp2_with fail
  go_loop [6] (fun kv => ∃ k : Nat, kv = .int .i64 k ∧ k ≤ p) (fun kv => p - (intOf kv).toNat)
  case atStart => exact ⟨0, rfl, Nat.zero_le _⟩
  case round =>
    obtain ⟨k, rfl, hk⟩ := hrel
    by_cases hkp : k < p
    · have hkd : decide (k < s.size) = true := decide_eq_true (by omega)
      have hkl : k < s.size := by omega
      have hk46 := HP2.out k hkl hkp
      have hkb : ((s[k].toNat : Int) != 46) = true := by simp; omega
      clear hk46
      go_wp2
      go_round
      case rel => exact ⟨k + 1, by go_num, by omega⟩
      case measure => simp [intOf]; omega
    · obtain rfl : k = p := by omega
      have hkl : k < s.size := by omega
      have hkd : decide (k < s.size) = true := decide_eq_true hkl
      have hp4 := HP3.out hkl
      have d4 : decide ((s.size : Int) - (k : Int) < 4) = false := decide_eq_false (by omega)
      go_wp2
      exact bodyPost_ret (ret_dec Tryd.results12 _ rfl rfl (two_r w 0 false ⟨#[]⟩ ⟨#[]⟩)) rfl ⟨rfl, two_b w 0 false ⟨#[]⟩ ⟨#[]⟩⟩
set_option maxRecDepth 100000 in
set_option maxHeartbeats 2000000 in
theorem rp_f4 (s : ByteArray) (p : Nat) (w : World) (hs : s.size ≤ 200) (ho : Odd3 s) (h0 : 0 < s.size) (hn : ((s[0].toNat : Int) == 45) = false) (hp : Pt s p) (h4 : p + 4 ≤ s.size) (hb : (s[p + 1]'(by omega)).toNat = 101) (hx : (s[p + 2]'(by omega)).toNat = 43) (D E : ByteArray) (hD : s.extract 0 p = D) (hE : s.extract (p + 3) s.size = E) (hDz : D.size ≤ 200) (hEz : E.size ≤ 200) (hE0 : 0 < E.size) (hd : M.decB 0 false D.data.toList E.data.toList = false)  :
    Calls Tryd.prog 12 #[.string s] w fun e w' => e = .returned (.tuple #[dZ, .bool false]) ∧ Below w.heap.size w w' := by
  obtain ⟨o1, o2, o3⟩ := ho
  obtain ⟨hp1, hp2, hp3⟩ := hp
  have HP2 := Lib.hid hp2
  have HP3 := Lib.hid hp3
  clear hp2 hp3
  have c1 := fun W => rdec_any 0 false D E W (by omega) (by omega)
  rw [hd] at c1
  clear hd
  go_enter Tryd.func12, Tryd.ntmps12
  go_wp2_with fail
  go_loop [6] (fun kv => ∃ k : Nat, kv = .int .i64 k ∧ k ≤ p) (fun kv => p - (intOf kv).toNat)
  case atStart => exact ⟨0, rfl, Nat.zero_le _⟩
  case round =>
    obtain ⟨k, rfl, hk⟩ := hrel
    by_cases hkp : k < p
    · have hkd : decide (k < s.size) = true := decide_eq_true (by omega)
      have hkl : k < s.size := by omega
      have hk46 := HP2.out k hkl hkp
      have hkb : ((s[k].toNat : Int) != 46) = true := by simp; omega
      clear hk46
      go_wp2
      go_round
      case rel => exact ⟨k + 1, by go_num, by omega⟩
      case measure => simp [intOf]; omega
    · obtain rfl : k = p := by omega
      have hkl : k < s.size := by omega
      have hkd : decide (k < s.size) = true := decide_eq_true hkl
      have hp4 := HP3.out hkl
      have d4 : decide ((s.size : Int) - (k : Int) < 4) = false := decide_eq_false (by omega)
      go_wp2_with fail
      go_region
      go_wp2_with fail
      refine (c1 _).mono ?_
      rintro r w1 ⟨rfl, hb1⟩
      have KR := ((two_r w 0 false D E).drew').next hb1
      have KD := ((two_d w 0 false D E).drew').next hb1
      have B0 := (two_b w 0 false D E).drew
      have B1 : Below w.heap.size w w1 := B0.trans (hb1.mono B0.size)
      clear hb1 c1 B0
      obtain ⟨g, hg⟩ : ∃ g, w.heap.size = g := ⟨_, rfl⟩
      rw [hg] at KR KD B1 ⊢
      have lr := KR.lt
      have ld := KD.lt
      obtain ⟨k0, k1, k2, k3⟩ := KR.cells
      obtain ⟨f0, f1, f2, f3⟩ := KR.fro
      obtain ⟨l0, l1, l2, l3⟩ := KD.cells
      go_wp2
      exact bodyPost_ret (ret_dec Tryd.results12 _ rfl rfl (KR.set 0 false _ _)) rfl ⟨rfl, below_set4 (hg ▸ B1) (by omega) _ _ _ _⟩
set_option maxRecDepth 100000 in
set_option maxHeartbeats 2000000 in
theorem rp_f5 (s : ByteArray) (p : Nat) (w : World) (hs : s.size ≤ 200) (ho : Odd3 s) (h0 : 0 < s.size) (hn : ((s[0].toNat : Int) == 45) = false) (hp : Pt s p) (h4 : p + 4 ≤ s.size) (hb : (s[p + 1]'(by omega)).toNat = 101) (hx : (s[p + 2]'(by omega)).toNat = 43) (D E : ByteArray) (hD : s.extract 0 p = D) (hE : s.extract (p + 3) s.size = E) (hDz : D.size ≤ 200) (hEz : E.size ≤ 200) (hE0 : 0 < E.size) (hd : M.decB 0 false D.data.toList E.data.toList = true) (hy : E[0].toNat = 45) :
    Calls Tryd.prog 12 #[.string s] w fun e w' => e = .returned (.tuple #[dZ, .bool false]) ∧ Below w.heap.size w w' := by
  obtain ⟨o1, o2, o3⟩ := ho
  obtain ⟨hp1, hp2, hp3⟩ := hp
  have HP2 := Lib.hid hp2
  have HP3 := Lib.hid hp3
  clear hp2 hp3
  have c1 := fun W => rdec_any 0 false D E W (by omega) (by omega)
  rw [hd] at c1
  clear hd
  go_enter Tryd.func12, Tryd.ntmps12
  go_wp2_with fail
  go_loop [6] (fun kv => ∃ k : Nat, kv = .int .i64 k ∧ k ≤ p) (fun kv => p - (intOf kv).toNat)
  case atStart => exact ⟨0, rfl, Nat.zero_le _⟩
  case round =>
    obtain ⟨k, rfl, hk⟩ := hrel
    by_cases hkp : k < p
    · have hkd : decide (k < s.size) = true := decide_eq_true (by omega)
      have hkl : k < s.size := by omega
      have hk46 := HP2.out k hkl hkp
      have hkb : ((s[k].toNat : Int) != 46) = true := by simp; omega
      clear hk46
      go_wp2
      go_round
      case rel => exact ⟨k + 1, by go_num, by omega⟩
      case measure => simp [intOf]; omega
    · obtain rfl : k = p := by omega
      have hkl : k < s.size := by omega
      have hkd : decide (k < s.size) = true := decide_eq_true hkl
      have hp4 := HP3.out hkl
      have d4 : decide ((s.size : Int) - (k : Int) < 4) = false := decide_eq_false (by omega)
      go_wp2_with fail
      go_region
      go_wp2_with fail
      refine (c1 _).mono ?_
      rintro r w1 ⟨rfl, hb1⟩
      have KR := ((two_r w 0 false D E).drew').next hb1
      have KD := ((two_d w 0 false D E).drew').next hb1
      have B0 := (two_b w 0 false D E).drew
      have B1 : Below w.heap.size w w1 := B0.trans (hb1.mono B0.size)
      clear hb1 c1 B0
      obtain ⟨g, hg⟩ : ∃ g, w.heap.size = g := ⟨_, rfl⟩
      rw [hg] at KR KD B1 ⊢
      have lr := KR.lt
      have ld := KD.lt
      obtain ⟨k0, k1, k2, k3⟩ := KR.cells
      obtain ⟨f0, f1, f2, f3⟩ := KR.fro
      obtain ⟨l0, l1, l2, l3⟩ := KD.cells
      go_wp2
      exact bodyPost_ret (ret_dec Tryd.results12 _ rfl rfl (KR.set 0 false _ _)) rfl ⟨rfl, below_set4 (hg ▸ B1) (by omega) _ _ _ _⟩
set_option maxRecDepth 100000 in
set_option maxHeartbeats 2000000 in
theorem rp_f6 (s : ByteArray) (p : Nat) (w : World) (hs : s.size ≤ 200) (ho : Odd3 s) (h0 : 0 < s.size) (hn : ((s[0].toNat : Int) == 45) = false) (hp : Pt s p) (h4 : p + 4 ≤ s.size) (hb : (s[p + 1]'(by omega)).toNat = 101) (hx : (s[p + 2]'(by omega)).toNat = 43) (D E : ByteArray) (hD : s.extract 0 p = D) (hE : s.extract (p + 3) s.size = E) (hDz : D.size ≤ 200) (hEz : E.size ≤ 200) (hE0 : 0 < E.size) (hd : M.decB 0 false D.data.toList E.data.toList = true) (hy : ((E[0].toNat : Int) == 45) = false) :
    Calls Tryd.prog 12 #[.string s] w fun e w' => e = .returned (.tuple #[dV 0 false D E, .bool true]) ∧ Below w.heap.size w w' := by
  obtain ⟨o1, o2, o3⟩ := ho
  obtain ⟨hp1, hp2, hp3⟩ := hp
  have HP2 := Lib.hid hp2
  have HP3 := Lib.hid hp3
  clear hp2 hp3
  have c1 := fun W => rdec_any 0 false D E W (by omega) (by omega)
  rw [hd] at c1
  clear hd
  go_enter Tryd.func12, Tryd.ntmps12
  go_wp2_with fail
  go_loop [6] (fun kv => ∃ k : Nat, kv = .int .i64 k ∧ k ≤ p) (fun kv => p - (intOf kv).toNat)
  case atStart => exact ⟨0, rfl, Nat.zero_le _⟩
  case round =>
    obtain ⟨k, rfl, hk⟩ := hrel
    by_cases hkp : k < p
    · have hkd : decide (k < s.size) = true := decide_eq_true (by omega)
      have hkl : k < s.size := by omega
      have hk46 := HP2.out k hkl hkp
      have hkb : ((s[k].toNat : Int) != 46) = true := by simp; omega
      clear hk46
      go_wp2
      go_round
      case rel => exact ⟨k + 1, by go_num, by omega⟩
      case measure => simp [intOf]; omega
    · obtain rfl : k = p := by omega
      have hkl : k < s.size := by omega
      have hkd : decide (k < s.size) = true := decide_eq_true hkl
      have hp4 := HP3.out hkl
      have d4 : decide ((s.size : Int) - (k : Int) < 4) = false := decide_eq_false (by omega)
      go_wp2_with fail
      go_region
      go_wp2_with fail
      refine (c1 _).mono ?_
      rintro r w1 ⟨rfl, hb1⟩
      have KR := ((two_r w 0 false D E).drew').next hb1
      have KD := ((two_d w 0 false D E).drew').next hb1
      have B0 := (two_b w 0 false D E).drew
      have B1 : Below w.heap.size w w1 := B0.trans (hb1.mono B0.size)
      clear hb1 c1 B0
      obtain ⟨g, hg⟩ : ∃ g, w.heap.size = g := ⟨_, rfl⟩
      rw [hg] at KR KD B1 ⊢
      have lr := KR.lt
      have ld := KD.lt
      obtain ⟨k0, k1, k2, k3⟩ := KR.cells
      obtain ⟨f0, f1, f2, f3⟩ := KR.fro
      obtain ⟨l0, l1, l2, l3⟩ := KD.cells
      go_wp2
      exact bodyPost_ret (ret_dec Tryd.results12 _ rfl rfl (KR.set 0 false D E)) rfl ⟨rfl, below_set4 (hg ▸ B1) (by omega) _ _ _ _⟩
set_option maxRecDepth 100000 in
set_option maxHeartbeats 2000000 in
theorem rp_f7 (s : ByteArray) (p : Nat) (w : World) (hs : s.size ≤ 200) (ho : Odd3 s) (h0 : 0 < s.size) (hn : ((s[0].toNat : Int) == 45) = false) (hp : Pt s p) (h4 : p + 4 ≤ s.size) (hb : (s[p + 1]'(by omega)).toNat = 101) (hx : (s[p + 2]'(by omega)).toNat = 45) (D E : ByteArray) (hD : s.extract 0 p = D) (hE : s.extract (p + 2) s.size = E) (hDz : D.size ≤ 200) (hEz : E.size ≤ 200) (hE0 : 0 < E.size) (hd : M.decB 0 false D.data.toList E.data.toList = false)  :
    Calls Tryd.prog 12 #[.string s] w fun e w' => e = .returned (.tuple #[dZ, .bool false]) ∧ Below w.heap.size w w' := by
  obtain ⟨o1, o2, o3⟩ := ho
  obtain ⟨hp1, hp2, hp3⟩ := hp
  have HP2 := Lib.hid hp2
  have HP3 := Lib.hid hp3
  clear hp2 hp3
  have c1 := fun W => rdec_any 0 false D E W (by omega) (by omega)
  rw [hd] at c1
  clear hd
  go_enter Tryd.func12, Tryd.ntmps12
  go_wp2_with fail
  go_loop [6] (fun kv => ∃ k : Nat, kv = .int .i64 k ∧ k ≤ p) (fun kv => p - (intOf kv).toNat)
  case atStart => exact ⟨0, rfl, Nat.zero_le _⟩
  case round =>
    obtain ⟨k, rfl, hk⟩ := hrel
    by_cases hkp : k < p
    · have hkd : decide (k < s.size) = true := decide_eq_true (by omega)
      have hkl : k < s.size := by omega
      have hk46 := HP2.out k hkl hkp
      have hkb : ((s[k].toNat : Int) != 46) = true := by simp; omega
      clear hk46
      go_wp2
      go_round
      case rel => exact ⟨k + 1, by go_num, by omega⟩
      case measure => simp [intOf]; omega
    · obtain rfl : k = p := by omega
      have hkl : k < s.size := by omega
      have hkd : decide (k < s.size) = true := decide_eq_true hkl
      have hp4 := HP3.out hkl
      have d4 : decide ((s.size : Int) - (k : Int) < 4) = false := decide_eq_false (by omega)
      go_wp2_with fail
      go_region
      go_wp2_with fail
      refine (c1 _).mono ?_
      rintro r w1 ⟨rfl, hb1⟩
      have KR := ((two_r w 0 false D E).drew').next hb1
      have KD := ((two_d w 0 false D E).drew').next hb1
      have B0 := (two_b w 0 false D E).drew
      have B1 : Below w.heap.size w w1 := B0.trans (hb1.mono B0.size)
      clear hb1 c1 B0
      obtain ⟨g, hg⟩ : ∃ g, w.heap.size = g := ⟨_, rfl⟩
      rw [hg] at KR KD B1 ⊢
      have lr := KR.lt
      have ld := KD.lt
      obtain ⟨k0, k1, k2, k3⟩ := KR.cells
      obtain ⟨f0, f1, f2, f3⟩ := KR.fro
      obtain ⟨l0, l1, l2, l3⟩ := KD.cells
      go_wp2
      exact bodyPost_ret (ret_dec Tryd.results12 _ rfl rfl (KR.set 0 false _ _)) rfl ⟨rfl, below_set4 (hg ▸ B1) (by omega) _ _ _ _⟩
set_option maxRecDepth 100000 in
set_option maxHeartbeats 2000000 in
theorem rp_f8 (s : ByteArray) (p : Nat) (w : World) (hs : s.size ≤ 200) (ho : Odd3 s) (h0 : 0 < s.size) (hn : ((s[0].toNat : Int) == 45) = false) (hp : Pt s p) (h4 : p + 4 ≤ s.size) (hb : (s[p + 1]'(by omega)).toNat = 101) (hx : (s[p + 2]'(by omega)).toNat = 45) (D E : ByteArray) (hD : s.extract 0 p = D) (hE : s.extract (p + 2) s.size = E) (hDz : D.size ≤ 200) (hEz : E.size ≤ 200) (hE0 : 0 < E.size) (hd : M.decB 0 false D.data.toList E.data.toList = true)  :
    Calls Tryd.prog 12 #[.string s] w fun e w' => e = .returned (.tuple #[dV 0 false D E, .bool true]) ∧ Below w.heap.size w w' := by
  obtain ⟨o1, o2, o3⟩ := ho
  obtain ⟨hp1, hp2, hp3⟩ := hp
  have HP2 := Lib.hid hp2
  have HP3 := Lib.hid hp3
  clear hp2 hp3
  have c1 := fun W => rdec_any 0 false D E W (by omega) (by omega)
  rw [hd] at c1
  clear hd
  go_enter Tryd.func12, Tryd.ntmps12
  go_wp2_with fail
  go_loop [6] (fun kv => ∃ k : Nat, kv = .int .i64 k ∧ k ≤ p) (fun kv => p - (intOf kv).toNat)
  case atStart => exact ⟨0, rfl, Nat.zero_le _⟩
  case round =>
    obtain ⟨k, rfl, hk⟩ := hrel
    by_cases hkp : k < p
    · have hkd : decide (k < s.size) = true := decide_eq_true (by omega)
      have hkl : k < s.size := by omega
      have hk46 := HP2.out k hkl hkp
      have hkb : ((s[k].toNat : Int) != 46) = true := by simp; omega
      clear hk46
      go_wp2
      go_round
      case rel => exact ⟨k + 1, by go_num, by omega⟩
      case measure => simp [intOf]; omega
    · obtain rfl : k = p := by omega
      have hkl : k < s.size := by omega
      have hkd : decide (k < s.size) = true := decide_eq_true hkl
      have hp4 := HP3.out hkl
      have d4 : decide ((s.size : Int) - (k : Int) < 4) = false := decide_eq_false (by omega)
      go_wp2_with fail
      go_region
      go_wp2_with fail
      refine (c1 _).mono ?_
      rintro r w1 ⟨rfl, hb1⟩
      have KR := ((two_r w 0 false D E).drew').next hb1
      have KD := ((two_d w 0 false D E).drew').next hb1
      have B0 := (two_b w 0 false D E).drew
      have B1 : Below w.heap.size w w1 := B0.trans (hb1.mono B0.size)
      clear hb1 c1 B0
      obtain ⟨g, hg⟩ : ∃ g, w.heap.size = g := ⟨_, rfl⟩
      rw [hg] at KR KD B1 ⊢
      have lr := KR.lt
      have ld := KD.lt
      obtain ⟨k0, k1, k2, k3⟩ := KR.cells
      obtain ⟨f0, f1, f2, f3⟩ := KR.fro
      obtain ⟨l0, l1, l2, l3⟩ := KD.cells
      go_wp2
      exact bodyPost_ret (ret_dec Tryd.results12 _ rfl rfl (KR.set 0 false D E)) rfl ⟨rfl, below_set4 (hg ▸ B1) (by omega) _ _ _ _⟩
end Go.Proofs.YtomgbcgaokebjaaDoor
