/- Walk of targumref4's Parse, behind a sign. -/
import Derived.Test.YtomgbcgaokebjaaDoorRk
set_option linter.unusedVariables false
namespace Go.Proofs.YtomgbcgaokebjaaDoor
open Go.RowKit

set_option maxRecDepth 100000 in
set_option maxHeartbeats 2000000 in
theorem rp_t1 (s t : ByteArray) (p : Nat) (w : World) (hs : s.size ≤ 200) (ho : Odd3 s) (h0 : 0 < s.size) (hn : s[0].toNat = 45) (hT : s.extract 1 s.size = t) (ht : t.size ≤ 200) (hp : Pt t p) (h4 : t.size < p + 4) :
    Calls Tryd.prog 12 #[.string s] w fun e w' => e = .returned (.tuple #[dZ, .bool false]) ∧ Below w.heap.size w w' := by
  obtain ⟨o1, o2, o3⟩ := ho
  obtain ⟨hp1, hp2, hp3⟩ := hp
  have HP2 := Lib.hid hp2
  have HP3 := Lib.hid hp3
  clear hp2 hp3
  go_enter Tryd.func12, Tryd.ntmps12
  have q1 : (1 : Int) ≤ (s.size : Int) := by omega
  have q2 : 1 ≤ s.size := h0
  go_wp2_with fail
  go_region
  go_wp2_with fail
  go_loop [6] (fun kv => ∃ k : Nat, kv = .int .i64 k ∧ k ≤ p) (fun kv => p - (intOf kv).toNat)
  case atStart => exact ⟨0, rfl, Nat.zero_le _⟩
  case round =>
    obtain ⟨k, rfl, hk⟩ := hrel
    by_cases hkp : k < p
    · have hkd : decide (k < t.size) = true := decide_eq_true (by omega)
      have hkl : k < t.size := by omega
      have hk46 := HP2.out k hkl hkp
      have hkb : ((t[k].toNat : Int) != 46) = true := by simp; omega
      clear hk46
      go_wp2
      go_round
      case rel => exact ⟨k + 1, by go_num, by omega⟩
      case measure => simp [intOf]; omega
    · obtain rfl : k = p := by omega
      have d4 : decide ((t.size : Int) - (k : Int) < 4) = true := decide_eq_true (by omega)
      by_cases hkl : k < t.size
      · have hkd : decide (k < t.size) = true := decide_eq_true hkl
        have hp4 := HP3.out hkl
        go_wp2
        exact bodyPost_ret (ret_dec Tryd.results12 _ rfl rfl ((two_r w 0 true ⟨#[]⟩ ⟨#[]⟩).drew')) rfl ⟨rfl, (two_b w 0 true ⟨#[]⟩ ⟨#[]⟩).drew⟩
      · have hkd : decide (k < t.size) = false := decide_eq_false hkl
        go_wp2
        exact bodyPost_ret (ret_dec Tryd.results12 _ rfl rfl ((two_r w 0 true ⟨#[]⟩ ⟨#[]⟩).drew')) rfl ⟨rfl, (two_b w 0 true ⟨#[]⟩ ⟨#[]⟩).drew⟩
set_option maxRecDepth 100000 in
set_option maxHeartbeats 2000000 in
theorem rp_t2 (s t : ByteArray) (p : Nat) (w : World) (hs : s.size ≤ 200) (ho : Odd3 s) (h0 : 0 < s.size) (hn : s[0].toNat = 45) (hT : s.extract 1 s.size = t) (ht : t.size ≤ 200) (hp : Pt t p) (h4 : p + 4 ≤ t.size) (hb : (((t[p + 1]'(by omega)).toNat : Int) != 101) = true) :
    Calls Tryd.prog 12 #[.string s] w fun e w' => e = .returned (.tuple #[dZ, .bool false]) ∧ Below w.heap.size w w' := by
  obtain ⟨o1, o2, o3⟩ := ho
  obtain ⟨hp1, hp2, hp3⟩ := hp
  have HP2 := Lib.hid hp2
  have HP3 := Lib.hid hp3
  clear hp2 hp3
  go_enter Tryd.func12, Tryd.ntmps12
  have q1 : (1 : Int) ≤ (s.size : Int) := by omega
  have q2 : 1 ≤ s.size := h0
  go_wp2_with fail
  go_region
  go_wp2_with fail
  go_loop [6] (fun kv => ∃ k : Nat, kv = .int .i64 k ∧ k ≤ p) (fun kv => p - (intOf kv).toNat)
  case atStart => exact ⟨0, rfl, Nat.zero_le _⟩
  case round =>
    obtain ⟨k, rfl, hk⟩ := hrel
    by_cases hkp : k < p
    · have hkd : decide (k < t.size) = true := decide_eq_true (by omega)
      have hkl : k < t.size := by omega
      have hk46 := HP2.out k hkl hkp
      have hkb : ((t[k].toNat : Int) != 46) = true := by simp; omega
      clear hk46
      go_wp2
      go_round
      case rel => exact ⟨k + 1, by go_num, by omega⟩
      case measure => simp [intOf]; omega
    · obtain rfl : k = p := by omega
      have hkl : k < t.size := by omega
      have hkd : decide (k < t.size) = true := decide_eq_true hkl
      have hp4 := HP3.out hkl
      have d4 : decide ((t.size : Int) - (k : Int) < 4) = false := decide_eq_false (by omega)
      go_wp2
      exact bodyPost_ret (ret_dec Tryd.results12 _ rfl rfl ((two_r w 0 true ⟨#[]⟩ ⟨#[]⟩).drew')) rfl ⟨rfl, (two_b w 0 true ⟨#[]⟩ ⟨#[]⟩).drew⟩
set_option maxRecDepth 100000 in
set_option maxHeartbeats 2000000 in
theorem rp_t3 (s t : ByteArray) (p : Nat) (w : World) (hs : s.size ≤ 200) (ho : Odd3 s) (h0 : 0 < s.size) (hn : s[0].toNat = 45) (hT : s.extract 1 s.size = t) (ht : t.size ≤ 200) (hp : Pt t p) (h4 : p + 4 ≤ t.size) (hb : (t[p + 1]'(by omega)).toNat = 101) (hx : (((t[p + 2]'(by omega)).toNat : Int) != 43) = true) (hx2 : (((t[p + 2]'(by omega)).toNat : Int) != 45) = true) :
    Calls Tryd.prog 12 #[.string s] w fun e w' => e = .returned (.tuple #[dZ, .bool false]) ∧ Below w.heap.size w w' := by
  obtain ⟨o1, o2, o3⟩ := ho
  obtain ⟨hp1, hp2, hp3⟩ := hp
  have HP2 := Lib.hid hp2
  have HP3 := Lib.hid hp3
  clear hp2 hp3
  go_enter Tryd.func12, Tryd.ntmps12
  have q1 : (1 : Int) ≤ (s.size : Int) := by omega
  have q2 : 1 ≤ s.size := h0
  go_wp2_with fail
  go_region
  go_wp2_with fail
  go_loop [6] (fun kv => ∃ k : Nat, kv = .int .i64 k ∧ k ≤ p) (fun kv => p - (intOf kv).toNat)
  case atStart => exact ⟨0, rfl, Nat.zero_le _⟩
  case round =>
    obtain ⟨k, rfl, hk⟩ := hrel
    by_cases hkp : k < p
    · have hkd : decide (k < t.size) = true := decide_eq_true (by omega)
      have hkl : k < t.size := by omega
      have hk46 := HP2.out k hkl hkp
      have hkb : ((t[k].toNat : Int) != 46) = true := by simp; omega
      clear hk46
      go_wp2
      go_round
      case rel => exact ⟨k + 1, by go_num, by omega⟩
      case measure => simp [intOf]; omega
    · obtain rfl : k = p := by omega
      have hkl : k < t.size := by omega
      have hkd : decide (k < t.size) = true := decide_eq_true hkl
      have hp4 := HP3.out hkl
      have d4 : decide ((t.size : Int) - (k : Int) < 4) = false := decide_eq_false (by omega)
      go_wp2
      exact bodyPost_ret (ret_dec Tryd.results12 _ rfl rfl ((two_r w 0 true ⟨#[]⟩ ⟨#[]⟩).drew')) rfl ⟨rfl, (two_b w 0 true ⟨#[]⟩ ⟨#[]⟩).drew⟩
set_option maxRecDepth 100000 in
set_option maxHeartbeats 2000000 in
theorem rp_t4 (s t : ByteArray) (p : Nat) (w : World) (hs : s.size ≤ 200) (ho : Odd3 s) (h0 : 0 < s.size) (hn : s[0].toNat = 45) (hT : s.extract 1 s.size = t) (ht : t.size ≤ 200) (hp : Pt t p) (h4 : p + 4 ≤ t.size) (hb : (t[p + 1]'(by omega)).toNat = 101) (hx : (t[p + 2]'(by omega)).toNat = 43) (D E : ByteArray) (hD : t.extract 0 p = D) (hE : t.extract (p + 3) t.size = E) (hDz : D.size ≤ 200) (hEz : E.size ≤ 200) (hE0 : 0 < E.size) (hd : M.decB 0 true D.data.toList E.data.toList = false)  :
    Calls Tryd.prog 12 #[.string s] w fun e w' => e = .returned (.tuple #[dZ, .bool false]) ∧ Below w.heap.size w w' := by
  obtain ⟨o1, o2, o3⟩ := ho
  obtain ⟨hp1, hp2, hp3⟩ := hp
  have HP2 := Lib.hid hp2
  have HP3 := Lib.hid hp3
  clear hp2 hp3
  have c1 := fun W => rdec_any 0 true D E W (by omega) (by omega)
  rw [hd] at c1
  clear hd
  go_enter Tryd.func12, Tryd.ntmps12
  have q1 : (1 : Int) ≤ (s.size : Int) := by omega
  have q2 : 1 ≤ s.size := h0
  go_wp2_with fail
  go_region
  go_wp2_with fail
  go_loop [6] (fun kv => ∃ k : Nat, kv = .int .i64 k ∧ k ≤ p) (fun kv => p - (intOf kv).toNat)
  case atStart => exact ⟨0, rfl, Nat.zero_le _⟩
  case round =>
    obtain ⟨k, rfl, hk⟩ := hrel
    by_cases hkp : k < p
    · have hkd : decide (k < t.size) = true := decide_eq_true (by omega)
      have hkl : k < t.size := by omega
      have hk46 := HP2.out k hkl hkp
      have hkb : ((t[k].toNat : Int) != 46) = true := by simp; omega
      clear hk46
      go_wp2
      go_round
      case rel => exact ⟨k + 1, by go_num, by omega⟩
      case measure => simp [intOf]; omega
    · obtain rfl : k = p := by omega
      have hkl : k < t.size := by omega
      have hkd : decide (k < t.size) = true := decide_eq_true hkl
      have hp4 := HP3.out hkl
      have d4 : decide ((t.size : Int) - (k : Int) < 4) = false := decide_eq_false (by omega)
      go_wp2_with fail
      go_region
      go_wp2_with fail
      refine (c1 _).mono ?_
      rintro r w1 ⟨rfl, hb1⟩
      have KR := ((two_r w 0 true D E).drew'.drew').next hb1
      have KD := ((two_d w 0 true D E).drew'.drew').next hb1
      have B0 := (two_b w 0 true D E).drew.drew
      have B1 : Below w.heap.size w w1 := B0.trans (hb1.mono B0.size)
      clear hb1 c1 B0
      obtain ⟨g, hg⟩ : ∃ g, w.heap.size = g := ⟨_, rfl⟩
      rw [hg] at KR KD B1 ⊢
      have lr := KR.lt
      have ld := KD.lt
      obtain ⟨k0, k1, k2, k3⟩ := KR.cells
      obtain ⟨f0, f1, f2, f3⟩ := KR.fro
      obtain ⟨l0, l1, l2, l3⟩ := KD.cells
      go_wp2
      exact bodyPost_ret (ret_dec Tryd.results12 _ rfl rfl (KR.set 0 false _ _)) rfl ⟨rfl, below_set4 (hg ▸ B1) (by omega) _ _ _ _⟩
set_option maxRecDepth 100000 in
set_option maxHeartbeats 2000000 in
theorem rp_t5 (s t : ByteArray) (p : Nat) (w : World) (hs : s.size ≤ 200) (ho : Odd3 s) (h0 : 0 < s.size) (hn : s[0].toNat = 45) (hT : s.extract 1 s.size = t) (ht : t.size ≤ 200) (hp : Pt t p) (h4 : p + 4 ≤ t.size) (hb : (t[p + 1]'(by omega)).toNat = 101) (hx : (t[p + 2]'(by omega)).toNat = 43) (D E : ByteArray) (hD : t.extract 0 p = D) (hE : t.extract (p + 3) t.size = E) (hDz : D.size ≤ 200) (hEz : E.size ≤ 200) (hE0 : 0 < E.size) (hd : M.decB 0 true D.data.toList E.data.toList = true) (hy : E[0].toNat = 45) :
    Calls Tryd.prog 12 #[.string s] w fun e w' => e = .returned (.tuple #[dZ, .bool false]) ∧ Below w.heap.size w w' := by
  obtain ⟨o1, o2, o3⟩ := ho
  obtain ⟨hp1, hp2, hp3⟩ := hp
  have HP2 := Lib.hid hp2
  have HP3 := Lib.hid hp3
  clear hp2 hp3
  have c1 := fun W => rdec_any 0 true D E W (by omega) (by omega)
  rw [hd] at c1
  clear hd
  go_enter Tryd.func12, Tryd.ntmps12
  have q1 : (1 : Int) ≤ (s.size : Int) := by omega
  have q2 : 1 ≤ s.size := h0
  go_wp2_with fail
  go_region
  go_wp2_with fail
  go_loop [6] (fun kv => ∃ k : Nat, kv = .int .i64 k ∧ k ≤ p) (fun kv => p - (intOf kv).toNat)
  case atStart => exact ⟨0, rfl, Nat.zero_le _⟩
  case round =>
    obtain ⟨k, rfl, hk⟩ := hrel
    by_cases hkp : k < p
    · have hkd : decide (k < t.size) = true := decide_eq_true (by omega)
      have hkl : k < t.size := by omega
      have hk46 := HP2.out k hkl hkp
      have hkb : ((t[k].toNat : Int) != 46) = true := by simp; omega
      clear hk46
      go_wp2
      go_round
      case rel => exact ⟨k + 1, by go_num, by omega⟩
      case measure => simp [intOf]; omega
    · obtain rfl : k = p := by omega
      have hkl : k < t.size := by omega
      have hkd : decide (k < t.size) = true := decide_eq_true hkl
      have hp4 := HP3.out hkl
      have d4 : decide ((t.size : Int) - (k : Int) < 4) = false := decide_eq_false (by omega)
      go_wp2_with fail
      go_region
      go_wp2_with fail
      refine (c1 _).mono ?_
      rintro r w1 ⟨rfl, hb1⟩
      have KR := ((two_r w 0 true D E).drew'.drew').next hb1
      have KD := ((two_d w 0 true D E).drew'.drew').next hb1
      have B0 := (two_b w 0 true D E).drew.drew
      have B1 : Below w.heap.size w w1 := B0.trans (hb1.mono B0.size)
      clear hb1 c1 B0
      obtain ⟨g, hg⟩ : ∃ g, w.heap.size = g := ⟨_, rfl⟩
      rw [hg] at KR KD B1 ⊢
      have lr := KR.lt
      have ld := KD.lt
      obtain ⟨k0, k1, k2, k3⟩ := KR.cells
      obtain ⟨f0, f1, f2, f3⟩ := KR.fro
      obtain ⟨l0, l1, l2, l3⟩ := KD.cells
      go_wp2
      exact bodyPost_ret (ret_dec Tryd.results12 _ rfl rfl (KR.set 0 false _ _)) rfl ⟨rfl, below_set4 (hg ▸ B1) (by omega) _ _ _ _⟩
set_option maxRecDepth 100000 in
set_option maxHeartbeats 2000000 in
theorem rp_t6 (s t : ByteArray) (p : Nat) (w : World) (hs : s.size ≤ 200) (ho : Odd3 s) (h0 : 0 < s.size) (hn : s[0].toNat = 45) (hT : s.extract 1 s.size = t) (ht : t.size ≤ 200) (hp : Pt t p) (h4 : p + 4 ≤ t.size) (hb : (t[p + 1]'(by omega)).toNat = 101) (hx : (t[p + 2]'(by omega)).toNat = 43) (D E : ByteArray) (hD : t.extract 0 p = D) (hE : t.extract (p + 3) t.size = E) (hDz : D.size ≤ 200) (hEz : E.size ≤ 200) (hE0 : 0 < E.size) (hd : M.decB 0 true D.data.toList E.data.toList = true) (hy : ((E[0].toNat : Int) == 45) = false) :
    Calls Tryd.prog 12 #[.string s] w fun e w' => e = .returned (.tuple #[dV 0 true D E, .bool true]) ∧ Below w.heap.size w w' := by
  obtain ⟨o1, o2, o3⟩ := ho
  obtain ⟨hp1, hp2, hp3⟩ := hp
  have HP2 := Lib.hid hp2
  have HP3 := Lib.hid hp3
  clear hp2 hp3
  have c1 := fun W => rdec_any 0 true D E W (by omega) (by omega)
  rw [hd] at c1
  clear hd
  go_enter Tryd.func12, Tryd.ntmps12
  have q1 : (1 : Int) ≤ (s.size : Int) := by omega
  have q2 : 1 ≤ s.size := h0
  go_wp2_with fail
  go_region
  go_wp2_with fail
  go_loop [6] (fun kv => ∃ k : Nat, kv = .int .i64 k ∧ k ≤ p) (fun kv => p - (intOf kv).toNat)
  case atStart => exact ⟨0, rfl, Nat.zero_le _⟩
  case round =>
    obtain ⟨k, rfl, hk⟩ := hrel
    by_cases hkp : k < p
    · have hkd : decide (k < t.size) = true := decide_eq_true (by omega)
      have hkl : k < t.size := by omega
      have hk46 := HP2.out k hkl hkp
      have hkb : ((t[k].toNat : Int) != 46) = true := by simp; omega
      clear hk46
      go_wp2
      go_round
      case rel => exact ⟨k + 1, by go_num, by omega⟩
      case measure => simp [intOf]; omega
    · obtain rfl : k = p := by omega
      have hkl : k < t.size := by omega
      have hkd : decide (k < t.size) = true := decide_eq_true hkl
      have hp4 := HP3.out hkl
      have d4 : decide ((t.size : Int) - (k : Int) < 4) = false := decide_eq_false (by omega)
      go_wp2_with fail
      go_region
      go_wp2_with fail
      refine (c1 _).mono ?_
      rintro r w1 ⟨rfl, hb1⟩
      have KR := ((two_r w 0 true D E).drew'.drew').next hb1
      have KD := ((two_d w 0 true D E).drew'.drew').next hb1
      have B0 := (two_b w 0 true D E).drew.drew
      have B1 : Below w.heap.size w w1 := B0.trans (hb1.mono B0.size)
      clear hb1 c1 B0
      obtain ⟨g, hg⟩ : ∃ g, w.heap.size = g := ⟨_, rfl⟩
      rw [hg] at KR KD B1 ⊢
      have lr := KR.lt
      have ld := KD.lt
      obtain ⟨k0, k1, k2, k3⟩ := KR.cells
      obtain ⟨f0, f1, f2, f3⟩ := KR.fro
      obtain ⟨l0, l1, l2, l3⟩ := KD.cells
      go_wp2
      exact bodyPost_ret (ret_dec Tryd.results12 _ rfl rfl (KR.set 0 true D E)) rfl ⟨rfl, below_set4 (hg ▸ B1) (by omega) _ _ _ _⟩
set_option maxRecDepth 100000 in
set_option maxHeartbeats 2000000 in
theorem rp_t7 (s t : ByteArray) (p : Nat) (w : World) (hs : s.size ≤ 200) (ho : Odd3 s) (h0 : 0 < s.size) (hn : s[0].toNat = 45) (hT : s.extract 1 s.size = t) (ht : t.size ≤ 200) (hp : Pt t p) (h4 : p + 4 ≤ t.size) (hb : (t[p + 1]'(by omega)).toNat = 101) (hx : (t[p + 2]'(by omega)).toNat = 45) (D E : ByteArray) (hD : t.extract 0 p = D) (hE : t.extract (p + 2) t.size = E) (hDz : D.size ≤ 200) (hEz : E.size ≤ 200) (hE0 : 0 < E.size) (hd : M.decB 0 true D.data.toList E.data.toList = false)  :
    Calls Tryd.prog 12 #[.string s] w fun e w' => e = .returned (.tuple #[dZ, .bool false]) ∧ Below w.heap.size w w' := by
  obtain ⟨o1, o2, o3⟩ := ho
  obtain ⟨hp1, hp2, hp3⟩ := hp
  have HP2 := Lib.hid hp2
  have HP3 := Lib.hid hp3
  clear hp2 hp3
  have c1 := fun W => rdec_any 0 true D E W (by omega) (by omega)
  rw [hd] at c1
  clear hd
  go_enter Tryd.func12, Tryd.ntmps12
  have q1 : (1 : Int) ≤ (s.size : Int) := by omega
  have q2 : 1 ≤ s.size := h0
  go_wp2_with fail
  go_region
  go_wp2_with fail
  go_loop [6] (fun kv => ∃ k : Nat, kv = .int .i64 k ∧ k ≤ p) (fun kv => p - (intOf kv).toNat)
  case atStart => exact ⟨0, rfl, Nat.zero_le _⟩
  case round =>
    obtain ⟨k, rfl, hk⟩ := hrel
    by_cases hkp : k < p
    · have hkd : decide (k < t.size) = true := decide_eq_true (by omega)
      have hkl : k < t.size := by omega
      have hk46 := HP2.out k hkl hkp
      have hkb : ((t[k].toNat : Int) != 46) = true := by simp; omega
      clear hk46
      go_wp2
      go_round
      case rel => exact ⟨k + 1, by go_num, by omega⟩
      case measure => simp [intOf]; omega
    · obtain rfl : k = p := by omega
      have hkl : k < t.size := by omega
      have hkd : decide (k < t.size) = true := decide_eq_true hkl
      have hp4 := HP3.out hkl
      have d4 : decide ((t.size : Int) - (k : Int) < 4) = false := decide_eq_false (by omega)
      go_wp2_with fail
      go_region
      go_wp2_with fail
      refine (c1 _).mono ?_
      rintro r w1 ⟨rfl, hb1⟩
      have KR := ((two_r w 0 true D E).drew'.drew').next hb1
      have KD := ((two_d w 0 true D E).drew'.drew').next hb1
      have B0 := (two_b w 0 true D E).drew.drew
      have B1 : Below w.heap.size w w1 := B0.trans (hb1.mono B0.size)
      clear hb1 c1 B0
      obtain ⟨g, hg⟩ : ∃ g, w.heap.size = g := ⟨_, rfl⟩
      rw [hg] at KR KD B1 ⊢
      have lr := KR.lt
      have ld := KD.lt
      obtain ⟨k0, k1, k2, k3⟩ := KR.cells
      obtain ⟨f0, f1, f2, f3⟩ := KR.fro
      obtain ⟨l0, l1, l2, l3⟩ := KD.cells
      go_wp2
      exact bodyPost_ret (ret_dec Tryd.results12 _ rfl rfl (KR.set 0 false _ _)) rfl ⟨rfl, below_set4 (hg ▸ B1) (by omega) _ _ _ _⟩
set_option maxRecDepth 100000 in
set_option maxHeartbeats 2000000 in
theorem rp_t8 (s t : ByteArray) (p : Nat) (w : World) (hs : s.size ≤ 200) (ho : Odd3 s) (h0 : 0 < s.size) (hn : s[0].toNat = 45) (hT : s.extract 1 s.size = t) (ht : t.size ≤ 200) (hp : Pt t p) (h4 : p + 4 ≤ t.size) (hb : (t[p + 1]'(by omega)).toNat = 101) (hx : (t[p + 2]'(by omega)).toNat = 45) (D E : ByteArray) (hD : t.extract 0 p = D) (hE : t.extract (p + 2) t.size = E) (hDz : D.size ≤ 200) (hEz : E.size ≤ 200) (hE0 : 0 < E.size) (hd : M.decB 0 true D.data.toList E.data.toList = true)  :
    Calls Tryd.prog 12 #[.string s] w fun e w' => e = .returned (.tuple #[dV 0 true D E, .bool true]) ∧ Below w.heap.size w w' := by
  obtain ⟨o1, o2, o3⟩ := ho
  obtain ⟨hp1, hp2, hp3⟩ := hp
  have HP2 := Lib.hid hp2
  have HP3 := Lib.hid hp3
  clear hp2 hp3
  have c1 := fun W => rdec_any 0 true D E W (by omega) (by omega)
  rw [hd] at c1
  clear hd
  go_enter Tryd.func12, Tryd.ntmps12
  have q1 : (1 : Int) ≤ (s.size : Int) := by omega
  have q2 : 1 ≤ s.size := h0
  go_wp2_with fail
  go_region
  go_wp2_with fail
  go_loop [6] (fun kv => ∃ k : Nat, kv = .int .i64 k ∧ k ≤ p) (fun kv => p - (intOf kv).toNat)
  case atStart => exact ⟨0, rfl, Nat.zero_le _⟩
  case round =>
    obtain ⟨k, rfl, hk⟩ := hrel
    by_cases hkp : k < p
    · have hkd : decide (k < t.size) = true := decide_eq_true (by omega)
      have hkl : k < t.size := by omega
      have hk46 := HP2.out k hkl hkp
      have hkb : ((t[k].toNat : Int) != 46) = true := by simp; omega
      clear hk46
      go_wp2
      go_round
      case rel => exact ⟨k + 1, by go_num, by omega⟩
      case measure => simp [intOf]; omega
    · obtain rfl : k = p := by omega
      have hkl : k < t.size := by omega
      have hkd : decide (k < t.size) = true := decide_eq_true hkl
      have hp4 := HP3.out hkl
      have d4 : decide ((t.size : Int) - (k : Int) < 4) = false := decide_eq_false (by omega)
      go_wp2_with fail
      go_region
      go_wp2_with fail
      refine (c1 _).mono ?_
      rintro r w1 ⟨rfl, hb1⟩
      have KR := ((two_r w 0 true D E).drew'.drew').next hb1
      have KD := ((two_d w 0 true D E).drew'.drew').next hb1
      have B0 := (two_b w 0 true D E).drew.drew
      have B1 : Below w.heap.size w w1 := B0.trans (hb1.mono B0.size)
      clear hb1 c1 B0
      obtain ⟨g, hg⟩ : ∃ g, w.heap.size = g := ⟨_, rfl⟩
      rw [hg] at KR KD B1 ⊢
      have lr := KR.lt
      have ld := KD.lt
      obtain ⟨k0, k1, k2, k3⟩ := KR.cells
      obtain ⟨f0, f1, f2, f3⟩ := KR.fro
      obtain ⟨l0, l1, l2, l3⟩ := KD.cells
      go_wp2
      exact bodyPost_ret (ret_dec Tryd.results12 _ rfl rfl (KR.set 0 true D E)) rfl ⟨rfl, below_set4 (hg ▸ B1) (by omega) _ _ _ _⟩
end Go.Proofs.YtomgbcgaokebjaaDoor
