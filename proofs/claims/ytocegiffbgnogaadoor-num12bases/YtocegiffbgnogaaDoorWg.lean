/- Walk of big.joined. -/
import Derived.Test.YtocegiffbgnogaaDoorWf
set_option linter.unusedVariables false
namespace Go.Proofs.YtocegiffbgnogaaDoor
open Go.RowKit

def JoinPost (B T n : Nat) (r : Ending) (w' : World) : Prop := ∃ v ps, r = .returned v ∧ Own w' B v ps ∧ M.Small ps ∧ M.pv ps = T ∧ ps.length ≤ n
theorem join_step (P m k b d v : Nat) (h : P * m + k = v) : P * (m * b) + (k * b + d) = v * b + d := by
  rw [← h, Nat.add_mul, Nat.mul_assoc, Nat.add_assoc]
def JRel (s : ByteArray) (b : Nat) (w : World) (sv : Value) (m k i : Nat) (wr : World) : Prop :=
  ∃ ds : List Nat, 1 ≤ m ∧ m * b ≤ 1099511627776 ∧ k < m ∧ i ≤ s.size ∧ ds.length ≤ 2 * i ∧ M.Small ds ∧ M.pv ds * m + k = M.val b (s.data.toList.take i) ∧ Own wr w.heap.size sv ds ∧ Below w.heap.size w wr

set_option maxRecDepth 100000 in
set_option maxHeartbeats 4000000 in
theorem joined_any (s : ByteArray) (b : Nat) (w : World) (hb : b = 2 ∨ b = 8 ∨ b = 16) (hs : s.size ≤ 10000) (hd : M.allD b s.data.toList = true) :
    Calls Tryd.prog 42 #[.string s, .int .u64 b] w fun r w' => JoinPost w.heap.size (M.val b s.data.toList) (2 * s.size + 2) r w' ∧ Below w.heap.size w w' := by
  have HD := Lib.hid hd
  clear hd
  have hb2 : 2 ≤ b ∧ b ≤ 16 := by omega
  have hbz : (b : Int) = 2 ∨ (b : Int) = 8 ∨ (b : Int) = 16 := by omega
  have HBZ := Lib.hid hb
  clear hb hbz
  go_enter Tryd.func42, Tryd.ntmps42
  go_wp2_with fail
  go_loopw [5, 6, 7, 11] (fun sv mv kv iv wr => ∃ (m k i : Nat), mv = .int .u64 (m : Int) ∧ kv = .int .u64 (k : Int) ∧ iv = .int .i64 (i : Int) ∧ JRel s b w sv m k i wr) (fun _ _ _ iv _ => s.size - (intOf iv).toNat)
  case atStart => exact ⟨1, 0, 0, rfl, rfl, rfl, [], by omega, by omega, by omega, by omega, by simp, M.Small.nil, by simp [M.val, M.pv], Own.nil _ _, Below.refl _ _⟩
  case round =>
    obtain ⟨m, k, i, rfl, rfl, rfl, ds, hm1, hmb, hkm, hi, hdl, hsd, hst, hown, hbw⟩ := hrel
    have hwsz : w.heap.size ≤ wr.heap.size := hbw.size
    by_cases hlt : i < s.size
    · have hltd : decide (i < s.size) = true := by simpa using hlt
      have c1 := digitAt_any s i wr hlt
      have hdv : M.dv s[i] < b := (M.allD_iff _ _).1 HD.out _ (List.mem_of_getElem? (get_list s i hlt))
      have hvs := M.val_snoc b (s.data.toList.take i) s[i]
      rw [← take_snoc s i hlt] at hvs
      obtain ⟨d, hdd⟩ : ∃ d, M.dv s[i] = d := ⟨_, rfl⟩
      rw [hdd] at c1 hdv hvs
      have hjs := join_step (M.pv ds) m k b d _ hst
      rw [← hvs] at hjs
      have hkb : k * b + d < m * b := by
        have : (k + 1) * b ≤ m * b := Nat.mul_le_mul_right _ hkm
        rw [Nat.add_mul] at this; omega
      have hm1' : 1 ≤ m * b := by have := Nat.mul_le_mul hm1 hb2.1; omega
      have hmbb : m * b * b ≤ 17592186044416 := by have := Nat.mul_le_mul hmb hb2.2; omega
      obtain ⟨m', hm'⟩ : ∃ m', m * b = m' := ⟨_, rfl⟩
      obtain ⟨k', hk'⟩ : ∃ k', k * b = k' := ⟨_, rfl⟩
      obtain ⟨m2, hm2⟩ : ∃ m2, m' * b = m2 := ⟨_, rfl⟩
      rw [hm'] at hjs hkb hm1' hmbb hmb
      rw [hk'] at hjs hkb
      rw [hm2] at hmbb
      have e1 : (m : Int) * (b : Int) = (m' : Int) := by rw [← Int.natCast_mul, hm']
      have e2 : (k : Int) * (b : Int) = (k' : Int) := by rw [← Int.natCast_mul, hk']
      have e3 : (m' : Int) * (b : Int) = (m2 : Int) := by rw [← Int.natCast_mul, hm2]
      have HJS := Lib.hid hjs
      have HM2 := Lib.hid hm2
      clear hm' hk' hm2 hjs hvs hdd hst
      by_cases hgt : 1099511627776 < m2
      · have hgd : decide ((1099511627776 : Int) < (m2 : Int)) = true := by simp; omega
        have c2 := fun W (h : Own W w.heap.size u5 ds) (hW : w.heap.size ≤ W.heap.size) => mulAdd_any u5 ds m' (k' + d) w.heap.size W h hsd hW (by omega) (by omega) (by omega)
        have e4 : ((k' + d : Nat) : Int) = (k' : Int) + (d : Int) := by omega
        rw [e4] at c2
        clear e4
        go_wp2_with (go_at_call 56; refine c1.mono ?_; rintro r w' ⟨rfl, rfl⟩)
        refine (c2 _ hown hwsz).mono ?_
        rintro r w5 ⟨⟨v5, ds5, rfl, ho5, hs5, hp5, hl5⟩, hb5⟩
        have HP5 := Lib.hid hp5
        have HO5 := Lib.hid ho5
        clear c2 c1 e1 e2 e3 hown hp5 ho5 HM2
        go_wp2
        go_roundw
        case rel => exact ⟨1, 0, i + 1, rfl, rfl, by go_num, ds5, by omega, by omega, by omega, by omega, by omega, hs5, by rw [HP5.out, ← HJS.out]; omega, HO5.out, hbw.trans hb5⟩
        case measure => simp [intOf]; omega
      · have hgd : decide ((1099511627776 : Int) < (m2 : Int)) = false := by simp; omega
        go_wp2_with (go_at_call 56; refine c1.mono ?_; rintro r w' ⟨rfl, rfl⟩)
        go_roundw
        case rel => exact ⟨m', k' + d, i + 1, rfl, by go_num, by go_num, ds, hm1', by rw [HM2.out]; omega, by omega, by omega, by omega, hsd, HJS.out, hown, hbw⟩
        case measure => simp [intOf]; omega
    · obtain rfl : i = s.size := by omega
      have hltd : decide (s.size < s.size) = false := by simp
      rw [take_all] at hst
      have hmS : m ≤ 1099511627776 := Nat.le_trans (Nat.le_mul_of_pos_right _ (by omega)) hmb
      have HST := Lib.hid hst
      have HMB := Lib.hid hmb
      clear hst hmb
      have c2 := mulAdd_any u5 ds m k w.heap.size wr hown hsd hwsz (by omega) hmS (by omega)
      go_wp2_with fail
      refine c2.mono ?_
      rintro r w5 ⟨⟨v5, ds5, rfl, ho5, hs5, hp5, hl5⟩, hb5⟩
      have HP5 := Lib.hid hp5
      have HO5 := Lib.hid ho5
      clear c2 hown hp5 ho5
      go_wp2
      go_ret
      exact ⟨⟨v5, ds5, rfl, HO5.out, hs5, by rw [HP5.out, HST.out], by omega⟩, hbw.trans hb5⟩
end Go.Proofs.YtocegiffbgnogaaDoor
