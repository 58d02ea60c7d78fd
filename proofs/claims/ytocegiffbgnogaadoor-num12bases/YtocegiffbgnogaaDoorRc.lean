/- Walk of targumref4's mulAdd. -/
import Derived.Test.YtocegiffbgnogaaDoorRa
set_option linter.unusedVariables false
namespace Go.Proofs.YtocegiffbgnogaaDoor
open Go.RowKit

theorem Row.alloc {w : World} {g : Nat} {l : List UInt8} (h : Row w g l) (o : Obj) : Row (w.alloc o) g l :=
  h.below ((Below.refl w.heap.size w).alloc (Nat.le_refl _) o) h.lt
def dg1 (c : Nat) : UInt8 := UInt8.ofNat (48 + c % 10)
theorem dg1_dv (c : Nat) : M.dv (dg1 c) = c % 10 := M.dv_dig _ (by omega)
theorem mulr_step (t r : List UInt8) (x : UInt8) (c m k C : Nat) (hl : r.length = t.length) (hC : C = c + M.dv x * m) (h : M.val 10 r + c * 10 ^ r.length = M.val 10 t * m + k) :
    M.val 10 (dg1 C :: r) + C / 10 * 10 ^ (r.length + 1) = M.val 10 (x :: t) * m + k := by
  rw [M.val_cons, M.val_cons, dg1_dv, Nat.pow_succ, Nat.add_mul, ← hl]
  have e : C % 10 * 10 ^ r.length + C / 10 * (10 ^ r.length * 10) = C * 10 ^ r.length := by
    rw [← Nat.mul_assoc, Nat.mul_right_comm, ← Nat.add_mul]
    congr 1; omega
  have e2 : C * 10 ^ r.length = c * 10 ^ r.length + M.dv x * 10 ^ r.length * m := by
    rw [hC, Nat.add_mul]; congr 1; rw [Nat.mul_right_comm]
  omega
theorem head_step (h : List UInt8) (c T : Nat) (hh : M.val 10 h + c * 10 ^ h.length = T) : M.val 10 (dg1 c :: h) + c / 10 * 10 ^ (h.length + 1) = T := by
  rw [M.val_cons, dg1_dv, Nat.pow_succ]
  have e : c % 10 * 10 ^ h.length + c / 10 * (10 ^ h.length * 10) = c * 10 ^ h.length := by
    rw [← Nat.mul_assoc, Nat.mul_right_comm, ← Nat.add_mul]
    congr 1; omega
  omega
theorem head_room (c n : Nat) (hc : 0 < c) (h : c < 10 ^ (13 - n)) : n < 13 ∧ c / 10 < 10 ^ (13 - (n + 1)) := by
  rcases Nat.lt_or_ge n 13 with h1 | h1
  · refine ⟨h1, ?_⟩
    rw [show 13 - n = (13 - (n + 1)) + 1 by omega, Nat.pow_succ] at h
    omega
  · rw [show 13 - n = 0 by omega] at h; simp at h; omega

set_option maxRecDepth 100000 in
set_option maxHeartbeats 2000000 in
theorem rmulAdd_any (s : ByteArray) (m k : Nat) (w : World) (hs : s.size ≤ 10000) (h0 : 0 < s.size) (hd : M.allD 10 s.data.toList = true) (hm : m ≤ 1099511627776) (hk : k ≤ 1099511627776) :
    Calls Tryd.prog 32 #[.string s, .int .i64 m, .int .i64 k] w fun e w' => e = .returned (.string (tx ((M.val 10 s.data.toList * m + k : Nat) : Int))) ∧ Below w.heap.size w w' := by
  obtain ⟨T, hT⟩ : ∃ T, M.val 10 s.data.toList * m + k = T := ⟨_, rfl⟩
  rw [hT]
  have HT := Lib.hid hT
  have HD := Lib.hid hd
  clear hT hd
  obtain ⟨i0, hi, hz0, hz1, hz2⟩ := info_parts Tryd.info5
  go_enter Tryd.func32, Tryd.ntmps32
  go_wp2_with (first | (at_make; refine wpList_make_full w rfl (.tmp 12) (.tmp 12) 22 rfl w.heap.size 5 i0 (.int .u8 0) 1 Tryd.underlying22 hi hz0 hz1 .i64 .i64 _ _ s.size rfl rfl (by simp) (by simp) (by rw [hz2]; omega) (by unfold maxLen; omega) (Nat.le_refl _) ?_; intro w1 ho1 hg1; obtain ⟨hR1, hB1⟩ := made_mem w w1 _ ho1 hg1; have HR1 := Lib.hid hR1; clear ho1 hg1 hR1) | fail)
  go_loopw [8, 9] (fun cv iv wr => ∃ (c i : Nat) (z : Int) (r : List UInt8), cv = .int .i64 c ∧ iv = .int .i64 z ∧ z + 1 = i ∧ c ≤ 1099511627776 ∧ i ≤ s.size ∧ Hid (r.length + i = s.size) ∧ Hid (M.allD 10 r = true) ∧ Hid (M.val 10 r + c * 10 ^ r.length = M.val 10 (s.data.toList.drop i) * m + k) ∧ Hid (Row wr w.heap.size (List.replicate i 0 ++ r)) ∧ Below w.heap.size w wr) (fun _ iv _ => (intOf iv + 1).toNat)
  case atStart => exact ⟨k, s.size, (s.size : Int) - 1, [], rfl, by go_num, by omega, hk, Nat.le_refl _, by show _ = _; simp, rfl, by show _ = _; rw [List.drop_of_length_le (by rw [← sz_list]; omega)]; simp [M.val], by show Row _ _ _; rw [List.append_nil]; exact HR1.out, hB1⟩
  case round =>
    obtain ⟨c, i, z, r, rfl, rfl, hz, hc, hi, hrl, hra, hst, hrow, hbw⟩ := hrel
    by_cases hgo : 0 < i
    · obtain ⟨j, rfl⟩ : ∃ j, i = j + 1 := ⟨i - 1, by omega⟩
      obtain rfl : z = (j : Int) := by omega
      have hjl : j < s.size := by omega
      have hdv : M.dv s[j] < 10 := (M.allD_iff _ _).1 HD.out _ (List.mem_of_getElem? (get_list s j hjl))
      obtain ⟨e1, e2, e3⟩ := M.dv_lt10 hdv
      obtain ⟨v, hv⟩ : ∃ v, M.dv s[j] = v := ⟨_, rfl⟩
      have hev : (s[j].toNat : Int) - 48 = (v : Int) := by omega
      obtain ⟨C, hC⟩ : ∃ C, C = c + v * m := ⟨_, rfl⟩
      have hstep := mulr_step (s.data.toList.drop (j + 1)) r s[j] c m k C (by have := hrl.out; rw [List.length_drop, ← sz_list]; omega) (by rw [hv]; exact hC) hst.out
      rw [← drop_cons s j hjl] at hstep
      obtain ⟨vm, hvm⟩ : ∃ vm, v * m = vm := ⟨_, rfl⟩
      have hvm2 : (v : Int) * (m : Int) = (vm : Int) := by rw [← Int.natCast_mul, hvm]
      have hvm3 : vm ≤ 9 * 1099511627776 := by rw [← hvm]; exact Nat.mul_le_mul (by omega) hm
      rw [hvm] at hC
      have hC2 : (c : Int) + (vm : Int) = (C : Int) := by omega
      have hC3 : C ≤ 10995116277760 := by omega
      have hfr := hrow.out.frozen j
      obtain ⟨x, hx⟩ : ∃ x, wr.cell? ⟨w.heap.size, j, none⟩ = some (.int .u8 x) := ⟨_, hrow.out.cell j (by simp; omega)⟩
      have hset := hrow.out.set j (dg1 C)
      rw [set_rep, show ((dg1 C).toNat : Int) = 48 + (C : Int) % 10 from dig_cast C] at hset
      have HSET := Lib.hid hset
      have HSTEP := Lib.hid hstep
      clear hset hstep hrow hst hv e3 hC hvm hdv
      go_wp2
      go_roundw
      case rel => exact ⟨C / 10, j, (j : Int) - 1, dg1 C :: r, by rw [cast_div10], rfl, by omega, by omega, by omega, by show _ = _; rw [List.length_cons]; have := hrl.out; omega, allD_cons (dg1_dv C) (by omega) hra.out, HSTEP.out, HSET.out, hbw.setCell (Nat.le_refl _) _⟩
      case measure => simp [intOf]
    · obtain rfl : i = 0 := by omega
      obtain rfl : z = -1 := by omega
      have hst1 := hst.out
      rw [List.drop_zero, HT.out] at hst1
      have hrow1 := hrow.out
      rw [List.replicate_zero, List.nil_append] at hrow1
      have HST := Lib.hid hst1
      have HROW := Lib.hid hrow1
      clear hst hst1 hrow hrow1 hgo hi hz
      go_wp2
      go_loopw [8, 10] (fun cv hv wr2 => ∃ (e : Nat) (h : List UInt8) (H : ByteArray), cv = .int .i64 e ∧ hv = .string H ∧ e ≤ 1099511627776 ∧ H.size ≤ 13 ∧ Hid (H = bA h) ∧ Hid (e < 10 ^ (13 - h.length)) ∧ Hid (h.length ≤ 13) ∧ Hid (M.allD 10 h = true) ∧ Hid (M.val 10 h + e * 10 ^ h.length = c) ∧ Hid (Row wr2 w.heap.size r) ∧ Below w.heap.size w wr2) (fun cv _ _ => (intOf cv).toNat)
      case atStart => exact ⟨c, [], ⟨#[]⟩, rfl, rfl, hc, by decide, rfl, by show _ < _; simp; omega, by show _ ≤ _; simp, rfl, by show _ = _; simp [M.val], HROW.out, hbw⟩
      case round =>
        obtain ⟨e, h, H, rfl, rfl, he, hH, HH, hroom, hhl, hha, hhv, hrow2, hbw2⟩ := hrel
        have hsz := hbw2.size
        by_cases he0 : 0 < e
        · have hed : decide (0 < e) = true := by simpa using he0
          obtain ⟨r1, r2⟩ := head_room e h.length he0 hroom.out
          have hstep := head_step h e c hhv.out
          have k3 := fun W => one_conv W (48 + (e : Int) % 10) (dg1 e) (dig_cast e)
          have hXs : (bA [dg1 e]).size = 1 := bA_size _
          have hXH : bA [dg1 e] ++ H = bA (dg1 e :: h) := by rw [HH.out]; exact bA_append [dg1 e] h
          have hH2 : H.size = h.length := by rw [HH.out, bA_size]
          have HXH := Lib.hid hXH
          have HSTEP := Lib.hid hstep
          have HR2 := Lib.hid r2
          have hrow3 := Lib.hid (fun o => hrow2.out.alloc o)
          have hXz := Lib.hid (append_sz (bA [dg1 e]) H)
          generalize bA [dg1 e] = X at *
          clear hstep r2 hXH hroom hhv
          go_wp2
          go_roundw
          case rel => exact ⟨e / 10, dg1 e :: h, X ++ H, by rw [cast_div10], rfl, by omega, by rw [hXz.out]; omega, HXH.out, HR2.out, by show _ ≤ _; rw [List.length_cons]; omega, allD_cons (dg1_dv e) (by omega) hha.out, HSTEP.out, hrow3.out _, hbw2.alloc hsz _⟩
          case measure => simp [intOf]; omega
        · obtain rfl : e = 0 := by omega
          have hv0 := hhv.out
          rw [Nat.zero_mul, Nat.add_zero] at hv0
          have hlr : r.length = s.size := by have := hrl.out; omega
          have hcv := hrow2.out.conv0 s.size
          rw [hlr] at hcv
          have hval : M.val 10 (h ++ r) = T := by rw [M.val_append, hv0, ← HST.out, Nat.add_comm]
          have hok : M.okD 10 (h ++ r) = true := by
            rw [M.okD_iff, M.allD_append, hha.out, hra.out]
            refine ⟨?_, rfl⟩
            intro e
            have := congrArg List.length e
            rw [List.length_append, List.length_nil] at this
            omega
          have c1 := fun W => rnorm_list false (h ++ r) W hok (by rw [List.length_append]; have := hhl.out; omega)
          rw [hval, ← bA_append, ← HH.out] at c1
          rw [show M.sgn false T = (T : Int) from rfl] at c1
          have hrs : (bA r).size = s.size := by rw [bA_size, hlr]
          generalize bA r = Rr at *
          clear hroom hhv hv0 hval hok hlr hha hhl HH hrow2 HST HROW
          go_wp2_with fail
          refine (c1 _).mono ?_
          rintro r w' ⟨rfl, rfl⟩
          go_wp2
          go_ret
          exact ⟨rfl, hbw2⟩
end Go.Proofs.YtocegiffbgnogaaDoor
