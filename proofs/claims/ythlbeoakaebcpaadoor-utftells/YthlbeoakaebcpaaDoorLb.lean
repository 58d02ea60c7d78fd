/- The law UtfSizes: its walk. -/
import Derived.Test.YthlbeoakaebcpaaDoorLa
namespace Go.Proofs.YthlbeoakaebcpaaDoor
open Go.RowKit

theorem append_list (s t : ByteArray) : (s ++ t).data.toList = s.data.toList ++ t.data.toList := by simp
theorem append_sz (s t : ByteArray) : (s ++ t).size = s.size + t.size := by rw [sz_list, append_list, List.length_append, ← sz_list, ← sz_list]

set_option maxRecDepth 100000 in
set_option maxHeartbeats 4000000 in
theorem sizes_out (s t : ByteArray) (w : World) (hT : Tabs w) (hs : s.size ≤ maxLen) (ht : t.size ≤ maxLen)
    (h : 300 < s.size ∨ (s.size ≤ 300 ∧ 300 < t.size) ∨ (s.size ≤ 300 ∧ t.size ≤ 300 ∧ Lib.validD s.data.toList = false) ∨ (s.size ≤ 300 ∧ t.size ≤ 300 ∧ Lib.validD s.data.toList = true ∧ Lib.validD t.data.toList = false)) :
    Calls Tryd.prog 5 #[.string s, .string t] w fun r w' => r = .returned (.bool true) ∧ Below w.heap.size w w' := by
  unfold maxLen at hs ht
  rcases h with h | ⟨h, h'⟩ | ⟨h, h', hv⟩ | ⟨h, h', hv, hv'⟩
  · have d1 : decide ((300 : Int) < (s.size : Int)) = true := by simp; omega
    go_enter Tryd.func5, Tryd.ntmps5
    go_wp2_with (go_at_call 10; refine (known_any _ hT).mono ?_; rintro r w1 ⟨rfl, hb⟩)
    go_ret
    exact ⟨rfl, hb⟩
  · have d1 : decide ((300 : Int) < (s.size : Int)) = false := by simp; omega
    have d2 : decide ((300 : Int) < (t.size : Int)) = true := by simp; omega
    go_enter Tryd.func5, Tryd.ntmps5
    go_wp2_with (go_at_call 10; refine (known_any _ hT).mono ?_; rintro r w1 ⟨rfl, hb⟩)
    go_ret
    exact ⟨rfl, hb⟩
  · have d1 : decide ((300 : Int) < (s.size : Int)) = false := by simp; omega
    have d2 : decide ((300 : Int) < (t.size : Int)) = false := by simp; omega
    have c1 := fun w => well_any s w (by omega)
    rw [hv] at c1
    clear hv
    go_enter Tryd.func5, Tryd.ntmps5
    go_wp2_with (first | (go_at_call 10; refine (known_any _ hT).mono ?_; rintro r w1 ⟨rfl, hb⟩) | (go_at_call 21; refine (c1 _).mono ?_; rintro r w2 ⟨rfl, rfl⟩))
    go_ret
    exact ⟨rfl, hb⟩
  · have d1 : decide ((300 : Int) < (s.size : Int)) = false := by simp; omega
    have d2 : decide ((300 : Int) < (t.size : Int)) = false := by simp; omega
    have c1 := fun w => well_any s w (by omega)
    have c2 := fun w => well_any t w (by omega)
    rw [hv] at c1
    rw [hv'] at c2
    clear hv hv'
    go_enter Tryd.func5, Tryd.ntmps5
    go_wp2_with fail
    refine (known_any _ hT).mono ?_
    rintro r w1 ⟨rfl, hb⟩
    go_wp2_with fail
    refine (c1 _).mono ?_
    rintro r w2 ⟨rfl, rfl⟩
    go_wp2_with fail
    refine (c2 _).mono ?_
    rintro r w2 ⟨rfl, rfl⟩
    go_wp2
    go_ret
    exact ⟨rfl, hb⟩

theorem encode_len (e : Int) (s : ByteArray) (cs : List Nat) (w : World) (hT : Tabs w) (hs : s.size ≤ 2000) (hw : M.Wf s.data.toList cs) :
    Calls Tryd.prog 16 #[.int .i64 e, .string s] w fun r w' => ∃ ad cap, r = .returned (.slice ad (M.encAll e.toNat cs).length cap) ∧ Below w.heap.size w w' := by
  refine (encode_wf e s cs w hT hs hw).mono ?_
  rintro r w' ⟨h, hb⟩
  rcases h with ⟨h, h'⟩ | ⟨_, g, h', _⟩
  · exact ⟨none, 0, by rw [h', h]; rfl, hb⟩
  · exact ⟨_, _, h', hb⟩
theorem encAll2_len (cs : List Nat) : 2 * cs.length ≤ (M.encAll 2 cs).length ∧ (M.encAll 2 cs).length ≤ 4 * cs.length := by
  induction cs with
  | nil => simp [M.encAll]
  | cons c cs ih =>
    rw [M.encAll_cons, List.length_append, List.length_cons, M.enc1_2, M.utf16]
    split <;> simp [M.unit2_length] <;> omega
theorem encAll23 (cs : List Nat) : (M.encAll 3 cs).length = (M.encAll 2 cs).length := by rw [encAll2, encAll3, fm2_len, fm2_len]

set_option maxRecDepth 100000 in
set_option maxHeartbeats 4000000 in
theorem sizes_in (s t : ByteArray) (cs ds : List Nat) (w : World) (hT : Tabs w) (hs : s.size ≤ 300) (ht : t.size ≤ 300) (hw : M.Wf s.data.toList cs) (hw' : M.Wf t.data.toList ds) :
    Calls Tryd.prog 5 #[.string s, .string t] w fun r w' => r = .returned (.bool true) ∧ Below w.heap.size w w' := by
  have d1 : decide ((300 : Int) < (s.size : Int)) = false := by simp; omega
  have d2 : decide ((300 : Int) < (t.size : Int)) = false := by simp; omega
  have c1 := fun w => well_any s w (by omega)
  have c2 := fun w => well_any t w (by omega)
  rw [M.valid_wf hw] at c1
  rw [M.valid_wf hw'] at c2
  have hww : M.Wf (s ++ t).data.toList (cs ++ ds) := by rw [append_list]; exact hw.append hw'
  have hsz := append_sz s t
  have hcl := M.wf_len hww
  rw [← sz_list, hsz] at hcl
  have HW := Lib.hid hww
  have HS := Lib.hid hw
  have HT' := Lib.hid hw'
  have HZ := Lib.hid hsz
  clear hw hw' hww hsz
  go_enter Tryd.func5, Tryd.ntmps5
  go_wp2_with fail
  refine (known_any _ hT).mono ?_
  rintro r w1 ⟨rfl, hb⟩
  have hT1 := hT.below hb
  go_wp2_with fail
  refine (c1 _).mono ?_
  rintro r w2 ⟨rfl, rfl⟩
  go_wp2_with fail
  refine (c2 _).mono ?_
  rintro r w2 ⟨rfl, rfl⟩
  clear c1 c2
  go_wp2
  have hmain : ∀ e : Nat, (M.encAll e (cs ++ ds)).length = (M.encAll e cs).length + (M.encAll e ds).length := fun e => by rw [M.encAll_append, List.length_append]
  have HM := Lib.hid hmain
  clear hmain
  obtain ⟨X, hX⟩ : ∃ X, cs ++ ds = X := ⟨_, rfl⟩
  rw [hX] at HM HW hcl
  clear hX
  go_loopw [5] (fun v wr => ∃ k : Nat, k ≤ X.length ∧ wr = w1.iter (s ++ t) (M.encAll 1 (X.take k)).length ∧ v = .int .i64 k) (fun _ wr => (s ++ t).size - wr.iterPos w1.heap.size)
  case atStart => exact ⟨0, Nat.zero_le _, rfl, rfl⟩
  case round =>
    obtain ⟨k, hk, rfl, rfl⟩ := hrel
    by_cases hlt : k < X.length
    · have hp := pos_lt (s ++ t) X HW.out k hlt
      have hnx : ∀ ty, (Instr.next (.pointer (some ⟨w1.heap.size, 0, none⟩)) true ty).run Tryd.prog (w1.iter (s ++ t) (M.encAll 1 (X.take k)).length) = _ := fun ty => run_next_any w1 (s ++ t) _ ty hp
      rw [decode_wf (s ++ t) X HW.out k hlt] at hnx
      have H2 := Lib.hid (M.encAll_take_succ 1 X k hlt)
      have b3 := M.enc1_length 1 X[k] (by omega)
      generalize X[k] = c at *
      go_wp2
      go_roundw
      case rel => exact ⟨k + 1, by omega, by rw [H2.out, List.length_append], by go_num⟩
      case measure => simp only [World.iterPos_iter]; omega
    · obtain rfl : k = X.length := by omega
      have hp := pos_end (s ++ t) X HW.out
      rw [List.take_length] at hp ⊢
      have hnx : ∀ ty, (Instr.next (.pointer (some ⟨w1.heap.size, 0, none⟩)) true ty).run Tryd.prog (w1.iter (s ++ t) (M.encAll 1 X).length) = _ := fun ty => run_next_end w1 (s ++ t) _ ty (by omega)
      have hb2 : Below w.heap.size w (w1.iter (s ++ t) (M.encAll 1 X).length) := hb.alloc hb.size _
      clear hp
      go_wp2
      generalize w1.iter (s ++ t) (M.encAll 1 X).length = w4 at hb2 ⊢
      clear hnx
      go_loopw [6] (fun v wr => ∃ e : Nat, 1 ≤ e ∧ e ≤ 6 ∧ v = .int .i64 e ∧ Below w.heap.size w wr) (fun v _ => 6 - (intOf v).toNat)
      case atStart => exact ⟨1, by omega, by omega, rfl, hb2⟩
      case round =>
        obtain ⟨e, he1, he6, rfl, hbr⟩ := hrel
        have hTr := hT.below hbr
        by_cases he : e ≤ 5
        · have hed : decide ((e : Int) ≤ 5) = true := by simp; omega
          have s1 := fun w' h => size_wf (e : Int) (s ++ t) X w' h (by rw [HZ.out]; omega) HW.out
          have s2 := fun w' h => size_wf (e : Int) s cs w' h (by omega) HS.out
          have s3 := fun w' h => size_wf (e : Int) t ds w' h (by omega) HT'.out
          have s4 := fun w' h => encode_len (e : Int) s cs w' h (by omega) HS.out
          rw [Int.toNat_natCast] at s1 s2 s3 s4
          have hsum := HM.out e
          have hbd := M.encAll_le e X
          generalize (M.encAll e X).length = A at *
          generalize (M.encAll e cs).length = B at *
          generalize (M.encAll e ds).length = C at *
          have hneq : ((A : Int) != (B : Int) + (C : Int)) = false := by simp; omega
          have hB : B ≤ 3000 := by omega
          have hC : C ≤ 3000 := by omega
          clear hsum hbd
          go_wp2_with fail
          refine (s1 _ hTr).mono ?_
          rintro r w5 ⟨rfl, hb5⟩
          have hT5 := hTr.below hb5
          have hbr5 := hbr.trans (hb5.mono hbr.size)
          clear hbr hb5 hTr s1
          go_wp2_with fail
          refine (s2 _ hT5).mono ?_
          rintro r w6 ⟨rfl, hb6⟩
          have hT6 := hT5.below hb6
          have hbr6 := hbr5.trans (hb6.mono hbr5.size)
          clear hbr5 hb6 hT5
          go_wp2_with fail
          refine (s3 _ hT6).mono ?_
          rintro r w7 ⟨rfl, hb7⟩
          have hT7 := hT6.below hb7
          have hbr7 := hbr6.trans (hb7.mono hbr6.size)
          clear hbr6 hb7 hT6 s3
          go_wp2_with fail
          refine (s4 _ hT7).mono ?_
          rintro r w8 ⟨ad, cap, rfl, hb8⟩
          have hT8 := hT7.below hb8
          have hbr8 := hbr7.trans (hb8.mono hbr7.size)
          clear hbr7 hb8 hT7 s4
          go_wp2_with fail
          refine (s2 _ hT8).mono ?_
          rintro r w9 ⟨rfl, hb9⟩
          have hbr9 := hbr8.trans (hb9.mono hbr8.size)
          clear hbr8 hb9 hT8 s2
          go_wp2
          go_roundw
          case rel => exact ⟨e + 1, by omega, by omega, by go_num, hbr9⟩
          case measure => simp [intOf]; omega
        · obtain rfl : e = 6 := by omega
          clear he he1 he6
          have t2 := fun w' h => size_wf 2 (s ++ t) X w' h (by rw [HZ.out]; omega) HW.out
          have t4 := fun w' h => size_wf 4 (s ++ t) X w' h (by rw [HZ.out]; omega) HW.out
          have t5 := fun w' h => size_wf 5 (s ++ t) X w' h (by rw [HZ.out]; omega) HW.out
          have t3 := fun w' h => size_wf 3 (s ++ t) X w' h (by rw [HZ.out]; omega) HW.out
          have t1 := fun w' h => size_wf 1 (s ++ t) X w' h (by rw [HZ.out]; omega) HW.out
          rw [show (2 : Int).toNat = 2 from rfl] at t2
          rw [show (4 : Int).toNat = 4 from rfl, encAll4, fm4_len] at t4
          rw [show (5 : Int).toNat = 5 from rfl, encAll5, fm4_len] at t5
          rw [show (3 : Int).toNat = 3 from rfl, encAll23] at t3
          have e1 : (M.encAll 1 X).length = s.size + t.size := by rw [← HZ.out, sz_list, HW.out.2]
          rw [show (1 : Int).toNat = 1 from rfl, e1] at t1
          have hm := encAll2_len X
          generalize (M.encAll 2 X).length = Mx at *
          have hmz1 : decide (2 * (X.length : Int) ≤ (Mx : Int)) = true := by simp; omega
          have hmz2 : decide ((Mx : Int) ≤ 4 * (X.length : Int)) = true := by simp; omega
          have hXb : X.length ≤ 600 := by omega
          clear e1 hm
          go_wp2_with fail
          refine (t2 _ hTr).mono ?_
          rintro r w5 ⟨rfl, hb5⟩
          have hT5 := hTr.below hb5
          have hbr5 := hbr.trans (hb5.mono hbr.size)
          clear hbr hb5 hTr t2
          go_wp2_with fail
          refine (t4 _ hT5).mono ?_
          rintro r w6 ⟨rfl, hb6⟩
          have hT6 := hT5.below hb6
          have hbr6 := hbr5.trans (hb6.mono hbr5.size)
          clear hbr5 hb6 hT5 t4
          go_wp2_with fail
          refine (t5 _ hT6).mono ?_
          rintro r w7 ⟨rfl, hb7⟩
          have hT7 := hT6.below hb7
          have hbr7 := hbr6.trans (hb7.mono hbr6.size)
          clear hbr6 hb7 hT6 t5
          go_wp2_with fail
          refine (t3 _ hT7).mono ?_
          rintro r w8 ⟨rfl, hb8⟩
          have hT8 := hT7.below hb8
          have hbr8 := hbr7.trans (hb8.mono hbr7.size)
          clear hbr7 hb8 hT7 t3
          go_wp2_with fail
          refine (t1 _ hT8).mono ?_
          rintro r w9 ⟨rfl, hb9⟩
          have hbr9 := hbr8.trans (hb9.mono hbr8.size)
          clear hbr8 hb9 hT8 t1
          go_wp2
          go_ret
          exact ⟨rfl, hbr9⟩

theorem sizes_any (s t : ByteArray) (w : World) (hT : Tabs w) (hs : s.size ≤ maxLen) (ht : t.size ≤ maxLen) :
    Calls Tryd.prog 5 #[.string s, .string t] w fun r w' => r = .returned (.bool true) ∧ Below w.heap.size w w' := by
  by_cases h : 300 < s.size
  · exact sizes_out s t w hT hs ht (Or.inl h)
  by_cases h' : 300 < t.size
  · exact sizes_out s t w hT hs ht (Or.inr (Or.inl ⟨by omega, h'⟩))
  cases hv : Lib.validD s.data.toList with
  | false => exact sizes_out s t w hT hs ht (Or.inr (Or.inr (Or.inl ⟨by omega, by omega, hv⟩)))
  | true =>
    cases hv' : Lib.validD t.data.toList with
    | false => exact sizes_out s t w hT hs ht (Or.inr (Or.inr (Or.inr ⟨by omega, by omega, hv, hv'⟩)))
    | true =>
      obtain ⟨cs, hw⟩ := M.valid_of _ hv
      obtain ⟨ds, hw'⟩ := M.valid_of _ hv'
      exact sizes_in s t cs ds w hT (by omega) (by omega) hw hw'

end Go.Proofs.YthlbeoakaebcpaaDoor
