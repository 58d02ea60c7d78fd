/- The law UtfTurned: its walk. -/
import Derived.Test.YthlbeoakaebcpaaDoorWj
import Derived.Test.YthlbeoakaebcpaaDoorRc
namespace Go.Proofs.YthlbeoakaebcpaaDoor
open Go.RowKit

theorem encode_ne (e : Nat) (he : 1 ≤ e ∧ e ≤ 5) (s : ByteArray) (cs : List Nat) (w : World) (hT : Tabs w) (hs : s.size ≤ 2000) (hw : M.Wf s.data.toList cs) (hc : cs ≠ []) :
    Calls Tryd.prog 16 #[.int .i64 e, .string s] w fun r w' => ∃ g, r = .returned (.slice (some ⟨g, 0, none⟩) (M.encAll e cs).length (M.encAll e cs).length) ∧ w.heap.size ≤ g ∧ g < w'.heap.size ∧ HasBytes w' g 0 (M.encAll e cs) ∧ Below w.heap.size w w' := by
  refine (encode_wf e s cs w hT hs hw).mono ?_
  rintro r w' ⟨h, hb⟩
  rw [Int.toNat_natCast] at h
  rcases h with ⟨h, _⟩ | ⟨_, g, h1, h2, h3, h4⟩
  · exfalso
    cases cs with
    | nil => exact hc rfl
    | cons c cs =>
      have := M.enc1_length e c he
      rw [M.encAll_cons] at h
      have h2 := congrArg List.length h
      rw [List.length_append, List.length_nil] at h2
      omega
  · exact ⟨g, h1, h2, h3, h4, hb⟩
theorem encode_none (e : Int) (w : World) (hT : Tabs w) :
    Calls Tryd.prog 16 #[.int .i64 e, .string ⟨#[]⟩] w fun r w' => r = .returned (.slice none 0 0) ∧ Below w.heap.size w w' := by
  refine (encode_wf e ⟨#[]⟩ [] w hT (by decide) ⟨by simp, rfl⟩).mono ?_
  rintro r w' ⟨h, hb⟩
  rcases h with ⟨_, h⟩ | ⟨h, _⟩
  · exact ⟨h, hb⟩
  · exact absurd rfl h
theorem cs_nil {s : ByteArray} (h : M.Wf s.data.toList []) : s = ⟨#[]⟩ := by
  have h2 := h.2
  rw [M.encAll_nil] at h2
  obtain ⟨⟨l⟩⟩ := s
  simp only at h2
  rw [h2]

theorem turn2 (us : List Nat) : ∀ i, i < 2 * us.length → M.by8 (us.flatMap (M.unit2 true)) i = M.by8 (us.flatMap (M.unit2 false)) (i / 2 * 2 + 1 - i % 2) := by
  induction us with
  | nil => intro i h; simp at h
  | cons u us ih =>
    intro i h
    rw [List.flatMap_cons, List.flatMap_cons]
    by_cases h2 : i < 2
    · rw [by8_append_left _ _ _ (by rw [M.unit2_length]; omega), by8_append_left _ _ _ (by rw [M.unit2_length]; omega)]
      have : i = 0 ∨ i = 1 := by omega
      rcases this with rfl | rfl <;> rfl
    · rw [by8_append_right _ _ _ (by rw [M.unit2_length]; omega), by8_append_right _ _ _ (by rw [M.unit2_length]; omega), M.unit2_length, M.unit2_length, ih (i - 2) (by simp at h; omega)]
      congr 1; omega
theorem turn4 (us : List Nat) : ∀ i, i < 4 * us.length → M.by8 (us.flatMap (M.unit4 true)) i = M.by8 (us.flatMap (M.unit4 false)) (i / 4 * 4 + 3 - i % 4) := by
  induction us with
  | nil => intro i h; simp at h
  | cons u us ih =>
    intro i h
    rw [List.flatMap_cons, List.flatMap_cons]
    by_cases h2 : i < 4
    · rw [by8_append_left _ _ _ (by rw [M.unit4_length]; omega), by8_append_left _ _ _ (by rw [M.unit4_length]; omega)]
      have : i = 0 ∨ i = 1 ∨ i = 2 ∨ i = 3 := by omega
      rcases this with rfl | rfl | rfl | rfl <;> rfl
    · rw [by8_append_right _ _ _ (by rw [M.unit4_length]; omega), by8_append_right _ _ _ (by rw [M.unit4_length]; omega), M.unit4_length, M.unit4_length, ih (i - 4) (by simp at h; omega)]
      congr 1; omega
def us16 (c : Nat) : List Nat := if c < 65536 then [c] else [55296 + (c - 65536) / 1024, 56320 + (c - 65536) % 1024]
theorem utf16_us (be : Bool) (c : Nat) : M.utf16 be c = (us16 c).flatMap (M.unit2 be) := by unfold M.utf16 us16; split <;> simp
theorem encAll2 (cs : List Nat) : M.encAll 2 cs = (cs.flatMap us16).flatMap (M.unit2 true) := by
  induction cs with
  | nil => rfl
  | cons c cs ih => rw [M.encAll_cons, ih, M.enc1_2, utf16_us, List.flatMap_cons, List.flatMap_append]
theorem encAll3 (cs : List Nat) : M.encAll 3 cs = (cs.flatMap us16).flatMap (M.unit2 false) := by
  induction cs with
  | nil => rfl
  | cons c cs ih => rw [M.encAll_cons, ih, M.enc1_3, utf16_us, List.flatMap_cons, List.flatMap_append]
theorem encAll4 (cs : List Nat) : M.encAll 4 cs = cs.flatMap (M.unit4 true) := by
  induction cs with
  | nil => rfl
  | cons c cs ih => rw [M.encAll_cons, ih, M.enc1_4, List.flatMap_cons]
theorem encAll5 (cs : List Nat) : M.encAll 5 cs = cs.flatMap (M.unit4 false) := by
  induction cs with
  | nil => rfl
  | cons c cs ih => rw [M.encAll_cons, ih, M.enc1_5, List.flatMap_cons]
theorem fm2_len (be : Bool) (us : List Nat) : (us.flatMap (M.unit2 be)).length = 2 * us.length := by
  induction us with
  | nil => rfl
  | cons u us ih => rw [List.flatMap_cons, List.length_append, ih, M.unit2_length, List.length_cons]; omega
theorem fm4_len (be : Bool) (us : List Nat) : (us.flatMap (M.unit4 be)).length = 4 * us.length := by
  induction us with
  | nil => rfl
  | cons u us ih => rw [List.flatMap_cons, List.length_append, ih, M.unit4_length, List.length_cons]; omega

set_option maxRecDepth 100000 in
set_option maxHeartbeats 4000000 in
/-- A text of more than 300 bytes, or one that isn't well-formed. -/
theorem turned_out (s : ByteArray) (b : Bool) (w : World) (hT : Tabs w) (hs : s.size ≤ maxLen) (h : 300 < s.size ∨ (s.size ≤ 300 ∧ Lib.validD s.data.toList = false)) :
    Calls Tryd.prog 9 #[.string s, .bool b] w fun r w' => r = .returned (.bool true) ∧ Below w.heap.size w w' := by
  unfold maxLen at hs
  rcases h with h | ⟨h, hv⟩
  · have d1 : decide ((300 : Int) < (s.size : Int)) = true := by simp; omega
    go_enter Tryd.func9, Tryd.ntmps9
    go_wp2_with (go_at_call 10; refine (known_any _ hT).mono ?_; rintro r w1 ⟨rfl, hb⟩)
    go_ret
    exact ⟨rfl, hb⟩
  · have d1 : decide ((300 : Int) < (s.size : Int)) = false := by simp; omega
    have c1 := fun w => well_any s w (by omega)
    rw [hv] at c1
    clear hv
    go_enter Tryd.func9, Tryd.ntmps9
    go_wp2_with (first | (go_at_call 10; refine (known_any _ hT).mono ?_; rintro r w1 ⟨rfl, hb⟩) | (go_at_call 21; refine (c1 _).mono ?_; rintro r w2 ⟨rfl, rfl⟩))
    go_ret
    exact ⟨rfl, hb⟩

set_option maxRecDepth 100000 in
set_option maxHeartbeats 4000000 in
theorem turned_narrow (s : ByteArray) (cs : List Nat) (w : World) (hT : Tabs w) (hs : s.size ≤ 300) (hw : M.Wf s.data.toList cs) (hc : cs ≠ []) :
    Calls Tryd.prog 9 #[.string s, .bool false] w fun r w' => r = .returned (.bool true) ∧ Below w.heap.size w w' := by
  have d1 : decide ((300 : Int) < (s.size : Int)) = false := by simp; omega
  have c1 := fun w => well_any s w (by omega)
  rw [M.valid_wf hw] at c1
  have c2 := fun w hT => encode_ne 2 (by omega) s cs w hT (by omega) hw hc
  have c3 := fun w hT => encode_ne 3 (by omega) s cs w hT (by omega) hw hc
  have hcl := M.wf_len hw
  rw [← sz_list] at hcl
  have hlb := M.encAll_le 2 cs
  rw [encAll2] at c2 hlb
  rw [encAll3] at c3
  have ht := turn2 (cs.flatMap us16)
  generalize cs.flatMap us16 = us at c2 c3 ht hlb
  have hl3 := fm2_len false us
  have hl2 := fm2_len true us
  rw [hl2] at hlb
  rw [hl2] at c2
  rw [hl3] at c3
  generalize us.flatMap (M.unit2 true) = A at *
  generalize us.flatMap (M.unit2 false) = B at *
  obtain ⟨m, hm⟩ : ∃ m, us.length = m := ⟨_, rfl⟩
  rw [hm] at c2 c3 ht hl2 hl3 hlb
  have HT := Lib.hid ht
  have HA := Lib.hid hl2
  have HB := Lib.hid hl3
  have hmb : m ≤ 600 := by omega
  clear hw hc hm ht hl2 hl3 hlb hcl
  go_enter Tryd.func9, Tryd.ntmps9
  go_wp2_with (first | (go_at_call 10; refine (known_any _ hT).mono ?_; rintro r w1 ⟨rfl, hb⟩) | (go_at_call 21; refine (c1 _).mono ?_; rintro r w2 ⟨rfl, rfl⟩) | fail)
  have hT1 := hT.below hb
  refine (c2 w1 hT1).mono ?_
  rintro r w2 ⟨g2, rfl, hg2, hg2', hB2, hb2⟩
  have hT2 := hT1.below hb2
  go_wp2_with fail
  refine (c3 w2 hT2).mono ?_
  rintro r w3 ⟨g3, rfl, hg3, hg3', hB3, hb3⟩
  have hB2' := hB2.below hg2' hb3
  have hb13 := hb.trans ((hb2.trans (hb3.mono hb2.size)).mono hb.size)
  clear hB2 c1 c2 c3 hT hT1 hT2 hb hb2 hb3
  go_wp2
  go_loopw [8] (fun v wr => ∃ i : Nat, i ≤ 2 * m ∧ v = .int .i64 i ∧ ∃ q, wr = w3.drewN q) (fun v _ => 2 * m - (intOf v).toNat)
  case atStart => exact ⟨0, by omega, rfl, 0, rfl⟩
  case round =>
    obtain ⟨i, hi, rfl, q, rfl⟩ := hrel
    by_cases hlt : i < 2 * m
    · have hltz : decide ((i : Int) < 2 * (m : Int)) = true := by simp; omega
      obtain ⟨j, hj⟩ : ∃ j, i / 2 * 2 + 1 - i % 2 = j := ⟨_, rfl⟩
      have hx := HT.out i hlt
      rw [hj] at hx
      have ca : w3.cell? ⟨g2, i, none⟩ = some (.int .u8 (M.by8 A i)) := by have := hB2' i (by rw [HA.out]; exact hlt); rwa [Nat.zero_add] at this
      have cb : w3.cell? ⟨g3, j, none⟩ = some (.int .u8 (M.by8 B j)) := by have := hB3 j (by rw [HB.out]; omega); rwa [Nat.zero_add] at this
      rw [← hx] at cb
      generalize M.by8 A i = X at ca cb
      have f1 : (i : Int) / 2 * 2 + 2 - 1 - (i : Int) % 2 = (j : Int) := by omega
      have f2 : (j : Int) < 2 * (m : Int) := by omega
      have f3 : (i : Int) < 2 * (m : Int) := by omega
      clear hx hj hB2' hB3 hltz
      go_wp2
      go_quiet (fail)
      go_wp2
      go_roundw
      case rel => exact ⟨i + 1, by omega, by go_num, _, rfl⟩
      case measure => simp [intOf]; omega
    · obtain rfl : i = 2 * m := by omega
      have hltz : decide ((2 * (m : Int)) < 2 * (m : Int)) = false := by simp
      clear hB2' hB3
      go_wp2
      go_ret
      exact ⟨rfl, below_dN hb13 _⟩


set_option maxRecDepth 100000 in
set_option maxHeartbeats 4000000 in
theorem turned_wide (s : ByteArray) (cs : List Nat) (w : World) (hT : Tabs w) (hs : s.size ≤ 300) (hw : M.Wf s.data.toList cs) (hc : cs ≠ []) :
    Calls Tryd.prog 9 #[.string s, .bool true] w fun r w' => r = .returned (.bool true) ∧ Below w.heap.size w w' := by
  have d1 : decide ((300 : Int) < (s.size : Int)) = false := by simp; omega
  have c1 := fun w => well_any s w (by omega)
  rw [M.valid_wf hw] at c1
  have c2 := fun w hT => encode_ne 4 (by omega) s cs w hT (by omega) hw hc
  have c3 := fun w hT => encode_ne 5 (by omega) s cs w hT (by omega) hw hc
  have c2n := fun w hT => encode_ne 2 (by omega) s cs w hT (by omega) hw hc
  have c3n := fun w hT => encode_ne 3 (by omega) s cs w hT (by omega) hw hc
  have hcl := M.wf_len hw
  rw [← sz_list] at hcl
  have hlb := M.encAll_le 4 cs
  rw [encAll4] at c2 hlb
  rw [encAll5] at c3
  have ht := turn4 cs
  have hcs : cs.length ≤ 300 := by omega
  obtain ⟨us, hus⟩ : ∃ us, us = cs := ⟨_, rfl⟩
  rw [← hus] at c2 c3 ht hlb
  have hl3 := fm4_len false us
  have hl2 := fm4_len true us
  rw [hl2] at hlb
  rw [hl2] at c2
  rw [hl3] at c3
  generalize us.flatMap (M.unit4 true) = A at *
  generalize us.flatMap (M.unit4 false) = B at *
  obtain ⟨m, hm⟩ : ∃ m, us.length = m := ⟨_, rfl⟩
  rw [hm] at c2 c3 ht hl2 hl3 hlb
  have HT := Lib.hid ht
  have HA := Lib.hid hl2
  have HB := Lib.hid hl3
  have hmb : m ≤ 600 := by rw [← hm, hus]; omega
  have hlx : (M.encAll 2 cs).length = (M.encAll 3 cs).length := by rw [encAll2, encAll3, fm2_len, fm2_len]
  rw [← hlx] at c3n
  have hly : (M.encAll 2 cs).length ≤ 1200 := by have := M.encAll_le 2 cs; omega
  generalize (M.encAll 2 cs).length = N2 at *
  generalize M.encAll 2 cs = L2 at *
  generalize M.encAll 3 cs = L3 at *
  clear hw hc hm ht hl2 hl3 hlb hcl hus hcs
  go_enter Tryd.func9, Tryd.ntmps9
  go_wp2_with (first | (go_at_call 10; refine (known_any _ hT).mono ?_; rintro r w1 ⟨rfl, hb⟩) | (go_at_call 21; refine (c1 _).mono ?_; rintro r w2 ⟨rfl, rfl⟩) | fail)
  have hT01 := hT.below hb
  refine (c2n w1 hT01).mono ?_
  rintro r wx ⟨gx, rfl, _, _, _, hbx⟩
  have hTx := hT01.below hbx
  go_wp2_with fail
  refine (c3n wx hTx).mono ?_
  rintro r wy ⟨gy, rfl, _, _, _, hby⟩
  have hT1 := hTx.below hby
  have hb0y := hb.trans ((hbx.trans (hby.mono hbx.size)).mono hb.size)
  clear c2n c3n hb hbx hby hTx hT01
  go_wp2_with fail
  refine (c2 wy hT1).mono ?_
  rintro r w2 ⟨g2, rfl, hg2, hg2', hB2, hb2⟩
  have hT2 := hT1.below hb2
  go_wp2_with fail
  refine (c3 w2 hT2).mono ?_
  rintro r w3 ⟨g3, rfl, hg3, hg3', hB3, hb3⟩
  have hB2' := hB2.below hg2' hb3
  have hb13 := hb0y.trans ((hb2.trans (hb3.mono hb2.size)).mono hb0y.size)
  clear hB2 c1 c2 c3 hT hT1 hT2 hb0y hb2 hb3
  go_wp2
  go_loopw [8] (fun v wr => ∃ i : Nat, i ≤ 4 * m ∧ v = .int .i64 i ∧ ∃ q, wr = w3.drewN q) (fun v _ => 4 * m - (intOf v).toNat)
  case atStart => exact ⟨0, by omega, rfl, 0, rfl⟩
  case round =>
    obtain ⟨i, hi, rfl, q, rfl⟩ := hrel
    by_cases hlt : i < 4 * m
    · have hltz : decide ((i : Int) < 4 * (m : Int)) = true := by simp; omega
      obtain ⟨j, hj⟩ : ∃ j, i / 4 * 4 + 3 - i % 4 = j := ⟨_, rfl⟩
      have hx := HT.out i hlt
      rw [hj] at hx
      have ca : w3.cell? ⟨g2, i, none⟩ = some (.int .u8 (M.by8 A i)) := by have := hB2' i (by rw [HA.out]; exact hlt); rwa [Nat.zero_add] at this
      have cb : w3.cell? ⟨g3, j, none⟩ = some (.int .u8 (M.by8 B j)) := by have := hB3 j (by rw [HB.out]; omega); rwa [Nat.zero_add] at this
      rw [← hx] at cb
      generalize M.by8 A i = X at ca cb
      have f1 : (i : Int) / 4 * 4 + 4 - 1 - (i : Int) % 4 = (j : Int) := by omega
      have f2 : (j : Int) < 4 * (m : Int) := by omega
      have f3 : (i : Int) < 4 * (m : Int) := by omega
      clear hx hj hB2' hB3 hltz
      go_wp2
      go_quiet (fail)
      go_wp2
      go_roundw
      case rel => exact ⟨i + 1, by omega, by go_num, _, rfl⟩
      case measure => simp [intOf]; omega
    · obtain rfl : i = 4 * m := by omega
      have hltz : decide ((4 * (m : Int)) < 4 * (m : Int)) = false := by simp
      clear hB2' hB3
      go_wp2
      go_ret
      exact ⟨rfl, below_dN hb13 _⟩


set_option maxRecDepth 100000 in
set_option maxHeartbeats 4000000 in
theorem turned_empty (b : Bool) (w : World) (hT : Tabs w) :
    Calls Tryd.prog 9 #[.string ⟨#[]⟩, .bool b] w fun r w' => r = .returned (.bool true) ∧ Below w.heap.size w w' := by
  have c1 : ∀ w, Calls Tryd.prog 21 #[.string ⟨#[]⟩] w fun r w' => r = .returned (.bool true) ∧ w = w' := fun w => well_any ⟨#[]⟩ w (by decide)
  cases b
  · go_enter Tryd.func9, Tryd.ntmps9
    go_wp2_with (first | (go_at_call 10; refine (known_any _ hT).mono ?_; rintro r w1 ⟨rfl, hb⟩) | (go_at_call 21; refine (c1 _).mono ?_; rintro r w2 ⟨rfl, rfl⟩) | fail)
    have hT1 := hT.below hb
    refine (encode_none 2 w1 hT1).mono ?_
    rintro r w2 ⟨rfl, hb2⟩
    have hT2 := hT1.below hb2
    go_wp2_with fail
    refine (encode_none 3 w2 hT2).mono ?_
    rintro r w3 ⟨rfl, hb3⟩
    go_wp2
    go_loop [8] (fun v => v = .int .i64 0) (fun _ => 0)
    case atStart => rfl
    case round =>
      subst hrel
      go_wp2
      go_ret
      exact ⟨rfl, hb.trans ((hb2.trans (hb3.mono hb2.size)).mono hb.size)⟩
  · go_enter Tryd.func9, Tryd.ntmps9
    go_wp2_with (first | (go_at_call 10; refine (known_any _ hT).mono ?_; rintro r w1 ⟨rfl, hb⟩) | (go_at_call 21; refine (c1 _).mono ?_; rintro r w2 ⟨rfl, rfl⟩) | fail)
    have hT1 := hT.below hb
    refine (encode_none 2 w1 hT1).mono ?_
    rintro r w2 ⟨rfl, hb2⟩
    have hT2 := hT1.below hb2
    go_wp2_with fail
    refine (encode_none 3 w2 hT2).mono ?_
    rintro r w3 ⟨rfl, hb3⟩
    have hT3 := hT2.below hb3
    have hb03 := hb.trans ((hb2.trans (hb3.mono hb2.size)).mono hb.size)
    go_wp2_with fail
    refine (encode_none 4 w3 hT3).mono ?_
    rintro r w4 ⟨rfl, hb4⟩
    have hT4 := hT3.below hb4
    go_wp2_with fail
    refine (encode_none 5 w4 hT4).mono ?_
    rintro r w5 ⟨rfl, hb5⟩
    go_wp2
    go_loop [8] (fun v => v = .int .i64 0) (fun _ => 0)
    case atStart => rfl
    case round =>
      subst hrel
      go_wp2
      go_ret
      exact ⟨rfl, hb03.trans ((hb4.trans (hb5.mono hb4.size)).mono hb03.size)⟩

theorem turned_any (s : ByteArray) (b : Bool) (w : World) (hT : Tabs w) (hs : s.size ≤ maxLen) :
    Calls Tryd.prog 9 #[.string s, .bool b] w fun r w' => r = .returned (.bool true) ∧ Below w.heap.size w w' := by
  by_cases h : 300 < s.size
  · exact turned_out s b w hT hs (Or.inl h)
  cases hv : Lib.validD s.data.toList with
  | false => exact turned_out s b w hT hs (Or.inr ⟨by omega, hv⟩)
  | true =>
    obtain ⟨cs, hw⟩ := M.valid_of _ hv
    cases cs with
    | nil => rw [cs_nil hw]; exact turned_empty b w hT
    | cons c cs =>
      cases b with
      | false => exact turned_narrow s _ w hT (by omega) hw (by simp)
      | true => exact turned_wide s _ w hT (by omega) hw (by simp)

end Go.Proofs.YthlbeoakaebcpaaDoor
