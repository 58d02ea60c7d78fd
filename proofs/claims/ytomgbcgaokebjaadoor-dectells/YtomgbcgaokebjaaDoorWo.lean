/- Walks: TrimRight. -/
import Derived.Test.YtomgbcgaokebjaaDoorWc
import Derived.Test.YtomgbcgaokebjaaDoorMd
set_option linter.unusedVariables false
namespace Go.Proofs.YtomgbcgaokebjaaDoor
open Go.RowKit

/-- A text that does not end with a nought. -/
def EndsWell (l : List UInt8) : Prop := l.getLast? ≠ some 48
theorem last_list (t : ByteArray) (h : 0 < t.size) : t.data.toList = t.data.toList.take (t.size - 1) ++ [t[t.size - 1]'(by omega)] := by
  have := take_snoc t (t.size - 1) (by omega)
  rw [show t.size - 1 + 1 = t.size by omega, take_all] at this
  exact this
theorem extract_take (t : ByteArray) (n : Nat) : (t.extract 0 n).data.toList = t.data.toList.take n := by
  simp only [ByteArray.data_extract, Array.toList_extract, List.extract_eq_take_drop, List.drop_zero, Nat.sub_zero]

set_option maxRecDepth 100000 in
set_option maxHeartbeats 1000000 in
theorem trimRByte_any (l : List UInt8) (z : Nat) (s : ByteArray) (w : World) (hs : s.size ≤ 1000000) (hl : EndsWell l) (he : s.data.toList = l ++ M.zs z) :
    Calls Tryd.prog 37 #[.string s, .int .u8 48] w fun e w' => e = .returned (.string (bA l)) ∧ w = w' := by
  have HE := Lib.hid he
  have HL := Lib.hid hl
  clear he hl
  go_enter Tryd.func37, Tryd.ntmps37
  go_wp2
  go_loop [0] (fun v => ∃ (t : ByteArray) (k : Nat), v = .string t ∧ t.size ≤ s.size ∧ Hid (t.data.toList = l ++ M.zs k)) (fun v => match v with | .string t => t.size | _ => 0)
  case atStart => exact ⟨s, z, rfl, Nat.le_refl _, HE.out⟩
  case round =>
    obtain ⟨t, k, rfl, ht, hst⟩ := hrel
    by_cases h0 : 0 < t.size
    · have hlast := last_list t h0
      match k, hst with
      | 0, hst =>
        have e1 : t.data.toList = l := by rw [hst.out]; simp
        have h1 : ¬ (t[t.size - 1]'(by omega)).toNat = 48 := by
          intro e
          have e48 : t[t.size - 1]'(by omega) = 48 := UInt8.toNat_inj.1 e
          apply HL.out
          rw [← e1, hlast, e48]; simp
        have hb : (((t[t.size - 1]'(by omega)).toNat : Int) == 48) = false := by simp; omega
        have E1 := Lib.hid e1
        clear hlast e1 h1 hst
        go_wp2
        go_ret
        exact ⟨ret_str (eq_bA E1.out), rfl⟩
      | k + 1, hst =>
        have e0 := hst.out
        rw [← M.zs_snoc, ← List.append_assoc] at e0
        have e1 := hlast.symm.trans e0
        obtain ⟨e2, e3⟩ := List.append_inj' e1 rfl
        have h1 : (t[t.size - 1]'(by omega)).toNat = 48 := by
          have := List.head_eq_of_cons_eq e3
          rw [this]; rfl
        have E2 := Lib.hid e2
        clear hlast e0 e1 e2 e3 hst
        go_wp2
        go_round
        case rel => exact ⟨_, k, rfl, by simp; omega, by show _ = _; rw [extract_take]; exact E2.out⟩
        case measure => simp; omega
    · have hz : t.data.toList = [] := by
        have := sz_list t
        exact List.eq_nil_of_length_eq_zero (by omega)
      have hl0 : l = [] := by
        have := hst.out
        rw [hz] at this
        exact (List.append_eq_nil_iff.1 this.symm).1
      have HZ := Lib.hid hz
      clear hz hst
      go_wp2
      go_ret
      exact ⟨ret_str (eq_bA HZ.out), rfl⟩

set_option maxRecDepth 100000 in
theorem trimRight_any (l : List UInt8) (z : Nat) (s : ByteArray) (w : World) (hs : s.size ≤ 1000000) (h0 : 0 < s.size) (hl : EndsWell l) (he : s.data.toList = l ++ M.zs z) :
    Calls Tryd.prog 24 #[.string s, .string ⟨#[48]⟩] w fun e w' => e = .returned (.string (bA l)) ∧ w = w' := by
  have c1 := fun W => trimRByte_any l z s W hs hl he
  have hne : s.data.toList ≠ [] := by intro h; rw [sz_list, h] at h0; exact absurd h0 (by simp)
  have h1 : (s.toList == []) = false := by rw [ByteArray.toList_eq]; simpa using hne
  have h2 : s.toList.isEmpty = false := by rw [ByteArray.toList_eq]; simpa using hne
  clear hne he hl
  generalize bA l = R at *
  go_enter Tryd.func24, Tryd.ntmps24
  go_wp2_with fail
  refine (c1 _).mono ?_
  rintro r w' ⟨rfl, rfl⟩
  go_wp2
  go_ret
  exact ⟨rfl, rfl⟩
end Go.Proofs.YtomgbcgaokebjaaDoor
