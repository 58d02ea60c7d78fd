/- Plain mathematics of the five encodings: the bytes of a scalar, the scalar at a beginning of bytes, there and back. No program in it. -/
import Derived.Lib.RuneBytes
import Derived.Lib.DecodeN
set_option linter.unusedVariables false
namespace Go.Proofs.Ythbmppkngaifmaa.M
open Go.Lib

def by8 (l : List UInt8) (i : Nat) : Nat := (l.getD i 0).toNat
theorem by8_lt (l : List UInt8) (i : Nat) : by8 l i < 256 := (l.getD i 0).toNat_lt
def IsScalar (c : Nat) : Prop := c < 55296 ∨ (57344 ≤ c ∧ c ≤ 1114111)
def u8 (n : Nat) : UInt8 := UInt8.ofNat n
theorem u8_toNat (n : Nat) : (u8 n).toNat = n % 256 := by simp [u8, UInt8.toNat_ofNat']

def utf8 (c : Nat) : List UInt8 :=
  if c < 128 then [u8 c]
  else if c < 2048 then [u8 (192 + c / 64), u8 (128 + c % 64)]
  else if c < 65536 then [u8 (224 + c / 4096), u8 (128 + c / 64 % 64), u8 (128 + c % 64)]
  else [u8 (240 + c / 262144), u8 (128 + c / 4096 % 64), u8 (128 + c / 64 % 64), u8 (128 + c % 64)]
def unit2 (be : Bool) (u : Nat) : List UInt8 := if be = true then [u8 (u / 256), u8 u] else [u8 u, u8 (u / 256)]
def unit4 (be : Bool) (u : Nat) : List UInt8 :=
  if be = true then [u8 (u / 16777216), u8 (u / 65536), u8 (u / 256), u8 u] else [u8 u, u8 (u / 256), u8 (u / 65536), u8 (u / 16777216)]
def utf16 (be : Bool) (c : Nat) : List UInt8 :=
  if c < 65536 then unit2 be c else unit2 be (55296 + (c - 65536) / 1024) ++ unit2 be (56320 + (c - 65536) % 1024)
/-- The bytes of a scalar in an encoding; none, if it is no encoding. -/
def enc1 (e c : Nat) : List UInt8 :=
  if e = 1 then utf8 c else if e = 2 then utf16 true c else if e = 3 then utf16 false c else if e = 4 then unit4 true c else if e = 5 then unit4 false c else []
def encAll (e : Nat) (cs : List Nat) : List UInt8 := cs.flatMap (enc1 e)

def rd2 (be : Bool) (l : List UInt8) (i : Nat) : Nat := if be = true then by8 l i * 256 + by8 l (i + 1) else by8 l (i + 1) * 256 + by8 l i
def rd4 (be : Bool) (l : List UInt8) : Nat :=
  if be = true then by8 l 0 * 16777216 + by8 l 1 * 65536 + by8 l 2 * 256 + by8 l 3 else by8 l 3 * 16777216 + by8 l 2 * 65536 + by8 l 1 * 256 + by8 l 0
def dN (l : List UInt8) : Nat × Nat := decodeN l.length (by8 l 0) (by8 l 1) (by8 l 2) (by8 l 3)
def nx8 (l : List UInt8) : Nat × Nat := if l = [] ∨ dN l = (65533, 1) then (0, 0) else dN l
def nx16 (be : Bool) (l : List UInt8) : Nat × Nat :=
  if l.length < 2 then (0, 0) else if rd2 be l 0 < 55296 ∨ 57344 ≤ rd2 be l 0 then (rd2 be l 0, 2)
  else if 56320 ≤ rd2 be l 0 ∨ l.length < 4 then (0, 0) else if rd2 be l 2 < 56320 ∨ 57344 ≤ rd2 be l 2 then (0, 0)
  else (65536 + (rd2 be l 0 - 55296) * 1024 + (rd2 be l 2 - 56320), 4)
def nx32 (be : Bool) (l : List UInt8) : Nat × Nat :=
  if l.length < 4 then (0, 0) else if 1114111 < rd4 be l ∨ (55296 ≤ rd4 be l ∧ rd4 be l < 57344) then (0, 0) else (rd4 be l, 4)
/-- The scalar with which bytes begin in an encoding, and how many bytes it has; (0, 0): there is none. -/
def nx (e : Nat) (l : List UInt8) : Nat × Nat :=
  if e = 1 then nx8 l else if e = 2 then nx16 true l else if e = 3 then nx16 false l else if e = 4 then nx32 true l else nx32 false l

theorem by8_0 (x : UInt8) (l : List UInt8) : by8 (x :: l) 0 = x.toNat := by simp [by8]
theorem by8_1 (x y : UInt8) (l : List UInt8) : by8 (x :: y :: l) 1 = y.toNat := by simp [by8]
theorem by8_2 (x y z : UInt8) (l : List UInt8) : by8 (x :: y :: z :: l) 2 = z.toNat := by simp [by8]
theorem by8_3 (x y z u : UInt8) (l : List UInt8) : by8 (x :: y :: z :: u :: l) 3 = u.toNat := by simp [by8]

theorem dN_one (c n b1 b2 b3 : Nat) (h : c < 128) : decodeN n c b1 b2 b3 = (c, 1) := by
  unfold decodeN; rw [if_pos h]
theorem dN_two (c n b2 b3 : Nat) (h0 : 128 ≤ c) (h1 : c < 2048) (hn : 2 ≤ n) : decodeN n (192 + c / 64) (128 + c % 64) b2 b3 = (c, 2) := by
  unfold decodeN
  rw [if_neg (by omega), if_pos (by omega), if_pos (by omega)]
  congr 1; omega
theorem dN_three (c n b3 : Nat) (h0 : 2048 ≤ c) (h1 : c < 65536) (hs : c < 55296 ∨ 57344 ≤ c) (hn : 3 ≤ n) : decodeN n (224 + c / 4096) (128 + c / 64 % 64) (128 + c % 64) b3 = (c, 3) := by
  unfold decodeN
  rw [if_neg (by omega), if_neg (by omega), if_pos (by omega), if_pos (by omega)]
  congr 1; omega
theorem dN_four (c n : Nat) (h0 : 65536 ≤ c) (h1 : c ≤ 1114111) (hn : 4 ≤ n) : decodeN n (240 + c / 262144) (128 + c / 4096 % 64) (128 + c / 64 % 64) (128 + c % 64) = (c, 4) := by
  unfold decodeN
  rw [if_neg (by omega), if_neg (by omega), if_neg (by omega), if_pos (by omega), if_pos (by omega)]
  congr 1; omega

theorem nx8_of (l : List UInt8) (c n : Nat) (hl : l ≠ []) (h : dN l = (c, n)) (hn : n ≠ 1 ∨ c ≠ 65533) : nx8 l = (c, n) := by
  unfold nx8
  rw [if_neg, h]
  rintro (h' | h')
  · exact hl h'
  · rw [h] at h'
    have h1 := congrArg Prod.fst h'
    have h2 := congrArg Prod.snd h'
    simp only at h1 h2
    omega
theorem nx8_enc (c : Nat) (r : List UInt8) (hc : IsScalar c) : nx8 (utf8 c ++ r) = (c, (utf8 c).length) := by
  unfold IsScalar at hc
  unfold utf8
  by_cases h1 : c < 128
  · rw [if_pos h1]
    refine nx8_of _ _ _ (by simp) ?_ (by omega)
    rw [List.cons_append, List.nil_append, dN, by8_0, u8_toNat, show c % 256 = c by omega, dN_one c _ _ _ _ h1]; rfl
  · rw [if_neg h1]
    by_cases h2 : c < 2048
    · rw [if_pos h2]
      refine nx8_of _ _ _ (by simp) ?_ (by simp)
      simp only [List.cons_append, List.nil_append, dN, by8_0, by8_1, u8_toNat]
      rw [show (192 + c / 64) % 256 = 192 + c / 64 by omega, show (128 + c % 64) % 256 = 128 + c % 64 by omega, dN_two c _ _ _ (by omega) h2 (by simp)]; rfl
    · rw [if_neg h2]
      by_cases h3 : c < 65536
      · rw [if_pos h3]
        refine nx8_of _ _ _ (by simp) ?_ (by simp)
        simp only [List.cons_append, List.nil_append, dN, by8_0, by8_1, by8_2, u8_toNat]
        rw [show (224 + c / 4096) % 256 = 224 + c / 4096 by omega, show (128 + c / 64 % 64) % 256 = 128 + c / 64 % 64 by omega, show (128 + c % 64) % 256 = 128 + c % 64 by omega, dN_three c _ _ (by omega) h3 (by omega) (by simp)]; rfl
      · rw [if_neg h3]
        refine nx8_of _ _ _ (by simp) ?_ (by simp)
        simp only [List.cons_append, List.nil_append, dN, by8_0, by8_1, by8_2, by8_3, u8_toNat]
        rw [show (240 + c / 262144) % 256 = 240 + c / 262144 by omega, show (128 + c / 4096 % 64) % 256 = 128 + c / 4096 % 64 by omega, show (128 + c / 64 % 64) % 256 = 128 + c / 64 % 64 by omega, show (128 + c % 64) % 256 = 128 + c % 64 by omega, dN_four c _ (by omega) (by omega) (by simp)]; rfl

theorem rd2_lt (be : Bool) (l : List UInt8) (i : Nat) : rd2 be l i < 65536 := by
  have a := by8_lt l i; have b := by8_lt l (i + 1); unfold rd2; split <;> omega
theorem rd4_lt (be : Bool) (l : List UInt8) : rd4 be l < 4294967296 := by
  have a := by8_lt l 0; have b := by8_lt l 1; have c := by8_lt l 2; have d := by8_lt l 3; unfold rd4; split <;> omega
theorem rd2_unit2 (be : Bool) (u : Nat) (r : List UInt8) (h : u < 65536) : rd2 be (unit2 be u ++ r) 0 = u := by
  cases be <;> simp [rd2, unit2, by8, u8_toNat] <;> omega
theorem rd2_unit22 (be : Bool) (u v : Nat) (r : List UInt8) (h : v < 65536) : rd2 be (unit2 be u ++ unit2 be v ++ r) 2 = v := by
  cases be <;> simp [rd2, unit2, by8, u8_toNat] <;> omega
theorem unit2_length (be : Bool) (u : Nat) : (unit2 be u).length = 2 := by cases be <;> rfl
theorem unit4_length (be : Bool) (u : Nat) : (unit4 be u).length = 4 := by cases be <;> rfl
theorem rd4_unit4 (be : Bool) (u : Nat) (r : List UInt8) (h : u < 4294967296) : rd4 be (unit4 be u ++ r) = u := by
  cases be <;> simp [rd4, unit4, by8, u8_toNat] <;> omega

theorem nx16_enc (be : Bool) (c : Nat) (r : List UInt8) (hc : IsScalar c) : nx16 be (utf16 be c ++ r) = (c, (utf16 be c).length) := by
  unfold IsScalar at hc
  unfold utf16
  by_cases h : c < 65536
  · rw [if_pos h]
    unfold nx16
    rw [if_neg (by simp [unit2_length]), rd2_unit2 be c r h, if_pos (by omega), unit2_length]
  · rw [if_neg h]
    unfold nx16
    rw [if_neg (by simp [unit2_length]), rd2_unit22 be _ _ r (by omega), List.append_assoc, rd2_unit2 be _ _ (by omega), if_neg (by omega), if_neg (by simp [unit2_length]; omega), if_neg (by omega)]
    simp [unit2_length]
    omega
theorem nx32_enc (be : Bool) (c : Nat) (r : List UInt8) (hc : IsScalar c) : nx32 be (unit4 be c ++ r) = (c, (unit4 be c).length) := by
  unfold IsScalar at hc
  unfold nx32
  rw [if_neg (by simp [unit4_length]), rd4_unit4 be c r (by omega), if_neg (by omega), unit4_length]

theorem nx_1 (l : List UInt8) : nx 1 l = nx8 l := by simp [nx]
theorem nx_2 (l : List UInt8) : nx 2 l = nx16 true l := by simp [nx]
theorem nx_3 (l : List UInt8) : nx 3 l = nx16 false l := by simp [nx]
theorem nx_4 (l : List UInt8) : nx 4 l = nx32 true l := by simp [nx]
theorem nx_5 (l : List UInt8) : nx 5 l = nx32 false l := by simp [nx]
theorem enc1_1 (c : Nat) : enc1 1 c = utf8 c := by simp [enc1]
theorem enc1_2 (c : Nat) : enc1 2 c = utf16 true c := by simp [enc1]
theorem enc1_3 (c : Nat) : enc1 3 c = utf16 false c := by simp [enc1]
theorem enc1_4 (c : Nat) : enc1 4 c = unit4 true c := by simp [enc1]
theorem enc1_5 (c : Nat) : enc1 5 c = unit4 false c := by simp [enc1]
theorem five {e : Nat} (he : 1 ≤ e ∧ e ≤ 5) : e = 1 ∨ e = 2 ∨ e = 3 ∨ e = 4 ∨ e = 5 := by omega
/-- What is written is read. -/
theorem nx_enc (e c : Nat) (r : List UInt8) (he : 1 ≤ e ∧ e ≤ 5) (hc : IsScalar c) : nx e (enc1 e c ++ r) = (c, (enc1 e c).length) := by
  rcases five he with rfl | rfl | rfl | rfl | rfl
  · rw [nx_1, enc1_1]; exact nx8_enc c r hc
  · rw [nx_2, enc1_2]; exact nx16_enc true c r hc
  · rw [nx_3, enc1_3]; exact nx16_enc false c r hc
  · rw [nx_4, enc1_4]; exact nx32_enc true c r hc
  · rw [nx_5, enc1_5]; exact nx32_enc false c r hc

theorem utf8_length (c : Nat) : 1 ≤ (utf8 c).length ∧ (utf8 c).length ≤ 4 := by
  unfold utf8
  repeat' split
  all_goals simp
theorem enc1_length (e c : Nat) (he : 1 ≤ e ∧ e ≤ 5) : 1 ≤ (enc1 e c).length ∧ (enc1 e c).length ≤ 4 := by
  have h := utf8_length c
  rcases five he with rfl | rfl | rfl | rfl | rfl
  · rw [enc1_1]; exact h
  · rw [enc1_2, utf16]; split <;> simp [unit2_length]
  · rw [enc1_3, utf16]; split <;> simp [unit2_length]
  · rw [enc1_4, unit4_length]; omega
  · rw [enc1_5, unit4_length]; omega

end Go.Proofs.Ythbmppkngaifmaa.M
