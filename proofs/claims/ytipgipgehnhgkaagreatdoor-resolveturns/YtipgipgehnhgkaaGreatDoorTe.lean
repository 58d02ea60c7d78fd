/- Walks: strconv.Itoa, strings.Repeat, strings.Clone off the shelf, strings.TrimRight, stamp's padded; targumref4's Text, IsDigit. -/
import Derived.Test.YtipgipgehnhgkaaGreatDoorTa
import Derived.Test.YtipgipgehnhgkaaGreatDoorShelf
import Derived.Lib.SmallJoins
set_option linter.unusedVariables false
namespace Go.Proofs.YtipgipgehnhgkaaGreatDoor.S10
open Go.RowKit

/-- The table of powers of ten lies there. -/
def Tab (w : World) : Prop := Lib.TabIs Tryz.prog w "internal/strconv.uint64pow10" .u64 Lib.pow10Tab
theorem tabG : Tryz.prog.globalNamed "internal/strconv.uint64pow10" = some (Tryz.laysM171_ren.g 17) := by kernel_rfl
theorem Tab.below {w w' : World} {B : Nat} (h : Tab w) (hb : Below B w w') (hB : w.heap.size ≤ B) : Tab w' := Joins.tab_stays tabG h hb hB
theorem Tab.next {w w' : World} (h : Tab w) (hb : Below w.heap.size w w') : Tab w' := h.below hb (Nat.le_refl _)
theorem below_grow (w : World) (k : Nat) (os : Array Obj) : Below w.heap.size w (Sort.grow (w.drewN k) os) := by
  refine ⟨rfl, rfl, rfl, ?_, ?_⟩
  · show w.heap.size ≤ (w.heap ++ os).size
    simp
  · intro j hj
    show (w.heap ++ os)[j]? = w.heap[j]?
    rw [Array.getElem?_append_left hj]
theorem itoa_any (n : Nat) (w : World) (ht : Tab w) (hn : n ≤ 9223372036854775807) :
    Calls Tryz.prog 155 #[.int .i64 n] w fun e w' => e = .returned (.string (bA (Lib.decDigits n))) ∧ Below w.heap.size w w' := by
  have h := Any.strconv_Itoa Tryz.laysM171 (n : Int) (by omega) (by omega) w ht
  rw [Lib.itoa_nonneg] at h
  refine h.mono ?_
  rintro e w' ⟨rfl, k, os, rfl⟩
  exact ⟨rfl, below_grow w k os⟩
theorem bExtra : Builder.Extra Tryz.prog Tryz.lays105_ren := {
  sizeBuilder := by kernel_rfl
  liesBuilder := by kernel_rfl
  t5 := Tryz.underlying5
  a5 := Tryz.isAgg5
  z5 := Tryz.sizeOf5
  v5 := Tryz.zeroValue5
  infoByte := by kernel_rfl
  cellsByte := by kernel_rfl
  sizeByte := by kernel_rfl
  neB5 := by decide }
theorem rep_noughts (c : Nat) (w : World) (hc : c ≤ 1000) : Calls Tryz.prog 156 #[.string ⟨#[48]⟩, .int .i64 c] w fun e w' => e = .returned (.string (bA (List.replicate c 48))) ∧ Below w.heap.size w w' := by
  have h := Any.strings_Repeat Tryz.lays105 bExtra ⟨#[48]⟩ c w (by omega) (by show 1 * c ≤ _; omega)
  refine h.mono ?_
  rintro e w' ⟨rfl, hb⟩
  refine ⟨?_, hb⟩
  have e1 : Lib.repeatL (⟨#[48]⟩ : ByteArray).data.toList c = List.replicate c 48 := by
    have := Lib.repeatL_replicate 48 1 c
    rwa [Nat.mul_one] at this
  rw [e1]; rfl
theorem slclone_any (s : ByteArray) (w : World) (hs : s.size ≤ 1000000) : Calls Tryz.prog 28 #[.string s] w fun e w' => e = .returned (.string s) ∧ Below w.heap.size w w' :=
  Any.stringslite_Clone Tryz.laysM316 s w (by omega)
set_option maxRecDepth 100000 in
theorem clone_any (s : ByteArray) (w : World) (hs : s.size ≤ 1000000) : Calls Tryz.prog 17 #[.string s] w fun e w' => e = .returned (.string s) ∧ Below w.heap.size w w' := by
  have c1 := fun W => slclone_any s W hs
  go_enter Tryz.func17, Tryz.ntmps17
  go_wp2_with fail
  refine (c1 _).mono ?_
  rintro r w' ⟨rfl, hb⟩
  go_wp2
  go_ret
  exact ⟨rfl, hb⟩
/-- So many digits, noughts ahead. -/
def pad (n k : Nat) : List UInt8 := List.replicate (k - (Lib.decDigits n).length) 48 ++ Lib.decDigits n
set_option maxRecDepth 100000 in
set_option maxHeartbeats 1000000 in
theorem padded_any (n k : Nat) (w : World) (ht : Tab w) (hn : n ≤ 9223372036854775807) (hk : k ≤ 1000) (hl : (Lib.decDigits n).length ≤ k) :
    Calls Tryz.prog 107 #[.int .i64 n, .int .i64 k] w fun e w' => e = .returned (.string (bA (pad n k))) ∧ Below w.heap.size w w' := by
  have c1 := itoa_any n w ht hn
  have c2 := fun W => rep_noughts (k - (Lib.decDigits n).length) W (by omega)
  have hp : bA (List.replicate (k - (Lib.decDigits n).length) 48) ++ bA (Lib.decDigits n) = bA (pad n k) := bA_append _ _
  have hs : (bA (Lib.decDigits n)).size = (Lib.decDigits n).length := bA_size _
  have hr : (bA (List.replicate (k - (Lib.decDigits n).length) 48)).size = k - (Lib.decDigits n).length := by rw [bA_size, List.length_replicate]
  have he : ((k - (Lib.decDigits n).length : Nat) : Int) = (k : Int) - ((bA (Lib.decDigits n)).size : Int) := by omega
  rw [he] at c2
  have hsz : (bA (Lib.decDigits n)).size ≤ 1000 := by omega
  have hrz : (bA (List.replicate (k - (Lib.decDigits n).length) 48)).size ≤ 1000 := by omega
  generalize bA (List.replicate (k - (Lib.decDigits n).length) 48) = R at *
  generalize bA (Lib.decDigits n) = D at *
  have HP := Lib.hid hp
  clear hp he hs hr hl
  go_enter Tryz.func107, Tryz.ntmps107
  go_wp2_with fail
  refine c1.mono ?_
  rintro r w1 ⟨rfl, hb1⟩
  clear c1
  go_wp2_with fail
  refine (c2 _).mono ?_
  rintro r w2 ⟨rfl, hb2⟩
  clear c2
  go_wp2
  go_ret
  exact ⟨ret_str HP.out, hb1.trans (hb2.mono hb1.size)⟩
theorem dec2 {n : Nat} (h : n < 100) : pad n 2 = M.d2 n ∧ (Lib.decDigits n).length ≤ 2 := by
  unfold pad
  by_cases h1 : n < 10
  · rw [Lib.decDigits, dif_pos h1]
    refine ⟨?_, by simp⟩
    show [48, UInt8.ofNat (48 + n)] = [M.dch (n / 10), M.dch (n % 10)]
    rw [show n / 10 = 0 by omega, show n % 10 = n by omega]; rfl
  · rw [Lib.decDigits, dif_neg h1, Lib.decDigits, dif_pos (show n / 10 < 10 by omega)]
    exact ⟨rfl, by simp⟩
theorem dec4 {n : Nat} (h : n < 10000) : pad n 4 = M.d4 n ∧ (Lib.decDigits n).length ≤ 4 := by
  unfold pad
  have e1 : M.d4 n = [M.dch (n / 1000), M.dch (n / 100 % 10), M.dch (n / 10 % 10), M.dch (n % 10)] := by
    show [M.dch (n / 100 / 10), M.dch (n / 100 % 10), M.dch (n % 100 / 10), M.dch (n % 100 % 10)] = _
    rw [show n / 100 / 10 = n / 1000 by omega, show n % 100 / 10 = n / 10 % 10 by omega, show n % 100 % 10 = n % 10 by omega]
  rw [e1]
  by_cases h1 : n < 10
  · rw [Lib.decDigits, dif_pos h1]
    refine ⟨?_, by simp⟩
    show [48, 48, 48, UInt8.ofNat (48 + n)] = _
    rw [show n / 1000 = 0 by omega, show n / 100 % 10 = 0 by omega, show n / 10 % 10 = 0 by omega, show n % 10 = n by omega]; rfl
  · by_cases h2 : n < 100
    · rw [Lib.decDigits, dif_neg h1, Lib.decDigits, dif_pos (show n / 10 < 10 by omega)]
      refine ⟨?_, by simp⟩
      show [48, 48, UInt8.ofNat (48 + n / 10), UInt8.ofNat (48 + n % 10)] = _
      rw [show n / 1000 = 0 by omega, show n / 100 % 10 = 0 by omega, show n / 10 % 10 = n / 10 by omega]; rfl
    · by_cases h3 : n < 1000
      · rw [Lib.decDigits, dif_neg h1, Lib.decDigits, dif_neg (show ¬ n / 10 < 10 by omega), Lib.decDigits, dif_pos (show n / 10 / 10 < 10 by omega)]
        refine ⟨?_, by simp⟩
        show [48, UInt8.ofNat (48 + n / 10 / 10), UInt8.ofNat (48 + n / 10 % 10), UInt8.ofNat (48 + n % 10)] = _
        rw [show n / 1000 = 0 by omega, show n / 100 % 10 = n / 10 / 10 by omega]; rfl
      · rw [Lib.decDigits, dif_neg h1, Lib.decDigits, dif_neg (show ¬ n / 10 < 10 by omega), Lib.decDigits, dif_neg (show ¬ n / 10 / 10 < 10 by omega), Lib.decDigits, dif_pos (show n / 10 / 10 / 10 < 10 by omega)]
        refine ⟨?_, by simp⟩
        show [UInt8.ofNat (48 + n / 10 / 10 / 10), UInt8.ofNat (48 + n / 10 / 10 % 10), UInt8.ofNat (48 + n / 10 % 10), UInt8.ofNat (48 + n % 10)] = _
        rw [show n / 1000 = n / 10 / 10 / 10 by omega, show n / 100 % 10 = n / 10 / 10 % 10 by omega]; rfl
theorem pad2_any (n : Nat) (w : World) (ht : Tab w) (hn : n < 100) : Calls Tryz.prog 107 #[.int .i64 n, .int .i64 2] w fun e w' => e = .returned (.string (bA (M.d2 n))) ∧ Below w.heap.size w w' := by
  have h := padded_any n 2 w ht (by omega) (by omega) (dec2 hn).2
  rwa [(dec2 hn).1] at h
theorem pad4_any (n : Nat) (w : World) (ht : Tab w) (hn : n < 10000) : Calls Tryz.prog 107 #[.int .i64 n, .int .i64 4] w fun e w' => e = .returned (.string (bA (M.d4 n))) ∧ Below w.heap.size w w' := by
  have h := padded_any n 4 w ht (by omega) (by omega) (dec4 hn).2
  rwa [(dec4 hn).1] at h

theorem tz_snoc (l : List UInt8) (c : UInt8) : M.tz (l ++ [c]) = if c = 48 then M.tz l else l ++ [c] := by
  unfold M.tz
  rw [List.reverse_append, List.reverse_singleton, List.singleton_append]
  by_cases h : c = 48
  · rw [List.dropWhile_cons_of_pos (by simpa using h), if_pos h]
  · rw [List.dropWhile_cons_of_neg (by simpa using h), if_neg h, List.reverse_cons, List.reverse_reverse]
theorem last_list (t : ByteArray) (h : 0 < t.size) : t.data.toList = t.data.toList.take (t.size - 1) ++ [t[t.size - 1]'(by omega)] := by
  have := take_snoc t (t.size - 1) (by omega)
  rw [show t.size - 1 + 1 = t.size by omega, take_all] at this
  exact this
theorem extract_take (t : ByteArray) (n : Nat) : (t.extract 0 n).data.toList = t.data.toList.take n := by
  simp only [ByteArray.data_extract, Array.toList_extract, List.extract_eq_take_drop, List.drop_zero, Nat.sub_zero]
set_option maxRecDepth 100000 in
set_option maxHeartbeats 1000000 in
theorem trimByte_any (s : ByteArray) (w : World) (hs : s.size ≤ 1000000) :
    Calls Tryz.prog 148 #[.string s, .int .u8 48] w fun e w' => e = .returned (.string (bA (M.tz s.data.toList))) ∧ w = w' := by
  obtain ⟨R, hR⟩ : ∃ R, M.tz s.data.toList = R := ⟨_, rfl⟩
  rw [hR]
  have HR := Lib.hid hR
  clear hR
  go_enter Tryz.func148, Tryz.ntmps148
  go_wp2
  go_loop [0] (fun v => ∃ t : ByteArray, v = .string t ∧ t.size ≤ s.size ∧ Hid (M.tz t.data.toList = R)) (fun v => match v with | .string t => t.size | _ => 0)
  case atStart => exact ⟨s, rfl, Nat.le_refl _, HR.out⟩
  case round =>
    obtain ⟨t, rfl, ht, hst⟩ := hrel
    clear HR
    by_cases h0 : 0 < t.size
    · have hlast := last_list t h0
      have h1 := hst.out
      rw [hlast, tz_snoc] at h1
      by_cases hc : t[t.size - 1]'(by omega) = 48
      · rw [if_pos hc] at h1
        have hb : (((t[t.size - 1]'(by omega)).toNat : Int) == 48) = true := by rw [hc]; rfl
        have H1 := Lib.hid h1
        clear hlast h1 hst hc
        go_wp2
        go_round
        case rel => exact ⟨_, rfl, by simp; omega, by show _ = _; rw [extract_take]; exact H1.out⟩
        case measure => simp; omega
      · rw [if_neg hc, ← hlast] at h1
        have hb : (((t[t.size - 1]'(by omega)).toNat : Int) == 48) = false := neC (k := 48) (by omega) hc
        have H1 := Lib.hid h1
        clear hlast h1 hst hc
        go_wp2
        go_ret
        exact ⟨ret_str (eq_bA H1.out), rfl⟩
    · have hz : t.data.toList = [] := by
        have := sz_list t
        exact List.eq_nil_of_length_eq_zero (by omega)
      have h1 := hst.out
      rw [hz] at h1
      have H1 : Hid (t.data.toList = R) := by show _ = _; rw [hz]; exact h1
      clear hz hst h1
      go_wp2
      go_ret
      exact ⟨ret_str (eq_bA H1.out), rfl⟩
set_option maxRecDepth 100000 in
theorem trim_any (s : ByteArray) (w : World) (hs : s.size ≤ 1000000) :
    Calls Tryz.prog 98 #[.string s, .string ⟨#[48]⟩] w fun e w' => e = .returned (.string (bA (M.tz s.data.toList))) ∧ w = w' := by
  by_cases h0 : s.data.toList = []
  · have h1 : (s.toList == []) = true := by rw [ByteArray.toList_eq, h0]; rfl
    have h2 : s.toList.isEmpty = true := by rw [ByteArray.toList_eq, h0]; rfl
    have e : s = bA (M.tz s.data.toList) := by rw [h0]; exact eq_bA h0
    have E := Lib.hid e
    clear h0 e
    go_enter Tryz.func98, Tryz.ntmps98
    go_wp2
    go_ret
    exact ⟨ret_str E.out, rfl⟩
  · have c1 := fun W => trimByte_any s W hs
    have h1 : (s.toList == []) = false := by rw [ByteArray.toList_eq]; simpa using h0
    have h2 : s.toList.isEmpty = false := by rw [ByteArray.toList_eq]; simpa using h0
    clear h0
    generalize bA (M.tz s.data.toList) = R at *
    go_enter Tryz.func98, Tryz.ntmps98
    go_wp2_with fail
    refine (c1 _).mono ?_
    rintro r w' ⟨rfl, rfl⟩
    go_wp2
    go_ret
    exact ⟨rfl, rfl⟩
end Go.Proofs.YtipgipgehnhgkaaGreatDoor.S10
