/- The law BigDigits: its walk. -/
import Derived.Test.YtplplpecafjacaaDoorLc
set_option linter.unusedVariables false
namespace Go.Proofs.YtplplpecafjacaaDoor
open Go.RowKit

/-- A byte alone, as a text. -/
theorem one_conv (w : World) (z : Int) (c : UInt8) (h : (c.toNat : Int) = z) :
    (convert 31 9 (.slice (some ⟨w.heap.size, 0, none⟩) 1 1)).run Tryd.prog (w.alloc (.cells #[.int .u8 z] 5)) = .ok (.string (bA [c])) (w.alloc (.cells #[.int .u8 z] 5)) := by
  have hr : Row (w.alloc (.cells #[.int .u8 z] 5)) w.heap.size [c] := by
    unfold Row
    subst h
    show (w.heap.push (.cells #[.int .u8 (c.toNat : Int)] 5))[w.heap.size]? = _
    simp [Lib.byteCells]
  exact hr.conv0 1
def bit (c : UInt8) : UInt8 := UInt8.ofNat (48 + M.dv c % 2)
def bits (l : List UInt8) : List UInt8 := l.map bit
theorem bit_dv (c : UInt8) : M.dv (bit c) = M.dv c % 2 := M.dv_dig _ (by omega)
theorem bits_all (l : List UInt8) : M.allD 2 (bits l) = true := by
  rw [M.allD_iff]
  intro c hc
  obtain ⟨d, _, rfl⟩ := List.mem_map.1 hc
  rw [bit_dv]; omega
theorem bits_snoc (l : List UInt8) (c : UInt8) : bits (l ++ [c]) = bits l ++ [bit c] := by simp [bits]
theorem bits_length (l : List UInt8) : (bits l).length = l.length := by simp [bits]
theorem pow2_le (k : Nat) (h : k ≤ 100) : 2 ^ k ≤ 10 ^ 100 := Nat.le_trans (Nat.pow_le_pow_left (show 2 ≤ 10 by omega) k) (Nat.pow_le_pow_right (by omega) h)
def aAt (l : List UInt8) (i : Nat) : ByteArray := tx ((M.val 10 (l.take i) : Nat) : Int)
def bAt (l : List UInt8) (i : Nat) : ByteArray := tx ((M.val 2 (bits (l.take i)) : Nat) : Int)
def cAt (l : List UInt8) (i : Nat) : ByteArray := bA (bits (l.take i))
theorem cAt_size (l : List UInt8) (i : Nat) : (cAt l i).size ≤ i := by unfold cAt; rw [bA_size, bits_length, List.length_take]; omega

set_option maxRecDepth 100000 in
set_option maxHeartbeats 2000000 in
theorem bdigits_any (s : ByteArray) (w : World) (ht : Tab w) (hs : s.size ≤ maxLen) :
    Calls Tryd.prog 4 #[.string s] w fun r w' => r = .returned (.bool true) ∧ Below w.heap.size w w' := by
  unfold maxLen at hs
  have hs2 : s.size ≤ 9223372036854775807 := by omega
  clear hs
  go_enter Tryd.func4, Tryd.ntmps4
  go_wp2_with fail
  refine (known_any w ht).mono ?_
  rintro r w1 ⟨rfl, hb1⟩
  have B1 : Below w.heap.size w w1 := hb1
  clear hb1
  by_cases h1 : s.size < 1
  · have d1 : decide ((s.size : Int) < 1) = true := decide_eq_true (by omega)
    go_wp2
    go_ret
    exact ⟨rfl, B1⟩
  have d1 : decide ((s.size : Int) < 1) = false := decide_eq_false (by omega)
  by_cases h3 : 60 < s.size
  · have d3 : decide ((60 : Int) < (s.size : Int)) = true := decide_eq_true (by omega)
    go_wp2
    go_ret
    exact ⟨rfl, B1⟩
  have d3 : decide ((60 : Int) < (s.size : Int)) = false := decide_eq_false (by omega)
  have cS := fun W => digits_any s W (by omega)
  have okS := digs_ok s.data.toList (by rw [← sz_list]; omega)
  have hlS : (digs s.data.toList).length ≤ 60 := by rw [digs_length, ← sz_list]; omega
  have cA := fun W => norm_list false (digs s.data.toList) W okS (by omega)
  have haS := digs_all s.data.toList
  generalize digs s.data.toList = l at *
  rw [show M.sgn false (M.val 10 l) = ((M.val 10 l : Nat) : Int) from rfl, show tx ((M.val 10 l : Nat) : Int) = aAt l l.length by unfold aAt; rw [List.take_length]] at cA
  have hDl : (bA l).data.toList = l := bA_toList l
  have hDs : (bA l).size = l.length := bA_size l
  obtain ⟨D, hD⟩ : ∃ D, bA l = D := ⟨_, rfl⟩
  rw [hD] at cS cA hDl hDs
  have hne : 0 < l.length := by
    have := ((M.okD_iff _ _).1 okS).1
    exact List.length_pos_iff.2 this
  have val_lt10 : ∀ i, M.val 10 (l.take i) < 10 ^ 100 := by
    intro i
    have h := M.val_take_le 10 (by omega) l i
    have h2 := M.val_lt 10 l haS
    have h3 : 10 ^ l.length ≤ 10 ^ 100 := Nat.pow_le_pow_right (by omega) (by omega)
    omega
  have val_lt2 : ∀ i, M.val 2 (bits (l.take i)) < 10 ^ 100 := by
    intro i
    have h2 := M.val_lt 2 _ (bits_all (l.take i))
    have h3 := pow2_le (bits (l.take i)).length (by rw [bits_length, List.length_take]; omega)
    omega
  have kG1 := fun W => good_any (aAt l l.length) W (by unfold aAt; have := nat_len _ (val_lt10 l.length); omega)
  have kG2 := fun W => good_any (bAt l l.length) W (by unfold bAt; have := nat_len _ (val_lt2 l.length); omega)
  rw [show M.goodB (aAt l l.length).data.toList = true from tx_good _] at kG1
  rw [show M.goodB (bAt l l.length).data.toList = true from tx_good _] at kG2
  have kB := fun W => base_yes (cAt l l.length) 2 W (Or.inl rfl) (by have := cAt_size l l.length; omega) (by unfold cAt; rw [bA_toList, M.okD_iff]; exact ⟨by rw [List.take_length]; intro e; have := bits_length l; rw [e] at this; simp at this; omega, bits_all _⟩)
  rw [show tx ((M.val 2 (cAt l l.length).data.toList : Nat) : Int) = bAt l l.length by unfold cAt bAt; rw [bA_toList]] at kB
  have HL10 := Lib.hid val_lt10
  have HL2 := Lib.hid val_lt2
  have HAS := Lib.hid haS
  have HDl := Lib.hid hDl
  clear val_lt10 val_lt2 haS okS hDl hD
  go_wp2_with fail
  refine (cS _).mono ?_
  rintro r w2 ⟨rfl, hb2⟩
  have B2 : Below w.heap.size w w2 := B1.trans (hb2.mono B1.size)
  clear hb2 B1
  go_wp2_with fail
  clear d1 d3
  go_loopw [4, 5, 6, 7] (fun av bv cv v wr => ∃ i : Nat, av = .string (aAt l i) ∧ bv = .string (bAt l i) ∧ cv = .string (cAt l i) ∧ v = .int .i64 i ∧ i ≤ D.size ∧ Below w.heap.size w wr) (fun _ _ _ v _ => D.size - (intOf v).toNat)
  case atStart => exact ⟨0, congrArg _ tx0.symm, congrArg _ tx0.symm, rfl, rfl, Nat.zero_le _, B2⟩
  case round =>
    obtain ⟨i, rfl, rfl, rfl, rfl, hil, hbw⟩ := hrel
    by_cases hlt : i < D.size
    · have d5 : decide (i < D.size) = true := by simpa using hlt
      have hts := take_snoc D i hlt
      rw [HDl.out] at hts
      have hdv : M.dv D[i] < 10 := (M.allD_iff _ _).1 HAS.out _ (by have := List.mem_of_getElem? (get_list D i hlt); rwa [HDl.out] at this)
      obtain ⟨e1, e2, e3⟩ := M.dv_lt10 hdv
      obtain ⟨v, hv⟩ : ∃ v, M.dv D[i] = v := ⟨_, rfl⟩
      have ea : aAt l (i + 1) = tx ((M.val 10 (l.take i) * 10 + v : Nat) : Int) := by unfold aAt; rw [hts, M.val_snoc, hv]
      have eb : bAt l (i + 1) = tx ((M.val 2 (bits (l.take i)) * 2 + v % 2 : Nat) : Int) := by unfold bAt; rw [hts, bits_snoc, M.val_snoc, bit_dv, hv]
      have ec : cAt l (i + 1) = cAt l i ++ bA [bit D[i]] := by unfold cAt; rw [hts, bits_snoc, bA_append]
      rw [hv] at hdv e3
      have k1 := mul_nat (M.val 10 (l.take i)) 10 v _ ea (HL10.out i) (by omega) (by omega)
      have k2 := mul_nat (M.val 2 (bits (l.take i))) 2 (v % 2) _ eb (HL2.out i) (by omega) (by omega)
      rw [show tx ((M.val 10 (l.take i) : Nat) : Int) = aAt l i from rfl] at k1
      rw [show tx ((M.val 2 (bits (l.take i)) : Nat) : Int) = bAt l i from rfl] at k2
      have hbt : ((bit D[i]).toNat : Int) = 48 + (v : Int) % 2 := by unfold bit; rw [hv, dig_u8 _ (by omega)]; omega
      have k3 := fun W => one_conv W _ (bit D[i]) hbt
      have hz := cAt_size l i
      obtain ⟨p, hp⟩ : ∃ p, v % 2 = p := ⟨_, rfl⟩
      have hp2 : (v : Int) % 2 = (p : Int) := by omega
      rw [hp] at k2
      rw [hp2] at k3
      have hev : (D[i].toNat : Int) - 48 = (v : Int) := by omega
      have EC := Lib.hid ec
      generalize bA [bit D[i]] = X at *
      have hXs : X.size = 1 := by have := congrArg ByteArray.size ec; rw [append_sz] at this; unfold cAt at this; rw [bA_size, bA_size, bits_length, bits_length, List.length_take, List.length_take] at this; omega
      generalize hA0 : aAt l i = A0 at *
      generalize hB0 : bAt l i = B0 at *
      generalize hC0 : cAt l i = C0 at *
      clear ea eb ec hts hv e3 hA0 hB0 hC0 hp hbt
      go_wp2_with fail
      refine (k1 _).mono ?_
      rintro r wa ⟨rfl, hba⟩
      go_wp2_with fail
      refine (k2 _).mono ?_
      rintro r wb ⟨rfl, hbb⟩
      have hwb : Below w.heap.size w wb := hbw.trans ((hba.trans (hbb.mono hba.size)).mono hbw.size)
      clear hba hbb k1 k2
      go_wp2
      go_roundw
      case rel => exact ⟨i + 1, rfl, rfl, congrArg _ EC.out.symm, by go_num, by omega, hwb.alloc hwb.size _⟩
      case measure => simp [intOf]; omega
    · obtain rfl : i = D.size := by omega
      have d5 : decide (D.size < D.size) = false := by simp
      rw [← hDs] at kG1 kG2 kB cA
      generalize aAt l D.size = A0 at *
      generalize bAt l D.size = B0 at *
      generalize cAt l D.size = C0 at *
      clear hlt B2
      have B2 := hbw
      clear hbw
      go_wp2_with fail
      refine (cA _).mono ?_
      rintro r w3 ⟨rfl, hb3⟩
      have B3 : Below w.heap.size w w3 := B2.trans (hb3.mono B2.size)
      clear hb3 B2
      go_wp2_with fail
      refine (kB _).mono ?_
      rintro r w4 ⟨rfl, hb4⟩
      have B4 : Below w.heap.size w w4 := B3.trans (hb4.mono B3.size)
      clear hb4 B3
      go_wp2_with fail
      refine (kG1 _).mono ?_
      rintro r w' ⟨rfl, rfl⟩
      go_wp2_with fail
      refine (kG2 _).mono ?_
      rintro r w' ⟨rfl, rfl⟩
      go_wp2
      go_ret
      exact ⟨rfl, B4⟩
end Go.Proofs.YtplplpecafjacaaDoor
