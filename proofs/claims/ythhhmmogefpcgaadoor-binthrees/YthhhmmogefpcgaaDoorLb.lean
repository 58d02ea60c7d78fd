/- The law BinThrees: its walk. -/
import Derived.Test.YthhhmmogefpcgaaDoorWk
import Derived.Test.YthhhmmogefpcgaaDoorMb
set_option linter.unusedVariables false
namespace Go.Proofs.YthhhmmogefpcgaaDoor
open Go.RowKit

set_option maxRecDepth 100000 in
set_option maxHeartbeats 1000000 in
theorem threes_long (a b : Option Addr) (cap cap' : Nat) (l m : List UInt8) (w : World) (ht : Tab w) (h : 100 < l.length ∨ (l.length ≤ 100 ∧ 100 < m.length)) :
    Calls Tryd.prog 4 #[.slice a l.length cap, .slice b m.length cap'] w fun e w' => e = .returned (.bool true) ∧ Below w.heap.size w w' := by
  have c0 := known_any w ht
  rcases h with h | ⟨h, h'⟩
  · have d1 : decide ((100 : Int) < (l.length : Int)) = true := decide_eq_true (by omega)
    have d2 : decide (100 < l.length) = true := decide_eq_true (by omega)
    go_enter Tryd.func4, Tryd.ntmps4
    go_wp2_with fail
    refine c0.mono ?_
    rintro r w1 ⟨rfl, hb⟩
    clear c0
    go_wp2
    go_ret
    exact ⟨rfl, hb⟩
  · have d1 : decide ((100 : Int) < (l.length : Int)) = false := decide_eq_false (by omega)
    have d2 : decide (100 < l.length) = false := decide_eq_false (by omega)
    have d3 : decide ((100 : Int) < (m.length : Int)) = true := decide_eq_true (by omega)
    have d4 : decide (100 < m.length) = true := decide_eq_true (by omega)
    go_enter Tryd.func4, Tryd.ntmps4
    go_wp2_with fail
    refine c0.mono ?_
    rintro r w1 ⟨rfl, hb⟩
    clear c0
    go_wp2
    go_ret
    exact ⟨rfl, hb⟩
theorem byte_at (S : ByteArray) (L : List UInt8) (h : S.data.toList = L) (j : Nat) (hj : j < S.size) (hl : j < L.length) : S[j] = L[j] := by
  have := get_list S j hj
  subst h
  rw [List.getElem?_eq_getElem hl] at this
  exact (Option.some.inj this).symm
set_option maxRecDepth 100000 in
set_option maxHeartbeats 4000000 in
theorem threes_core (a b : Option Addr) (cap cap' : Nat) (l m : List UInt8) (w : World) (ht : Tab w) (hin : InS w a l cap) (hin' : InS w b m cap') (hl : l.length ≤ 100) (hm : m.length ≤ 100) :
    Calls Tryd.prog 4 #[.slice a l.length cap, .slice b m.length cap'] w fun e w' => e = .returned (.bool true) ∧ Below w.heap.size w w' := by
  have c0 := known_any w ht
  obtain ⟨k, hk⟩ : ∃ k, l.length / 3 * 3 = k := ⟨_, rfl⟩
  have hk' : (l.length : Int) / 3 * 3 = (k : Int) := by omega
  have hkl : k ≤ l.length := by omega
  obtain ⟨A, hA⟩ : ∃ A, l.take k = A := ⟨_, rfl⟩
  have hAl : A.length = k := by rw [← hA, List.length_take]; omega
  obtain ⟨V, hV⟩ : ∃ V, A ++ m = V := ⟨_, rfl⟩
  have hVl : V.length = k + m.length := by rw [← hV, List.length_append, hAl]
  have hVb : V.length ≤ 200 := by omega
  obtain ⟨S, hS⟩ : ∃ S, bA (M.TX V) = S := ⟨_, rfl⟩
  obtain ⟨X1, hX1⟩ : ∃ S, bA (M.TX A) = S := ⟨_, rfl⟩
  obtain ⟨X2, hX2⟩ : ∃ S, bA (M.TX m) = S := ⟨_, rfl⟩
  have hsum : X1 ++ X2 = S := by rw [← hX1, ← hX2, ← hS, bA_append, ← hV, M.tx_append _ _ (by omega)]
  have hSl : S.data.toList = M.TX V := by rw [← hS, bA_toList]
  have hSs : S.size = (V.length + 2) / 3 * 4 := by rw [← hS, bA_size, M.tx_len]
  have hX1s : X1.size ≤ 1000 := by rw [← hX1, bA_size, M.tx_len]; omega
  have hX2s : X2.size ≤ 1000 := by rw [← hX2, bA_size, M.tx_len]; omega
  have hSb : S.size ≤ 1000 := by omega
  obtain ⟨P, hP⟩ : ∃ P, M.pads (M.TX V) = P := ⟨_, rfl⟩
  have hPl : P ≤ S.size := by
    have := M.pads_le (M.TX V)
    rw [hP, M.tx_len] at this; omega
  have hPin : ∀ p, p < P → ∃ j, j < S.size ∧ j = S.size - 1 - p ∧ ∀ h : j < S.size, S[j] = 61 := by
    intro p hp
    obtain ⟨h1, h2⟩ := M.pads_in (M.TX V) p (by rw [hP]; exact hp)
    have hz : S.size = (M.TX V).length := by rw [← hS, bA_size]
    refine ⟨(M.TX V).length - 1 - p, by omega, by omega, fun hj => ?_⟩
    rw [byte_at S _ hSl _ hj h1, h2]
  have hPout : P < S.size → ∃ j, j < S.size ∧ j = S.size - 1 - P ∧ ∀ h : j < S.size, ¬ S[j] = 61 := by
    intro hp
    have hz : S.size = (M.TX V).length := by rw [← hS, bA_size]
    obtain ⟨h1, h2⟩ := M.pads_out (M.TX V) (by rw [hP]; omega)
    refine ⟨(M.TX V).length - 1 - M.pads (M.TX V), by omega, by omega, fun hj => ?_⟩
    rw [byte_at S _ hSl _ hj h1]; exact h2
  have hPv : P = (3 - V.length % 3) % 3 := by rw [← hP, M.tx_pads]
  have HPIN := Lib.hid hPin
  have HPOUT := Lib.hid hPout
  have HPV := Lib.hid (And.intro hPv hSs)
  have HSUM := Lib.hid hsum
  clear hPin hPout hPv hsum hSs hSl hP
  have cV : ∀ W a' cp, Tab W → InS W a' V cp → Calls Tryd.prog 9 #[.slice a' V.length cp] W fun e w' => e = .returned (.string S) ∧ Below W.heap.size W w' := fun W a' cp h1 h2 => by
    rw [← hS]; exact text_any a' V cp W h1 h2 (by omega)
  have cA : ∀ W a' cp, Tab W → InS W a' A cp → Calls Tryd.prog 9 #[.slice a' k cp] W fun e w' => e = .returned (.string X1) ∧ Below W.heap.size W w' := fun W a' cp h1 h2 => by
    rw [← hX1, ← hAl]; exact text_any a' A cp W h1 h2 (by omega)
  have cM : ∀ W a' cp, Tab W → InS W a' m cp → Calls Tryd.prog 9 #[.slice a' m.length cp] W fun e w' => e = .returned (.string X2) ∧ Below W.heap.size W w' := fun W a' cp h1 h2 => by
    rw [← hX2]; exact text_any a' m cp W h1 h2 (by omega)
  have HT := Lib.hid ht
  have HI := Lib.hid hin
  have HJ := Lib.hid hin'
  have HA := Lib.hid (And.intro hA (And.intro hAl (And.intro hV hVl)))
  clear ht hin hin' hS hX1 hX2 hA hAl hV hVl hk
  have d1 : decide ((100 : Int) < (l.length : Int)) = false := decide_eq_false (by omega)
  have d2 : decide (100 < l.length) = false := decide_eq_false (by omega)
  have d3 : decide ((100 : Int) < (m.length : Int)) = false := decide_eq_false (by omega)
  have d4 : decide (100 < m.length) = false := decide_eq_false (by omega)
  go_enter Tryd.func4, Tryd.ntmps4
  go_wp2_with fail
  refine c0.mono ?_
  rintro r w1 ⟨rfl, hb1⟩
  clear c0
  go_wp2_with (refine wpList_cutH rfl (.tmp 23) (.tmp 24) rfl a l cap k rfl rfl hkl (HI.out.next hb1) ?_)
  rw [HA.out.1]
  intro hcut
  go_wp2_with (at_builtin; refine wpList_app rfl (.const (.slice none 0 0)) (.tmp 25) rfl w1.heap.size (.slice none 0 0) [] A rfl (OwnB.nil _ _) a cap k rfl HA.out.2.1.symm hcut (by rw [HA.out.2.1]; simp; omega) (Nat.le_refl _) ?_)
  intro v2 w2 hown2 hb2
  have HJ2 := ((HJ.out.next hb1).next hb2)
  go_wp2_with (at_builtin; refine wpList_app rfl (.tmp 26) (.tmp 27) rfl w1.heap.size v2 A m rfl hown2 b cap' m.length rfl rfl HJ2 (by rw [HA.out.2.1]; omega) hb2.size ?_)
  rw [HA.out.2.2.1]
  intro v3 w3 hown3 hb3
  obtain ⟨a3, cp3, rfl, hin3⟩ := hown3.ins
  have hb13 : Below w1.heap.size w1 w3 := hb2.trans hb3
  have hbw3 := hb1.trans (hb13.mono hb1.size)
  have cV' := cV w3 a3 cp3 (HT.out.next hbw3) hin3
  clear hcut hown2 hb2 hown3 hb3 hin3 HJ2 hb13 hb1 cV
  go_wp2_with fail
  refine cV'.mono ?_
  rintro r w4 ⟨rfl, h4⟩
  have hb4 := hbw3.trans (h4.mono hbw3.size)
  clear h4 hbw3 cV'
  go_wp2_with fail
  go_loopw [8] (fun pv wr => ∃ p : Nat, pv = .int .i64 p ∧ p ≤ P ∧ wr = w4) (fun pv _ => P - (intOf pv).toNat)
  case atStart => exact ⟨0, rfl, Nat.zero_le _, rfl⟩
  case round =>
    obtain ⟨p, rfl, hp, rfl⟩ := hrel
    by_cases hlt : p < P
    · obtain ⟨j, hj, hje, hbyte⟩ := HPIN.out p hlt
      have hby := hbyte hj
      clear hbyte
      have l1 : decide ((p : Int) < (S.size : Int)) = true := decide_eq_true (by omega)
      have l2 : decide (p < S.size) = true := decide_eq_true (by omega)
      have hj' : (S.size : Int) - 1 - (p : Int) = (j : Int) := by omega
      have hx : S[j].toNat = 61 := by rw [hby]; rfl
      clear hje hby
      go_wp2_with fail
      go_roundw
      case rel => exact ⟨p + 1, by go_num, by omega, trivial⟩
      case measure => simp [intOf]; omega
    · obtain rfl : p = P := by omega
      by_cases hpe : p < S.size
      · obtain ⟨j, hj, hje, hbyte⟩ := HPOUT.out hpe
        have hby := hbyte hj
        clear hbyte
        have l1 : decide ((p : Int) < (S.size : Int)) = true := decide_eq_true (by omega)
        have l2 : decide (p < S.size) = true := decide_eq_true (by omega)
        have hj' : (S.size : Int) - 1 - (p : Int) = (j : Int) := by omega
        have hx : ((S[j].toNat : Int) == 61) = false := neC (k := 61) (by omega) hby
        clear hje hby
        go_upto_region 11 with fail
        go_wp2_with (refine wpList_cutH rfl (.tmp 48) (.tmp 49) rfl a l cap k rfl rfl hkl HI.out ?_)
        rw [HA.out.1]
        intro hcut
        have cA' := cA wr a cap (HT.out.next hb4) (by rw [← HA.out.1]; exact (HI.out.take hkl).next hb4)
        clear cA
        go_wp2_with fail
        refine cA'.mono ?_
        rintro r w5 ⟨rfl, h5⟩
        have hb5 := hb4.trans (h5.mono hb4.size)
        clear h5 cA'
        have cM' := cM w5 b cap' (HT.out.next hb5) (HJ.out.next hb5)
        have hsum := HSUM.out
        have t1 : ((S.size : Int) == ((V.length : Int) + 2) / 3 * 4) = true := by rw [beq_iff_eq]; have := HPV.out.2; omega
        have t2 : ((p : Int) == -((V.length : Int) % 3) % 3) = true := by rw [beq_iff_eq]; have := HPV.out.1; omega
        clear cM hb4
        go_wp2_with fail
        refine cM'.mono ?_
        rintro r w6 ⟨rfl, h6⟩
        have hb6 := hb5.trans (h6.mono hb5.size)
        clear h6 hb5 cM'
        go_wp2_with fail
        go_ret
        exact ⟨rfl, hb6⟩
      · obtain hpe' : p = S.size := by omega
        have l1 : decide ((p : Int) < (S.size : Int)) = false := decide_eq_false (by omega)
        have l2 : decide (p < S.size) = false := decide_eq_false (by omega)
        clear hpe'
        go_upto_region 11 with fail
        go_wp2_with (refine wpList_cutH rfl (.tmp 48) (.tmp 49) rfl a l cap k rfl rfl hkl HI.out ?_)
        rw [HA.out.1]
        intro hcut
        have cA' := cA wr a cap (HT.out.next hb4) (by rw [← HA.out.1]; exact (HI.out.take hkl).next hb4)
        clear cA
        go_wp2_with fail
        refine cA'.mono ?_
        rintro r w5 ⟨rfl, h5⟩
        have hb5 := hb4.trans (h5.mono hb4.size)
        clear h5 cA'
        have cM' := cM w5 b cap' (HT.out.next hb5) (HJ.out.next hb5)
        have hsum := HSUM.out
        have t1 : ((S.size : Int) == ((V.length : Int) + 2) / 3 * 4) = true := by rw [beq_iff_eq]; have := HPV.out.2; omega
        have t2 : ((p : Int) == -((V.length : Int) % 3) % 3) = true := by rw [beq_iff_eq]; have := HPV.out.1; omega
        clear cM hb4
        go_wp2_with fail
        refine cM'.mono ?_
        rintro r w6 ⟨rfl, h6⟩
        have hb6 := hb5.trans (h6.mono hb5.size)
        clear h6 hb5 cM'
        go_wp2_with fail
        go_ret
        exact ⟨rfl, hb6⟩
theorem threes_any (a : Option Addr) (cap : Nat) (l : List UInt8) (b : Option Addr) (cap' : Nat) (m : List UInt8) (w : World) (ht : Tab w) (hin : InS w a l cap) (hin' : InS w b m cap') :
    Calls Tryd.prog 4 #[.slice a l.length cap, .slice b m.length cap'] w fun e w' => e = .returned (.bool true) ∧ Below w.heap.size w w' := by
  by_cases h1 : l.length ≤ 100
  · by_cases h2 : m.length ≤ 100
    · exact threes_core a b cap cap' l m w ht hin hin' h1 h2
    · exact threes_long a b cap cap' l m w ht (Or.inr ⟨h1, by omega⟩)
  · exact threes_long a b cap cap' l m w ht (Or.inl (by omega))
end Go.Proofs.YthhhmmogefpcgaaDoor
