/- The law BinBack: its walk. -/
import Derived.Test.YthhhmmogefpcgaaDoorWj
set_option linter.unusedVariables false
namespace Go.Proofs.YthhhmmogefpcgaaDoor
open Go.RowKit

set_option maxRecDepth 100000 in
set_option maxHeartbeats 1000000 in
theorem back_long (a : Option Addr) (cap : Nat) (l : List UInt8) (s : ByteArray) (w : World) (ht : Tab w) (hs : s.size ≤ maxLen) (h : 200 < s.size ∨ (s.size ≤ 200 ∧ 200 < l.length)) :
    Calls Tryd.prog 3 #[.slice a l.length cap, .string s] w fun e w' => e = .returned (.bool true) ∧ Below w.heap.size w w' := by
  have c0 := known_any w ht
  rcases h with h | ⟨h, h'⟩
  · have d1 : decide ((200 : Int) < (s.size : Int)) = true := decide_eq_true (by omega)
    have d2 : decide (200 < s.size) = true := decide_eq_true (by omega)
    go_enter Tryd.func3, Tryd.ntmps3
    go_wp2_with fail
    refine c0.mono ?_
    rintro r w1 ⟨rfl, hb⟩
    clear c0
    go_wp2
    go_ret
    exact ⟨rfl, hb⟩
  · have d1 : decide ((200 : Int) < (s.size : Int)) = false := decide_eq_false (by omega)
    have d2 : decide (200 < s.size) = false := decide_eq_false (by omega)
    have d3 : decide ((200 : Int) < (l.length : Int)) = true := decide_eq_true (by omega)
    have d4 : decide (200 < l.length) = true := decide_eq_true (by omega)
    go_enter Tryd.func3, Tryd.ntmps3
    go_wp2_with fail
    refine c0.mono ?_
    rintro r w1 ⟨rfl, hb⟩
    clear c0
    go_wp2
    go_ret
    exact ⟨rfl, hb⟩
set_option maxRecDepth 100000 in
set_option maxHeartbeats 2000000 in
theorem back_core (a : Option Addr) (cap : Nat) (l : List UInt8) (s : ByteArray) (w : World) (ht : Tab w) (hin : InS w a l cap) (hs : s.size ≤ 200) (hl : l.length ≤ 200) :
    Calls Tryd.prog 3 #[.slice a l.length cap, .string s] w fun e w' => e = .returned (.bool true) ∧ Below w.heap.size w w' := by
  have c0 := known_any w ht
  obtain ⟨X, hX⟩ : ∃ X, bA (M.TX l) = X := ⟨_, rfl⟩
  have hXs : X.size ≤ 300 := by rw [← hX, bA_size, M.tx_len]; omega
  have hXl : X.data.toList = M.TX l := by rw [← hX, bA_toList]
  obtain ⟨Y, hY⟩ : ∃ Y, M.by_ s.data.toList = Y := ⟨_, rfl⟩
  obtain ⟨K, hK⟩ : ∃ K, M.ok s.data.toList = K := ⟨_, rfl⟩
  have hYl : Y.length ≤ 200 := by rw [← hY]; have := by_le s.data.toList; rw [← sz_list] at this; omega
  have hno : K = false → Y = [] := fun h => by rw [← hY]; exact M.of_no _ (hK.trans h)
  obtain ⟨T, hT⟩ : ∃ T, bA (M.TX Y) = T := ⟨_, rfl⟩
  have hTs : T.size ≤ 300 := by rw [← hT, bA_size, M.tx_len]; omega
  have hTl : T.data.toList = M.TX Y := by rw [← hT, bA_toList]
  have cX : ∀ W, Tab W → InS W a l cap → Calls Tryd.prog 9 #[.slice a l.length cap] W fun e w' => e = .returned (.string X) ∧ Below W.heap.size W w' := fun W h1 h2 => by
    rw [← hX]; exact text_any a l cap W h1 h2 (by omega)
  have cY : ∀ W, Tab W → Calls Tryd.prog 8 #[.string X] W fun e w' => ∃ a' cap', e = .returned (.tuple #[.slice a' l.length cap', .bool true]) ∧ InS w' a' l cap' ∧ Below W.heap.size W w' := fun W h1 => by
    have c := bytes_any X W h1 (by omega)
    rw [hXl, M.by_tx, M.ok_tx] at c
    exact c
  have cO : ∀ W, Tab W → Calls Tryd.prog 11 #[.string s] W fun e w' => e = .returned (.tuple #[.string T, .bool K]) ∧ Below W.heap.size W w' := fun W h1 => by
    have c := of_any s W h1 (by omega)
    rw [hY, hK, hT] at c
    exact c
  have cB : ∀ W, Tab W → Calls Tryd.prog 8 #[.string s] W fun e w' => ∃ a' cap', e = .returned (.tuple #[.slice a' Y.length cap', .bool K]) ∧ InS w' a' Y cap' ∧ Below W.heap.size W w' := fun W h1 => by
    have c := bytes_any s W h1 (by omega)
    rw [hY, hK] at c
    exact c
  have cT : ∀ W, Tab W → Calls Tryd.prog 11 #[.string T] W fun e w' => e = .returned (.tuple #[.string T, .bool true]) ∧ Below W.heap.size W w' := fun W h1 => by
    have c := of_any T W h1 (by omega)
    rw [hTl, M.by_tx, M.ok_tx, hT] at c
    exact c
  have cZ : ∀ W a' cap', Tab W → InS W a' Y cap' → Calls Tryd.prog 9 #[.slice a' Y.length cap'] W fun e w' => e = .returned (.string T) ∧ Below W.heap.size W w' := fun W a' cap' h1 h2 => by
    rw [← hT]; exact text_any a' Y cap' W h1 h2 (by omega)
  have hkk : (K != K) = false := by cases K <;> rfl
  have hnT : K = false → T = ⟨#[]⟩ := fun h => by rw [← hT, hno h]; rfl
  have HN := Lib.hid (And.intro hno hnT)
  have HT := Lib.hid ht
  have HI := Lib.hid hin
  clear hX hXl hY hK hT hTl hno hnT ht hin
  have d1 : decide ((200 : Int) < (s.size : Int)) = false := decide_eq_false (by omega)
  have d2 : decide (200 < s.size) = false := decide_eq_false (by omega)
  have d3 : decide ((200 : Int) < (l.length : Int)) = false := decide_eq_false (by omega)
  have d4 : decide (200 < l.length) = false := decide_eq_false (by omega)
  go_enter Tryd.func3, Tryd.ntmps3
  go_wp2_with fail
  refine c0.mono ?_
  rintro r w1 ⟨rfl, hb1⟩
  clear c0
  go_wp2_with fail
  refine (cX _ (HT.out.next hb1) (HI.out.next hb1)).mono ?_
  rintro r w2 ⟨rfl, h2⟩
  have hb2 := hb1.trans (h2.mono hb1.size)
  clear h2 hb1 cX
  go_wp2_with fail
  refine (cY _ (HT.out.next hb2)).mono ?_
  rintro r w3 ⟨a3, cap3, rfl, hin3, h3⟩
  have hb3 := hb2.trans (h3.mono hb2.size)
  have cH := hbytes_any a a3 l l cap cap3 w3 (HI.out.next hb3) hin3
  have hself : (bA l == bA l) = true := by rw [beq_toListBytes]; exact beq_self_eq_true _
  rw [hself] at cH
  clear h3 hb2 cY hself hin3
  go_wp2_with fail
  refine cH.mono ?_
  rintro r w4 ⟨rfl, rfl⟩
  clear cH
  go_wp2_with fail
  refine (cO _ (HT.out.next hb3)).mono ?_
  rintro r w5 ⟨rfl, h5⟩
  have hb5 := hb3.trans (h5.mono hb3.size)
  clear h5 hb3 cO
  go_wp2_with fail
  refine (cB _ (HT.out.next hb5)).mono ?_
  rintro r w6 ⟨a6, cap6, rfl, hin6, h6⟩
  have hb6 := hb5.trans (h6.mono hb5.size)
  clear h6 hb5 cB
  have HI6 := Lib.hid hin6
  clear hin6
  go_wp2_with fail
  refine (cT _ (HT.out.next hb6)).mono ?_
  rintro r w7 ⟨rfl, h7⟩
  have hb7 := hb6.trans (h7.mono hb6.size)
  have HI7 := Lib.hid (HI6.out.next h7)
  clear h7 hb6 cT HI6 hkk
  cases K with
  | false =>
    obtain ⟨e1, e2⟩ := HN.out
    have e1' := e1 rfl
    have e2' := e2 rfl
    subst e1' e2'
    clear cZ e1 e2 HN
    go_wp2
    go_ret
    exact ⟨rfl, hb7⟩
  | true =>
    go_wp2_with fail
    refine (cZ _ a6 cap6 (HT.out.next hb7) HI7.out).mono ?_
    rintro r w8 ⟨rfl, h8⟩
    have hb8 := hb7.trans (h8.mono hb7.size)
    clear h8 hb7 cZ
    go_wp2
    go_ret
    exact ⟨rfl, hb8⟩
theorem back_any (a : Option Addr) (cap : Nat) (l : List UInt8) (s : ByteArray) (w : World) (ht : Tab w) (hin : InS w a l cap) (hs : s.size ≤ maxLen) :
    Calls Tryd.prog 3 #[.slice a l.length cap, .string s] w fun e w' => e = .returned (.bool true) ∧ Below w.heap.size w w' := by
  by_cases h1 : s.size ≤ 200
  · by_cases h2 : l.length ≤ 200
    · exact back_core a cap l s w ht hin h1 h2
    · exact back_long a cap l s w ht hs (Or.inr ⟨h1, by omega⟩)
  · exact back_long a cap l s w ht hs (Or.inl (by omega))
end Go.Proofs.YthhhmmogefpcgaaDoor
