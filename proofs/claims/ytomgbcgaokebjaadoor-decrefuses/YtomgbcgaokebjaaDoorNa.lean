/- The law DecRefuses: its walk. -/
import Derived.Test.YtomgbcgaokebjaaDoorWv
import Derived.Test.YtomgbcgaokebjaaDoorRa
import Derived.Lib.ConvBytes
set_option linter.unusedVariables false
namespace Go.Proofs.YtomgbcgaokebjaaDoor
open Go.RowKit

/-- Whether Make makes one. -/
theorem make_tell (neg : Bool) (A F X : ByteArray) (hA : A.size ≤ 1000) (hF : F.size ≤ 1000) (hX : X.size ≤ 1000) :
    ∃ (k : Int) (n : Bool) (D E : ByteArray), ∀ W, Tab W → Calls Tryd.prog 9 #[.bool neg, .string A, .string F, .string X] W fun e w' => e = .returned (.tuple #[dV k n D E, .bool (M.okD 10 (A.data.toList ++ F.data.toList) && M.goodB X.data.toList)]) ∧ Below W.heap.size W w' := by
  by_cases h : M.okD 10 (A.data.toList ++ F.data.toList) = false ∨ M.goodB X.data.toList = false
  · have e : (M.okD 10 (A.data.toList ++ F.data.toList) && M.goodB X.data.toList) = false := by
      rcases h with h | h <;> rw [h]
      · rfl
      · exact Bool.and_false _
    rw [e]
    exact ⟨_, _, _, _, fun W _ => make_no neg A F X W hA hF hX h⟩
  · have h1 : M.okD 10 (A.data.toList ++ F.data.toList) = true := by
      cases hh : M.okD 10 (A.data.toList ++ F.data.toList)
      · exact absurd (Or.inl hh) h
      · rfl
    have h2 : M.goodB X.data.toList = true := by
      cases hh : M.goodB X.data.toList
      · exact absurd (Or.inr hh) h
      · rfl
    obtain ⟨z, hz⟩ := M.txt_of_good h2
    obtain rfl : X = tx z := eq_bA hz
    rw [h1, h2]
    by_cases hv : M.val 10 (A.data.toList ++ F.data.toList) = 0
    · exact ⟨_, _, _, _, fun W _ => make_zero neg A F z W hA hF hX h1 hv⟩
    · obtain ⟨c, t, hc, hct⟩ := M.exists_ct _ (Nat.pos_of_ne_zero hv)
      exact ⟨_, _, _, _, fun W hW => make_yes neg A F z c t W hW hA hF hX h1 hc hct⟩

/-- Bytes in memory, read one by one. -/
def Bs (w : World) (g : Nat) (l : List UInt8) : Prop := (∀ j (h : j < l.length), w.cell? ⟨g, j, none⟩ = some (.int .u8 (l[j].toNat : Int))) ∧ (∀ j, j < l.length → w.frozen? ⟨g, j, none⟩ = false) ∧ g < w.heap.size
theorem Bs.next {w w' : World} {g : Nat} {l : List UInt8} (h : Bs w g l) (hb : Below w.heap.size w w') : Bs w' g l :=
  ⟨fun j hj => (hb.cell (p := ⟨g, j, none⟩) h.2.2).trans (h.1 j hj), fun j hj => (hb.frozen (p := ⟨g, j, none⟩) h.2.2).trans (h.2.1 j hj), Nat.lt_of_lt_of_le h.2.2 hb.size⟩
theorem Bs.conv {w : World} {g : Nat} {l : List UInt8} (h : Bs w g l) (n : Nat) (hn : n = l.length) (cap : Nat) : (convert 38 9 (.slice (some ⟨g, 0, none⟩) n cap)).run Tryd.prog w = .ok (.string (bA l)) w := by
  subst hn
  refine run_convert_bytes_back w 38 9 5 ⟨g, 0, none⟩ cap l Tryd.underlying38 Tryd.underlying5 Tryd.underlying9 ?_
  intro j hj
  have := h.1 j hj
  by_cases hz : j = 0
  · subst hz; simpa [Addr.add] using this
  · simpa [Addr.add, hz] using this
theorem Bs.set {w : World} {g : Nat} {l : List UInt8} (h : Bs w g l) (i : Nat) (hi : i < l.length) (c : UInt8) : Bs (w.setCell ⟨g, i, none⟩ (.int .u8 (c.toNat : Int))) g (l.set i c) := by
  refine ⟨fun j hj => ?_, fun j hj => ?_, by simpa using h.2.2⟩
  · rw [List.length_set] at hj
    by_cases e : i = j
    · subst e
      rw [World.cell?_setCell_same _ _ _ (h.1 i hi)]
      simp
    · rw [World.cell?_setCell_other _ _ _ _ (by intro k; exact e (by cases k; rfl)), h.1 j hj]
      simp [e]
  · rw [List.length_set] at hj
    have := h.2.1 j hj
    simpa using this
theorem bytes_conv (s : ByteArray) (w : World) : (convert 9 38 (.string s)).run Tryd.prog w = .ok (.slice (some ⟨w.heap.size, 0, none⟩) s.size (grownCap w s.size 0 5)) (Lib.bytesWorld w 5 s) :=
  Lib.run_convert_string_bytes w 9 38 5 s Tryd.underlying9 Tryd.underlying38 Tryd.underlying5
theorem bytes_below (s : ByteArray) (w : World) : Below w.heap.size w (Lib.bytesWorld w 5 s) :=
  ⟨rfl, rfl, rfl, by rw [Lib.bytesWorld_size]; omega, fun j hj => Lib.bytesWorld_at_old w 5 s j hj⟩
theorem bytes_bs (s : ByteArray) (w : World) : Bs (Lib.bytesWorld w 5 s) w.heap.size s.data.toList := by
  refine ⟨fun j hj => ?_, fun j hj => ?_, by rw [Lib.bytesWorld_size]; omega⟩
  · have := Lib.bytesWorld_cell w 5 s j (by rw [sz_list]; exact hj)
    rw [this, List.getD_eq_getElem?_getD, List.getElem?_eq_getElem hj]
    rfl
  · have := Lib.bytesWorld_at_new w 5 s
    have hs := sz_list s
    have hl : j < (Lib.bytesCells w 5 s).size := by simp [Lib.bytesCells]; omega
    simp [World.frozen?, this]
    omega
theorem ok_set (L : List UInt8) (i : Nat) (hi : i < L.length) (c : UInt8) (h : M.okD 10 L = true) : M.okD 10 (L.set i c) = decide (M.dv c < 10) := by
  obtain ⟨h1, h2⟩ := (M.okD_iff _ _).1 h
  rw [Bool.eq_iff_iff, M.okD_iff, M.allD_iff, decide_eq_true_eq]
  constructor
  · intro k
    exact k.2 c (List.mem_iff_getElem.2 ⟨i, by rw [List.length_set]; exact hi, by simp⟩)
  · intro k
    refine ⟨by intro e; have := congrArg List.length e; rw [List.length_set] at this; exact h1 (List.eq_nil_of_length_eq_zero this), fun x hx => ?_⟩
    rcases List.mem_or_eq_of_mem_set hx with m | rfl
    · exact (M.allD_iff _ _).1 h2 x m
    · exact k
theorem bytes_made (s : ByteArray) (w : World) : ∃ W3 cp, (convert 9 38 (.string s)).run Tryd.prog w = .ok (.slice (some ⟨w.heap.size, 0, none⟩) s.size cp) W3 ∧ Below w.heap.size w W3 ∧ Bs W3 w.heap.size s.data.toList :=
  ⟨_, _, bytes_conv s w, bytes_below s w, bytes_bs s w⟩

set_option maxRecDepth 100000 in
set_option maxHeartbeats 2000000 in
theorem refuses_any (s : ByteArray) (a c : Nat) (neg : Bool) (X : ByteArray) (w : World) (he : Env w) (hs : s.size ≤ maxLen) (ha : a ≤ 255) (hc : c ≤ 255) (hX : X.size ≤ maxLen) :
    Calls Tryd.prog 7 #[.string s, .int .u8 a, .int .u8 c, .bool neg, .string X] w fun r w' => r = .returned (.bool true) ∧ Below w.heap.size w w' := by
  obtain ⟨c', rfl⟩ : ∃ c' : UInt8, c = c'.toNat := ⟨UInt8.ofNat c, by simp; omega⟩
  unfold maxLen at hs hX
  have hs2 : s.size ≤ 9223372036854775807 := by omega
  have hu2 : X.size ≤ 9223372036854775807 := by omega
  clear hs hX
  go_enter Tryd.func7, Tryd.ntmps7
  go_wp2_with fail
  refine (known_any w he).mono ?_
  rintro r w1 ⟨rfl, hb1⟩
  have B1 : Below w.heap.size w w1 := hb1
  have T1 := he.next B1
  clear hb1
  by_cases h1 : s.size < 1
  · have d1 : decide ((s.size : Int) < 1) = true := decide_eq_true (by omega)
    go_wp2
    go_ret
    exact ⟨rfl, B1⟩
  have d1 : decide ((s.size : Int) < 1) = false := decide_eq_false (by omega)
  by_cases h2 : 40 < s.size
  · have d2 : decide ((40 : Int) < (s.size : Int)) = true := decide_eq_true (by omega)
    go_wp2
    go_ret
    exact ⟨rfl, B1⟩
  have d2 : decide ((40 : Int) < (s.size : Int)) = false := decide_eq_false (by omega)
  by_cases h3 : 40 < X.size
  · have d3 : decide ((40 : Int) < (X.size : Int)) = true := decide_eq_true (by omega)
    go_wp2
    go_ret
    exact ⟨rfl, B1⟩
  have d3 : decide ((40 : Int) < (X.size : Int)) = false := decide_eq_false (by omega)
  have cS := fun W => digits_any s W (by omega)
  have okS := digs_ok s.data.toList (by rw [← sz_list]; omega)
  have hlS : (digs s.data.toList).length = s.size := by rw [digs_length, ← sz_list]
  go_wp2_with fail
  refine (cS _).mono ?_
  rintro r w2 ⟨rfl, hb2⟩
  have B2 : Below w.heap.size w w2 := B1.trans (hb2.mono B1.size)
  clear hb2 B1 T1
  obtain ⟨W3, cp, cv, hb3, hbs⟩ := bytes_made (bA (digs s.data.toList)) w2
  rw [bA_toList] at hbs
  obtain ⟨L, hL⟩ : ∃ L, digs s.data.toList = L := ⟨_, rfl⟩
  rw [hL] at okS hlS cv hbs ⊢
  have hYs : (bA L).size = L.length := bA_size L
  have cv3 := hbs.conv (bA L).size hYs
  have hgw : w.heap.size ≤ w2.heap.size := B2.size
  have B3 : Below w.heap.size w W3 := B2.trans (hb3.mono B2.size)
  have T3 := he.next B3
  obtain ⟨k, n, D, E, cm⟩ := make_tell neg (bA L) (bA L) X (by omega) (by omega) (by omega)
  rw [bA_toList] at cm
  have okLL : M.okD 10 (L ++ L) = true := by
    rw [M.okD_iff] at okS ⊢
    exact ⟨by simp [okS.1], by rw [M.allD_append, okS.2]; rfl⟩
  rw [okLL, Bool.true_and] at cm
  have cg := fun W => rgood_any X W (by omega)
  obtain ⟨q, hq⟩ : ∃ q, M.goodB X.data.toList = q := ⟨_, rfl⟩
  rw [hq] at cm cg
  obtain ⟨g, hg⟩ : ∃ g, w2.heap.size = g := ⟨_, rfl⟩
  rw [hg] at hbs cv cv3 hgw
  obtain ⟨Y, hY⟩ : ∃ Y, bA L = Y := ⟨_, rfl⟩
  rw [hY] at cm cv cv3 hYs ⊢
  have HL := Lib.hid hL
  have HY := Lib.hid hY
  have hYn : Y.size ≤ 40 := by omega
  have hY0 : 0 < Y.size := by omega
  have HYs := Lib.hid hYs
  have HlS := Lib.hid hlS
  clear hb3 B2 hL hY hYs hlS hq okLL cS
  go_wp2_with fail
  refine (cm _ T3.1).mono ?_
  rintro r w4 ⟨rfl, hb4⟩
  have S4 := hbs.next hb4
  have B4 : Below w.heap.size w w4 := B3.trans (hb4.mono B3.size)
  clear hbs cv cv3 B3 T3 cm hb4
  have T4 := he.next B4
  go_wp2_with fail
  refine (cg _).mono ?_
  rintro r w' ⟨rfl, rfl⟩
  clear cg
  have hi : a % Y.size < Y.size := Nat.mod_lt _ hY0
  have hi2 : a % Y.size < L.length := by rw [← HYs.out]; exact hi
  have cell4 := S4.1 (a % Y.size) hi2
  have fro4 := S4.2.1 (a % Y.size) hi2
  have hlt := S4.2.2
  have S6 := (S4.set (a % Y.size) hi2 c').next ((Below.refl _ _).alloc (Nat.le_refl _) (.cells #[.int .i64 k, .bool n, .string D, .string E] 23))
  have B5 : Below w.heap.size w (w4.setCell ⟨g, a % Y.size, none⟩ (.int .u8 (c'.toNat : Int))) := B4.setCell hgw _
  have B6 := B5.alloc B5.size (.cells #[.int .i64 k, .bool n, .string D, .string E] 23)
  have cv6 := S6.conv Y.size (by rw [List.length_set, HYs.out])
  generalize hx : (L[a % Y.size]'hi2).toNat = x at cell4
  clear hx
  have T6 := he.next B6
  have hsz : (bA (L.set (a % Y.size) c')).size = L.length := by rw [bA_size, List.length_set]
  have hLl : L.length ≤ 40 := by rw [← HYs.out]; exact hYn
  have hok := ok_set L (a % Y.size) hi2 c' okS
  have h00 : (⟨#[48]⟩ : ByteArray).size ≤ 1000 := by decide
  have h01 : (⟨#[]⟩ : ByteArray).size ≤ 1000 := by decide
  obtain ⟨kA, nA, DA, EA, cA⟩ := make_tell neg (bA (L.set (a % Y.size) c')) ⟨#[]⟩ ⟨#[48]⟩ (by omega) h01 h00
  obtain ⟨kB, nB, DB, EB, cB⟩ := make_tell neg ⟨#[]⟩ (bA (L.set (a % Y.size) c')) ⟨#[48]⟩ h01 (by omega) h00
  rw [app_nil, bA_toList, hok, show M.goodB (⟨#[48]⟩ : ByteArray).data.toList = true by decide, Bool.and_true] at cA
  rw [show (⟨#[]⟩ : ByteArray).data.toList ++ (bA (L.set (a % Y.size) c')).data.toList = L.set (a % Y.size) c' by rw [bA_toList]; simp, hok, show M.goodB (⟨#[48]⟩ : ByteArray).data.toList = true by decide, Bool.and_true] at cB
  have cC := fun W => make_no neg ⟨#[]⟩ ⟨#[]⟩ ⟨#[48]⟩ W h01 h01 h00 (Or.inl (by decide))
  have hSn : Y.size = (L.set (a % Y.size) c').length := by rw [List.length_set, HYs.out]
  obtain ⟨Z, hZ⟩ : ∃ Z, bA (L.set (a % Y.size) c') = Z := ⟨_, rfl⟩
  have cvN := fun (W : World) (h : Bs W g (L.set (a % Y.size) c')) => h.conv Y.size hSn
  rw [hZ] at cv6 cA cB cvN
  have HS6 := Lib.hid S6
  have e1 := eqG
  have e2 := eql4 0 0 false false ⟨#[]⟩ ⟨#[]⟩ ⟨#[]⟩ ⟨#[]⟩
  rw [decide_eq_true ⟨rfl, rfl, rfl, rfl⟩] at e2
  have hdv := dec_iff c'
  clear S6 S4 hsz hLl hok hSn hZ h00 h01 B4 T4 B5 hi2 okS
  generalize L.set (a % Y.size) c' = L2 at *
  by_cases g1 : 48 ≤ c'.toNat
  · have b1 : decide ((48 : Int) ≤ (c'.toNat : Int)) = true := decide_eq_true (by omega)
    have eG : decide (M.dv c' < 10) = decide ((c'.toNat : Int) ≤ (57 : Int)) := by
      rw [decide_eq_decide, hdv]; omega
    rw [eG] at cA cB
    obtain ⟨G, hG⟩ : ∃ G, decide ((c'.toNat : Int) ≤ (57 : Int)) = G := ⟨_, rfl⟩
    rw [hG] at cA cB
    clear eG hdv g1
    go_wp2_with fail
    refine (cA _ T6.1).mono ?_
    rintro r w7 ⟨rfl, hb7⟩
    have S7 := HS6.out.next hb7
    have B7 : Below w.heap.size w w7 := B6.trans (hb7.mono B6.size)
    have T7 := env_new (he.next B7) (.cells #[.int .i64 kA, .bool nA, .string DA, .string EA] 23)
    have cv8 := cvN _ (S7.next ((Below.refl _ _).alloc (Nat.le_refl _) (.cells #[.int .i64 kA, .bool nA, .string DA, .string EA] 23)))
    clear hb7 cv6 cvN cA B6 T6 HS6 S7 cell4 fro4
    go_wp2_with fail
    refine (cB _ T7.1).mono ?_
    rintro r w8 ⟨rfl, hb8⟩
    have B8 : Below w.heap.size w w8 := below_over B7 hb8
    clear hb8 cv8 B7 T7 cB
    go_wp2_with fail
    refine (cC _).mono ?_
    rintro r w9 ⟨rfl, hb9⟩
    have B9 : Below w.heap.size w w9 := below_over B8 hb9
    clear hb9 B8 cC
    go_wp2
    go_ret
    exact ⟨rfl, B9.alloc B9.size _⟩
  · have b1 : decide ((48 : Int) ≤ (c'.toNat : Int)) = false := decide_eq_false (by omega)
    have eG : decide (M.dv c' < 10) = false := decide_eq_false (by rw [hdv]; omega)
    rw [eG] at cA cB
    clear eG hdv g1
    go_wp2_with fail
    refine (cA _ T6.1).mono ?_
    rintro r w7 ⟨rfl, hb7⟩
    have S7 := HS6.out.next hb7
    have B7 : Below w.heap.size w w7 := B6.trans (hb7.mono B6.size)
    have T7 := env_new (he.next B7) (.cells #[.int .i64 kA, .bool nA, .string DA, .string EA] 23)
    have cv8 := cvN _ (S7.next ((Below.refl _ _).alloc (Nat.le_refl _) (.cells #[.int .i64 kA, .bool nA, .string DA, .string EA] 23)))
    clear hb7 cv6 cvN cA B6 T6 HS6 S7 cell4 fro4
    go_wp2_with fail
    refine (cB _ T7.1).mono ?_
    rintro r w8 ⟨rfl, hb8⟩
    have B8 : Below w.heap.size w w8 := below_over B7 hb8
    clear hb8 cv8 B7 T7 cB
    go_wp2_with fail
    refine (cC _).mono ?_
    rintro r w9 ⟨rfl, hb9⟩
    have B9 : Below w.heap.size w w9 := below_over B8 hb9
    clear hb9 B8 cC
    go_wp2
    go_ret
    exact ⟨rfl, B9.alloc B9.size _⟩
end Go.Proofs.YtomgbcgaokebjaaDoor
