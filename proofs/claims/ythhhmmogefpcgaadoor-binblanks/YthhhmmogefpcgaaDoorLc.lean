/- The law BinBlanks: its walk. -/
import Derived.Test.YthhhmmogefpcgaaDoorWk
set_option linter.unusedVariables false
namespace Go.Proofs.YthhhmmogefpcgaaDoor
open Go.RowKit

set_option maxRecDepth 100000 in
set_option maxHeartbeats 1000000 in
theorem blanks_long (a : Option Addr) (cap : Nat) (l : List UInt8) (at_ : Int) (c n : Nat) (w : World) (ht : Tab w) (h : l.length < 1 ∨ 100 < l.length) :
    Calls Tryd.prog 5 #[.slice a l.length cap, .int .i64 at_, .int .u8 c, .int .u8 n] w fun e w' => e = .returned (.bool true) ∧ Below w.heap.size w w' := by
  have c0 := known_any w ht
  rcases h with h | h
  · have d1 : decide ((l.length : Int) < 1) = true := decide_eq_true (by omega)
    have d2 : decide (l.length < 1) = true := decide_eq_true (by omega)
    go_enter Tryd.func5, Tryd.ntmps5
    go_wp2_with fail
    refine c0.mono ?_
    rintro r w1 ⟨rfl, hb⟩
    clear c0
    go_wp2
    go_ret
    exact ⟨rfl, hb⟩
  · have d1 : decide ((l.length : Int) < 1) = false := decide_eq_false (by omega)
    have d2 : decide (l.length < 1) = false := decide_eq_false (by omega)
    have d3 : decide ((100 : Int) < (l.length : Int)) = true := decide_eq_true (by omega)
    have d4 : decide (100 < l.length) = true := decide_eq_true (by omega)
    go_enter Tryd.func5, Tryd.ntmps5
    go_wp2_with fail
    refine c0.mono ?_
    rintro r w1 ⟨rfl, hb⟩
    clear c0
    go_wp2
    go_ret
    exact ⟨rfl, hb⟩
/-- The four blanks. -/
def bls : List UInt8 := [32, 9, 10, 13]
theorem bls_bl : ∀ j, j < 4 → M.bl (bls.getD j 0) = true := by decide
def blRow : Array Value := #[.string ⟨#[32]⟩, .string ⟨#[9]⟩, .string ⟨#[10]⟩, .string ⟨#[13]⟩]
theorem blRow_get (j : Nat) (h : j < 4) : blRow[j]? = some (.string (bA [bls.getD j 0])) := by
  match j, h with
  | 0, _ => rfl
  | 1, _ => rfl
  | 2, _ => rfl
  | 3, _ => rfl
theorem ext_list (X : ByteArray) (k : Nat) (h : k ≤ X.size) : (X.extract 0 k).data.toList = X.data.toList.take k ∧ (X.extract k X.size).data.toList = X.data.toList.drop k := by
  constructor
  · simp only [ByteArray.data_extract, Array.toList_extract, List.extract_eq_take_drop, List.drop_zero, Nat.sub_zero]
  · simp only [ByteArray.data_extract, Array.toList_extract, List.extract_eq_take_drop]
    apply List.take_of_length_le
    rw [List.length_drop, ← sz_list]; exact Nat.le_refl _
set_option maxRecDepth 100000 in
set_option maxHeartbeats 4000000 in
theorem blanks_core (a : Option Addr) (cap : Nat) (l : List UInt8) (at_ : Int) (c : UInt8) (n : Nat) (w : World) (ht : Tab w) (hin : InS w a l cap) (hl1 : 1 ≤ l.length) (hl : l.length ≤ 100) (hat : -9223372036854775808 ≤ at_ ∧ at_ ≤ 9223372036854775807) (hn : n ≤ 255) :
    Calls Tryd.prog 5 #[.slice a l.length cap, .int .i64 at_, .int .u8 c.toNat, .int .u8 n] w fun e w' => e = .returned (.bool true) ∧ Below w.heap.size w w' := by
  have c0 := known_any w ht
  obtain ⟨X, hX⟩ : ∃ S, bA (M.TX l) = S := ⟨_, rfl⟩
  have hXs : X.size = (l.length + 2) / 3 * 4 := by rw [← hX, bA_size, M.tx_len]
  have hXl : X.data.toList = M.TX l := by rw [← hX, bA_toList]
  have hXb : X.size ≤ 400 := by omega
  have hX4 : 4 ≤ X.size := by omega
  have cA : ∀ W, Tab W → InS W a l cap → Calls Tryd.prog 9 #[.slice a l.length cap] W fun e w' => e = .returned (.string X) ∧ Below W.heap.size W w' := fun W h1 h2 => by
    rw [← hX]; exact text_any a l cap W h1 h2 (by omega)
  have cW := fun W => within_any at_ X.size W hat.1 hat.2 (by omega)
  have cP : ∀ k (x : UInt8) W, k ≤ X.size → Tab W → Calls Tryd.prog 11 #[.string (X.extract 0 k ++ bA [x] ++ X.extract k X.size)] W fun e w' => e = .returned (.tuple #[.string (bA (M.TX (M.by_ ((M.TX l).take k ++ [x] ++ (M.TX l).drop k)))), .bool (M.bl x)]) ∧ Below W.heap.size W w' := fun k x W hk h1 => by
    obtain ⟨e1, e2⟩ := ext_list X k hk
    have e3 : (X.extract 0 k ++ bA [x] ++ X.extract k X.size).data.toList = (M.TX l).take k ++ [x] ++ (M.TX l).drop k := by
      rw [append_list, append_list, e1, e2, bA_toList, hXl]
    have h2 := of_any (X.extract 0 k ++ bA [x] ++ X.extract k X.size) W h1 (by
      rw [sz_list, e3]; have := M.tx_len l; simp only [List.length_append, List.length_take, List.length_drop, List.length_cons, List.length_nil]; omega)
    rw [e3, (M.put_in l k x).1] at h2
    exact h2
  have cD : ∀ W, Tab W → Calls Tryd.prog 11 #[.string (X.extract 1 X.size)] W fun e w' => (∃ T, e = .returned (.tuple #[.string T, .bool false])) ∧ Below W.heap.size W w' := fun W h1 => by
    obtain ⟨e1, e2⟩ := ext_list X 1 (by omega)
    have h2 := of_any (X.extract 1 X.size) W h1 (by rw [ByteArray.size_extract]; omega)
    rw [e2, hXl, M.one_out l (by intro e; rw [e] at hl1; simp at hl1)] at h2
    exact h2.mono fun e w' h => ⟨⟨_, h.1⟩, h.2⟩
  obtain ⟨j, hj⟩ : ∃ j, n % 4 = j := ⟨_, rfl⟩
  have hj4 : j < 4 := by omega
  have hjm : (n : Int) % 4 = (j : Int) := by omega
  have hbl := bls_bl j hj4
  have hrow := blRow_get j hj4
  have cQ : ∀ k W, k ≤ X.size → Tab W → Calls Tryd.prog 11 #[.string (X.extract 0 k ++ bA [bls.getD j 0] ++ X.extract k X.size)] W fun e w' => e = .returned (.tuple #[.string X, .bool true]) ∧ Below W.heap.size W w' := fun k W hk h1 => by
    have h2 := cP k (bls.getD j 0) W hk h1
    rw [hbl, (M.put_in l k (bls.getD j 0)).2 hbl, hX] at h2
    exact h2
  generalize bls.getD j 0 = x at *
  have HT := Lib.hid ht
  have HI := Lib.hid hin
  clear ht hin hX hXs hXl hbl hj
  have d1 : decide ((l.length : Int) < 1) = false := decide_eq_false (by omega)
  have d2 : decide (l.length < 1) = false := decide_eq_false (by omega)
  have d3 : decide ((100 : Int) < (l.length : Int)) = false := decide_eq_false (by omega)
  have d4 : decide (100 < l.length) = false := decide_eq_false (by omega)
  have d5 : decide ((X.size : Int) < 4) = false := decide_eq_false (by omega)
  have d6 : decide (X.size < 4) = false := decide_eq_false (by omega)
  go_enter Tryd.func5, Tryd.ntmps5
  go_wp2_with fail
  refine c0.mono ?_
  rintro r w1 ⟨rfl, hb1⟩
  clear c0
  go_wp2_with fail
  refine (cA _ (HT.out.next hb1) (HI.out.next hb1)).mono ?_
  rintro r w2 ⟨rfl, h2⟩
  have hb2 := hb1.trans (h2.mono hb1.size)
  clear h2 hb1 cA
  go_wp2_with fail
  refine (cW _).mono ?_
  rintro r w3 ⟨⟨k, hk, rfl⟩, rfl⟩
  clear cW
  have hn10 := heap_alloc_new w2 (.cells #[.string ⟨#[32]⟩, .string ⟨#[9]⟩, .string ⟨#[10]⟩, .string ⟨#[13]⟩] 31)
  have hb3 := hb2.alloc hb2.size (.cells #[.string ⟨#[32]⟩, .string ⟨#[9]⟩, .string ⟨#[10]⟩, .string ⟨#[13]⟩] 31)
  obtain ⟨W3, hW3⟩ : ∃ W, w2.alloc (.cells #[.string ⟨#[32]⟩, .string ⟨#[9]⟩, .string ⟨#[10]⟩, .string ⟨#[13]⟩] 31) = W := ⟨_, rfl⟩
  rw [hW3] at hn10 hb3 ⊢
  have hlt : w2.heap.size < W3.heap.size := (Array.getElem?_eq_some_iff.1 hn10).1
  have hcell : W3.cell? ⟨w2.heap.size, j, none⟩ = some (.string (bA [x])) := by
    rw [Lib.cell_of_heap hn10]; exact hrow
  generalize w2.heap.size = g at *
  have hxs : (bA [x]).size = 1 := bA_size _
  have hp1 : (X.extract 0 k).size = k := by rw [ByteArray.size_extract]; omega
  have hp2 : (X.extract k X.size).size ≤ 400 := by rw [ByteArray.size_extract]; omega
  have cQ' := fun W h => cQ k W hk h
  have cP' := fun W h => cP k c W hk h
  have cz : (bA [c]).size = 1 := bA_size _
  clear cQ cP hW3 hn10 hrow hb2
  obtain ⟨P1, hP1⟩ : ∃ S, X.extract 0 k = S := ⟨_, rfl⟩
  obtain ⟨P2, hP2⟩ : ∃ S, X.extract k X.size = S := ⟨_, rfl⟩
  rw [hP1] at hp1
  rw [hP2] at hp2
  rw [hP1, hP2] at cQ' cP'
  generalize bA [x] = BX at *
  have a1 : ∀ W, (Op.stringOp .add P1 BX).run Tryd.prog W = .ok (.string (P1 ++ BX)) W := fun W => run_string_add_sum _ _ _ (by omega)
  have a2 : ∀ W, (Op.stringOp .add (P1 ++ BX) P2).run Tryd.prog W = .ok (.string (P1 ++ BX ++ P2)) W := fun W => run_string_add_sum _ _ _ (by rw [append_sz]; omega)
  have a3 : ∀ W, (Op.stringOp .add P1 (bA [c])).run Tryd.prog W = .ok (.string (P1 ++ bA [c])) W := fun W => run_string_add_sum _ _ _ (by omega)
  have a4 : ∀ W, (Op.stringOp .add (P1 ++ bA [c]) P2).run Tryd.prog W = .ok (.string (P1 ++ bA [c] ++ P2)) W := fun W => run_string_add_sum _ _ _ (by rw [append_sz]; omega)
  have i1 : (0 : Int) ≤ (k : Int) := by omega
  have i2 : (k : Int) ≤ (X.size : Int) := by omega
  have i3 : (0 : Int) ≤ (j : Int) := by omega
  have i4 : (j : Int) < 4 := by omega
  have i5 : Int.tmod (n : Int) 4 = (j : Int) := by rw [Int.tmod_eq_emod_of_nonneg (by omega)]; exact hjm
  have hS1 : ∀ wx, Below W3.heap.size W3 wx → (wx.cell? ⟨g, j, none⟩ = some (.string BX) ∧ Below W3.heap.size W3 wx) := fun wx h => ⟨(h.cell (p := ⟨g, j, none⟩) hlt).trans hcell, h⟩
  have hS2 : ∀ wx, (wx.cell? ⟨g, j, none⟩ = some (.string BX) ∧ Below W3.heap.size W3 wx) → Below W3.heap.size W3 wx := fun wx h => h.2
  have HS1 := Lib.hid hS1
  have HS2 := Lib.hid hS2
  have HT3 := Lib.hid (fun W (h : Below W3.heap.size W3 W) => (HT.out.next hb3).next h)
  have HB3 := Lib.hid hb3
  have HZ := Lib.hid (And.intro hp1 (And.intro hp2 (And.intro hxs cz)))
  clear hS1 hS2 hcell hb3 hp1 hp2 hxs cz
  go_wp2_with fail
  go_region_held3 (fun wx => wx.cell? ⟨g, j, none⟩ = some (.string BX) ∧ Below W3.heap.size W3 wx)
    (first | exact hS | exact HS1.out _ (Below.refl _ _).drew)
    (first | (go_at_call 11; (with_reducible refine (liftC HS1.out HS2.out (cQ' _ (HT3.out _ (HS2.out _ (‹_ ∧ Below _ _ _›)))) ?_).mono ?_); (exact ‹_ ∧ Below _ _ _›); rintro r wq ⟨rfl, hS⟩))
  have hQ := HS2.out _ hS
  have hbq := HB3.out.trans (hQ.mono HB3.out.size)
  clear hS HS1 HS2 hQ cQ' a1 a2
  have hcv : (convert 22 9 (.slice (some ⟨wq.heap.size, 0, none⟩) 1 1)).run Tryd.prog (wq.alloc (.cells #[.int .u8 c.toNat] 5)).drew = .ok (.string (bA [c])) (wq.alloc (.cells #[.int .u8 c.toNat] 5)).drew := by
    have hn := heap_alloc_new wq (.cells #[.int .u8 c.toNat] 5)
    have hc0 : (wq.alloc (.cells #[.int .u8 c.toNat] 5)).drew.cell? ⟨wq.heap.size, 0, none⟩ = some (.int .u8 c.toNat) := by
      show (match (wq.alloc (.cells #[.int .u8 c.toNat] 5)).heap[wq.heap.size]? with | some (.cells cs _ _) => _ | _ => _) = _
      rw [hn]; rfl
    have hi : InS (wq.alloc (.cells #[.int .u8 c.toNat] 5)).drew (some ⟨wq.heap.size, 0, none⟩) [c] 1 := ⟨Nat.le_refl _, fun _ => ⟨wq.heap.size, 0, rfl, fun j hj => by
      match j, hj with
      | 0, _ => exact hc0
      | q + 1, hj => exact absurd hj (by simp), (Array.getElem?_eq_some_iff.1 hn).1⟩⟩
    exact hi.conv
  have hb4 := (hbq.alloc hbq.size (.cells #[.int .u8 c.toNat] 5)).drew
  have cP2 := cP' _ (HT.out.next hb4)
  clear cP'
  go_wp2_with fail
  go_region_with (go_at_call 11; refine cP2.mono ?_; rintro r w5 ⟨rfl, h5⟩)
  have hb5 := hb4.trans (h5.mono hb4.size)
  clear h5 cP2 hb4 hcv a3 a4 hbq
  have i6 : (1 : Int) ≤ (X.size : Int) := by omega
  have i7 : 1 ≤ X.size := by omega
  generalize bA (M.TX (M.by_ ((M.TX l).take k ++ [c] ++ (M.TX l).drop k))) = T5 at *
  go_wp2_with fail
  refine (cD _ (HT.out.next hb5)).mono ?_
  rintro r w6 ⟨⟨T6, rfl⟩, h6⟩
  have hb6 := hb5.trans (h6.mono hb5.size)
  clear h6 hb5 cD
  by_cases h32 : c = 32
  · have e0 : M.bl c = true := by rw [h32]; rfl
    have f32 : ((c.toNat : Int) == 32) = true := by rw [h32]; rfl
    rw [e0]
    clear h32 e0
    go_wp2
    go_ret
    exact ⟨rfl, hb6⟩
  by_cases h9 : c = 9
  · have e0 : M.bl c = true := by rw [h9]; rfl
    have f32 : ((c.toNat : Int) == 32) = false := neC (k := 32) (by omega) h32
    have f9 : ((c.toNat : Int) == 9) = true := by rw [h9]; rfl
    rw [e0]
    clear h32 h9 e0
    go_wp2
    go_ret
    exact ⟨rfl, hb6⟩
  by_cases h10 : c = 10
  · have e0 : M.bl c = true := by rw [h10]; rfl
    have f32 : ((c.toNat : Int) == 32) = false := neC (k := 32) (by omega) h32
    have f9 : ((c.toNat : Int) == 9) = false := neC (k := 9) (by omega) h9
    have f10 : ((c.toNat : Int) == 10) = true := by rw [h10]; rfl
    rw [e0]
    clear h32 h9 h10 e0
    go_wp2
    go_ret
    exact ⟨rfl, hb6⟩
  by_cases h13 : c = 13
  · have e0 : M.bl c = true := by rw [h13]; rfl
    have f32 : ((c.toNat : Int) == 32) = false := neC (k := 32) (by omega) h32
    have f9 : ((c.toNat : Int) == 9) = false := neC (k := 9) (by omega) h9
    have f10 : ((c.toNat : Int) == 10) = false := neC (k := 10) (by omega) h10
    have f13 : ((c.toNat : Int) == 13) = true := by rw [h13]; rfl
    rw [e0]
    clear h32 h9 h10 h13 e0
    go_wp2
    go_ret
    exact ⟨rfl, hb6⟩
  have e0 : M.bl c = false := by
    unfold M.bl
    rw [beq_eq_false_iff_ne.2 h32, beq_eq_false_iff_ne.2 h9, beq_eq_false_iff_ne.2 h10, beq_eq_false_iff_ne.2 h13]; rfl
  have f32 : ((c.toNat : Int) == 32) = false := neC (k := 32) (by omega) h32
  have f9 : ((c.toNat : Int) == 9) = false := neC (k := 9) (by omega) h9
  have f10 : ((c.toNat : Int) == 10) = false := neC (k := 10) (by omega) h10
  have f13 : ((c.toNat : Int) == 13) = false := neC (k := 13) (by omega) h13
  rw [e0]
  clear h32 h9 h10 h13 e0
  go_wp2
  go_ret
  exact ⟨rfl, hb6⟩
theorem blanks_any (a : Option Addr) (cap : Nat) (l : List UInt8) (at_ : Int) (c n : Nat) (w : World) (ht : Tab w) (hin : InS w a l cap) (hat : -9223372036854775808 ≤ at_ ∧ at_ ≤ 9223372036854775807) (hc : c ≤ 255) (hn : n ≤ 255) :
    Calls Tryd.prog 5 #[.slice a l.length cap, .int .i64 at_, .int .u8 c, .int .u8 n] w fun e w' => e = .returned (.bool true) ∧ Below w.heap.size w w' := by
  by_cases h1 : 1 ≤ l.length
  · by_cases h2 : l.length ≤ 100
    · have h := blanks_core a cap l at_ (UInt8.ofNat c) n w ht hin h1 h2 hat hn
      rw [show (UInt8.ofNat c).toNat = c by simp; omega] at h
      exact h
    · exact blanks_long a cap l at_ c n w ht (Or.inr (by omega))
  · exact blanks_long a cap l at_ c n w ht (Or.inl (by omega))
end Go.Proofs.YthhhmmogefpcgaaDoor
