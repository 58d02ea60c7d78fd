/- What dec.Parse answers: the decimal of which the text is the print, or none. -/
import Derived.Test.YtomgbcgaokebjaaDoorWt
set_option linter.unusedVariables false
namespace Go.Proofs.YtomgbcgaokebjaaDoor
open Go.RowKit

theorem empty_size : ((⟨#[]⟩ : ByteArray).size : Int) = 0 := rfl
/-- What Make answers, of whatever texts. -/
theorem make_some (neg : Bool) (A X : ByteArray) (hA : A.size ≤ 200) (hX : X.size ≤ 200) :
    ∃ (k : Int) (n : Bool) (D E : ByteArray) (ok : Bool), (∀ W, Tab W → Calls Tryd.prog 9 #[.bool neg, .string A, .string ⟨#[]⟩, .string X] W fun e w' => e = .returned (.tuple #[dV k n D E, .bool ok]) ∧ Below W.heap.size W w') ∧ D.size ≤ 1000 ∧ E.size ≤ 1000 ∧ (ok = true → A.data.toList ≠ []) := by
  have h0 : (⟨#[]⟩ : ByteArray).size ≤ 1000 := by decide
  by_cases h : M.okD 10 A.data.toList = false ∨ M.goodB X.data.toList = false
  · exact ⟨0, false, ⟨#[]⟩, ⟨#[]⟩, false, fun W _ => make_no neg A ⟨#[]⟩ X W (by omega) h0 (by omega) (by rw [app_nil]; exact h), by decide, by decide, fun h => by cases h⟩
  · have h1 : M.okD 10 A.data.toList = true := by
      cases hh : M.okD 10 A.data.toList
      · exact absurd (Or.inl hh) h
      · rfl
    have h2 : M.goodB X.data.toList = true := by
      cases hh : M.goodB X.data.toList
      · exact absurd (Or.inr hh) h
      · rfl
    have hne := ((M.okD_iff _ _).1 h1).1
    have hall := ((M.okD_iff _ _).1 h1).2
    obtain ⟨z, hz⟩ := M.txt_of_good h2
    obtain rfl : X = tx z := eq_bA hz
    by_cases hv : M.val 10 A.data.toList = 0
    · exact ⟨0, neg, ⟨#[48]⟩, ⟨#[48]⟩, true, fun W _ => make_zero neg A ⟨#[]⟩ z W (by omega) h0 (by omega) (by rw [app_nil]; exact h1) (by rw [app_nil]; exact hv), by decide, by decide, fun _ => hne⟩
    · obtain ⟨c, t, hc, hct⟩ := M.exists_ct _ (Nat.pos_of_ne_zero hv)
      refine ⟨0, neg, bA (M.dg c), _, true, fun W hW => make_yes neg A ⟨#[]⟩ z c t W hW (by omega) h0 (by omega) (by rw [app_nil]; exact h1) hc (by rw [app_nil]; exact hct), ?_, ?_, fun _ => hne⟩
      · obtain ⟨m, hm⟩ := M.ct_of_val hall hc hct
        have := congrArg List.length hm
        rw [← sz_list] at this
        simp only [List.length_append, List.length_replicate] at this
        rw [bA_size]; omega
      · obtain ⟨m, hm⟩ := M.ct_of_val hall hc hct
        have h3 := congrArg List.length hm
        rw [← sz_list] at h3
        simp only [List.length_append, List.length_replicate] at h3
        have h4 := M.txt_abs z
        rw [← tx_size] at h4
        have h5 : 10 ^ (tx z).size ≤ 10 ^ 200 := Nat.pow_le_pow_right (by omega) hX
        have h6 : (10 : Nat) ^ 201 = 10 ^ 200 * 10 := Nat.pow_succ ..
        have h7 : 1000 ≤ 10 ^ 200 := Nat.le_trans (show 1000 ≤ 10 ^ 3 by decide) (Nat.pow_le_pow_right (by omega) (by omega))
        have := tx_len (z + ((t : Int) - ((⟨#[]⟩ : ByteArray).size : Int))) 201 (by omega) (by rw [empty_size]; generalize (10 : Nat) ^ 201 = P at *; generalize (10 : Nat) ^ 200 = Q at *; omega)
        omega
/-- What read answers, of whatever text. -/
theorem read_some (s : ByteArray) (hs : s.size ≤ 200) :
    ∃ (k : Int) (n : Bool) (D E : ByteArray) (ok : Bool), (∀ W, Env W → Calls Tryd.prog 27 #[.string s] W fun e w' => e = .returned (.tuple #[dV k n D E, .bool ok]) ∧ Below W.heap.size W w') ∧ D.size ≤ 1000 ∧ E.size ≤ 1000 ∧ (ok = true → s.data.toList ≠ []) := by
  by_cases h1 : M.unsign s.data.toList = infT
  · exact ⟨1, _, _, _, true, fun W _ => read_inf s W (by omega) h1, by decide, by decide, fun _ h => by rw [h] at h1; exact absurd h1 (by decide)⟩
  by_cases h2 : M.unsign s.data.toList = nanT
  · exact ⟨2, _, _, _, true, fun W _ => read_nan s W (by omega) h2, by decide, by decide, fun _ h => by rw [h] at h2; exact absurd h2 (by decide)⟩
  obtain ⟨A, P, q, hc⟩ : ∃ A P q, Lib.cut (M.unsign s.data.toList) [46, 101] = (A, P, q) := ⟨_, _, _, rfl⟩
  have hl := cut_len (M.unsign s.data.toList) [46, 101]
  rw [hc] at hl
  have hu := unsign_len s.data.toList
  rw [← sz_list] at hu
  have hp := unplus_len P
  have hl1 : A.length ≤ (M.unsign s.data.toList).length := hl.1
  have hl2 : P.length ≤ (M.unsign s.data.toList).length := hl.2
  obtain ⟨k, n, D, E, ok, c, d1, d2, d3⟩ := make_some (M.isNeg s.data.toList) (bA A) (bA (unplus P)) (by rw [bA_size]; omega) (by rw [bA_size]; omega)
  refine ⟨k, n, D, E, ok, fun W hW => read_else s A P q k n D E ok W hW (by omega) h1 h2 hc c, d1, d2, fun ho h => ?_⟩
  have h3 := d3 ho
  rw [bA_toList] at h3
  rw [h] at hl1
  exact h3 (List.eq_nil_of_length_eq_zero (Nat.le_zero.1 hl1))
/-- A text that is no decimal's. -/
def NoDec (l : List UInt8) : Prop := ∀ k n D E, M.decB k n D E = true → M.prt k n D E ≠ l
theorem parse_no (s : ByteArray) (w : World) (he : Env w) (hs : s.size ≤ 200) (h : NoDec s.data.toList) :
    Calls Tryd.prog 11 #[.string s] w fun e w' => e = .returned (.tuple #[dZ, .bool false]) ∧ Below w.heap.size w w' := by
  obtain ⟨k, n, D, E, ok, c, d1, d2, d3⟩ := read_some s hs
  cases ok
  · exact parse_bad s k n D E w he c
  · refine parse_other s k n D E _ w he c (fun W hW => print_any k n D E W hW d1 d2) ?_
    rw [bA_beq, ByteArray.toList_eq]
    apply decide_eq_false
    intro ho
    cases hb : M.decB k n D.data.toList E.data.toList
    · rw [M.out_no hb] at ho; exact d3 rfl ho.symm
    · rw [M.out_yes hb] at ho; exact h _ _ _ _ hb ho
theorem isNeg_mns (n : Bool) (r : List UInt8) (h : r.head? ≠ some 45) : M.isNeg (M.mns n ++ r) = n ∧ M.unsign (M.mns n ++ r) = r := by
  cases n
  · have h1 : M.isNeg (M.mns false ++ r) = false := decide_eq_false h
    exact ⟨h1, by unfold M.unsign; rw [h1]; rfl⟩
  · exact ⟨M.isNeg_cons r, M.unsign_cons r⟩
theorem unplus_pls (E : List UInt8) : unplus (M.pls E ++ E) = E := by
  unfold M.pls
  split
  · rename_i h
    unfold unplus
    have : E.head? = some 45 := of_decide_eq_true h
    rw [List.nil_append, if_neg (by rw [this]; decide)]
  · unfold unplus; rfl
theorem head_digit {D : List UInt8} (h : M.okD 10 D = true) (r : List UInt8) : ∃ c, (D ++ r).head? = some c ∧ 48 ≤ c.toNat ∧ c.toNat ≤ 57 := by
  obtain ⟨h1, h2⟩ := (M.okD_iff _ _).1 h
  match D, h1 with
  | c :: l, _ =>
    have := M.dv_lt10 ((M.allD_iff _ _).1 h2 c (by simp))
    exact ⟨c, by simp, this.1, this.2.1⟩
theorem digits_no_point {D : List UInt8} (h : M.okD 10 D = true) : ∀ c ∈ D, c ≠ 46 := by
  intro c hc e
  have := M.dv_lt10 ((M.allD_iff _ _).1 ((M.okD_iff _ _).1 h).2 c hc)
  rw [e] at this; exact absurd this.1 (by decide)
theorem read_fin (n : Bool) (D E : ByteArray) (s : ByteArray) (hs : s.size ≤ 200) (hd : M.okD 10 D.data.toList = true) (he : s.data.toList = M.prt 0 n D.data.toList E.data.toList)
    (c : ∀ W, Tab W → Calls Tryd.prog 9 #[.bool n, .string D, .string ⟨#[]⟩, .string E] W fun e w' => e = .returned (.tuple #[dV 0 n D E, .bool true]) ∧ Below W.heap.size W w') (w : World) (hw : Env w) :
    Calls Tryd.prog 27 #[.string s] w fun e w' => e = .returned (.tuple #[dV 0 n D E, .bool true]) ∧ Below w.heap.size w w' := by
  have e1 : s.data.toList = M.mns n ++ (D.data.toList ++ 46 :: 101 :: (M.pls E.data.toList ++ E.data.toList)) := he
  obtain ⟨x, hx, hx1, hx2⟩ := head_digit hd (46 :: 101 :: (M.pls E.data.toList ++ E.data.toList))
  have hx3 : (D.data.toList ++ 46 :: 101 :: (M.pls E.data.toList ++ E.data.toList)).head? ≠ some 45 := by
    rw [hx]; intro h; have := Option.some.inj h; rw [this] at hx1; exact absurd hx1 (by decide)
  obtain ⟨i1, i2⟩ := isNeg_mns n _ hx3
  rw [← e1] at i1 i2
  refine read_else s D.data.toList (M.pls E.data.toList ++ E.data.toList) true 0 n D E true w hw (by omega) ?_ ?_ ?_ ?_
  · rw [i2]; intro h; rw [h] at hx; have := Option.some.inj hx; rw [← this] at hx1; exact absurd hx1 (by decide)
  · rw [i2]; intro h; rw [h] at hx; have := Option.some.inj hx; rw [← this] at hx1; exact absurd hx1 (by decide)
  · rw [i2]; exact cut_e _ _ (digits_no_point hd)
  · rw [i1, bA_of, unplus_pls, bA_of]; exact c
theorem read_yes (k : Int) (n : Bool) (D E : ByteArray) (s : ByteArray) (hs : s.size ≤ 200) (hD : D.size ≤ 1000) (hE : E.size ≤ 1000) (hb : M.decB k n D.data.toList E.data.toList = true) (he : s.data.toList = M.prt k n D.data.toList E.data.toList) (w : World) (hw : Env w) :
    Calls Tryd.prog 27 #[.string s] w fun e w' => e = .returned (.tuple #[dV k n D E, .bool true]) ∧ Below w.heap.size w w' := by
  have h0 : (⟨#[]⟩ : ByteArray).size ≤ 1000 := by decide
  rcases M.decB_cases hb with ⟨rfl, h1, h2⟩ | ⟨rfl, c, z, hc, h1, h2⟩ | ⟨rfl, h1, h2⟩ | ⟨rfl, rfl, h1, h2⟩
  · obtain rfl : D = ⟨#[48]⟩ := eq_bA h1
    obtain rfl : E = ⟨#[48]⟩ := eq_bA h2
    refine read_fin n _ _ s hs (by decide) he (fun W hW => ?_) w hw
    have := make_zero n ⟨#[48]⟩ ⟨#[]⟩ 0 W (by decide) h0 (by rw [tx0]; decide) (by decide) (by decide)
    rwa [tx0] at this
  · obtain rfl : D = bA (M.dg c) := eq_bA h1
    obtain rfl : E = tx z := eq_bA h2
    refine read_fin n _ _ s hs (by rw [bA_toList]; exact M.dg_ok c) he (fun W hW => ?_) w hw
    have := make_yes n (bA (M.dg c)) ⟨#[]⟩ z c 0 W hW hD h0 hE (by rw [app_nil, bA_toList]; exact M.dg_ok c) hc (by rw [app_nil, bA_toList, M.dg_val]; simp)
    rwa [show z + (((0 : Nat) : Int) - ((⟨#[]⟩ : ByteArray).size : Int)) = z by rw [empty_size]; omega] at this
  · obtain rfl : D = ⟨#[]⟩ := eq_bA h1
    obtain rfl : E = ⟨#[]⟩ := eq_bA h2
    have e1 : s.data.toList = M.mns n ++ infT := he
    obtain ⟨i1, i2⟩ := isNeg_mns n infT (by decide)
    rw [← e1] at i1 i2
    have := read_inf s w (by omega) i2
    rwa [i1] at this
  · obtain rfl : D = ⟨#[]⟩ := eq_bA h1
    obtain rfl : E = ⟨#[]⟩ := eq_bA h2
    have e1 : s.data.toList = M.mns false ++ nanT := he
    obtain ⟨i1, i2⟩ := isNeg_mns false nanT (by decide)
    rw [← e1] at i1 i2
    have := read_nan s w (by omega) i2
    rwa [i1] at this
theorem parse_yes (k : Int) (n : Bool) (D E : ByteArray) (s : ByteArray) (hs : s.size ≤ 200) (hD : D.size ≤ 1000) (hE : E.size ≤ 1000) (hb : M.decB k n D.data.toList E.data.toList = true) (he : s.data.toList = M.prt k n D.data.toList E.data.toList) (w : World) (hw : Env w) :
    Calls Tryd.prog 11 #[.string s] w fun e w' => e = .returned (.tuple #[dV k n D E, .bool true]) ∧ Below w.heap.size w w' := by
  refine parse_same s k n D E w hw (fun W hW => read_yes k n D E s hs hD hE hb he W hW) (fun W hW => ?_)
  have := print_any k n D E W hW hD hE
  rwa [M.out_yes hb, ← he, bA_of] at this
theorem nodec_empty : NoDec [] := fun k n D E _ => M.prt_ne k n D E
/-- Each text is a decimal's or none's. -/
theorem dec_or (l : List UInt8) : (∃ k n D E, M.decB k n D E = true ∧ M.prt k n D E = l) ∨ NoDec l := by
  by_cases h : ∃ k n D E, M.decB k n D E = true ∧ M.prt k n D E = l
  · exact Or.inl h
  · exact Or.inr fun k n D E hb he => h ⟨k, n, D, E, hb, he⟩
theorem prt_len {k : Int} {n : Bool} {D E : List UInt8} (h : M.decB k n D E = true) : D.length ≤ (M.prt k n D E).length ∧ E.length ≤ (M.prt k n D E).length ∧ (M.prt k n D E).length ≤ D.length + E.length + 5 := by
  rcases M.decB_cases h with ⟨rfl, rfl, rfl⟩ | ⟨rfl, c, z, hc, rfl, rfl⟩ | ⟨rfl, rfl, rfl⟩ | ⟨rfl, rfl, rfl, rfl⟩
  · cases n <;> decide
  · have e : M.prt 0 n (M.dg c) (M.txt z) = M.mns n ++ (M.dg c ++ (46 :: 101 :: (M.pls (M.txt z) ++ M.txt z))) := rfl
    have h1 : (M.mns n).length ≤ 1 := by cases n <;> decide
    have h2 : (M.pls (M.txt z)).length ≤ 1 := by unfold M.pls; split <;> simp
    rw [e]
    simp only [List.length_append, List.length_cons]
    omega
  · cases n <;> decide
  · decide
end Go.Proofs.YtomgbcgaokebjaaDoor
