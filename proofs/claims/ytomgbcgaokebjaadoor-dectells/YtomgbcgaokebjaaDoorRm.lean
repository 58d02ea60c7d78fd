/- What targumref4's Make and Parse answer; that both sides answer the same. -/
import Derived.Test.YtomgbcgaokebjaaDoorRl
import Derived.Test.YtomgbcgaokebjaaDoorNd
set_option linter.unusedVariables false
namespace Go.Proofs.YtomgbcgaokebjaaDoor
open Go.RowKit

theorem rmake_zero (neg : Bool) (A F : ByteArray) (z : Int) (w : World) (hA : A.size ≤ 1000) (hF : F.size ≤ 1000) (hX : (tx z).size ≤ 1000)
    (h : M.okD 10 (A.data.toList ++ F.data.toList) = true) (hv : M.val 10 (A.data.toList ++ F.data.toList) = 0) :
    Calls Tryd.prog 10 #[.bool neg, .string A, .string F, .string (tx z)] w fun e w' => e = .returned (.tuple #[dV 0 neg ⟨#[48]⟩ ⟨#[48]⟩, .bool true]) ∧ Below w.heap.size w w' := by
  have hz := M.zs_of_val ((M.okD_iff _ _).1 h).2 hv
  exact rmake_core neg A F z 0 (A.data.toList ++ F.data.toList).length [] w hA hF hX h (by rw [List.append_nil]; exact hz) (by unfold EndsWell; simp) (by simp)
theorem rmake_yes (neg : Bool) (A F : ByteArray) (z : Int) (c t : Nat) (w : World) (hA : A.size ≤ 1000) (hF : F.size ≤ 1000) (hX : (tx z).size ≤ 1000)
    (h : M.okD 10 (A.data.toList ++ F.data.toList) = true) (hc : c % 10 ≠ 0) (hv : M.val 10 (A.data.toList ++ F.data.toList) = c * 10 ^ t) :
    Calls Tryd.prog 10 #[.bool neg, .string A, .string F, .string (tx z)] w fun e w' => e = .returned (.tuple #[dV 0 neg (bA (M.dg c)) (tx (z + ((t : Int) - F.size))), .bool true]) ∧ Below w.heap.size w w' := by
  obtain ⟨m, hm⟩ := M.ct_of_val ((M.okD_iff _ _).1 h).2 hc hv
  have := rmake_core neg A F z m t (M.dg c) w hA hF hX h (by rw [hm, List.append_assoc]) (by
    unfold EndsWell
    obtain ⟨r, e⟩ := M.dg_last c
    rw [e, ← List.append_assoc, List.getLast?_append]
    intro k
    exact M.last_ne c hc (Option.some.inj k)) (M.dg_core_head c hc)
  unfold RPost at this
  rwa [if_neg (M.dg_ne c)] at this
/-- Both sides' Make answer the same. -/
theorem make_agree (neg : Bool) (A F X : ByteArray) (hA : A.size ≤ 100) (hF : F.size ≤ 100) (hX : X.size ≤ 100) :
    ∃ (k : Int) (n : Bool) (D E : ByteArray) (ok : Bool), D.size ≤ 1000 ∧ E.size ≤ 1000 ∧ (∀ W, Tab W → Calls Tryd.prog 9 #[.bool neg, .string A, .string F, .string X] W fun e w' => e = .returned (.tuple #[dV k n D E, .bool ok]) ∧ Below W.heap.size W w') ∧ (∀ W, Calls Tryd.prog 10 #[.bool neg, .string A, .string F, .string X] W fun e w' => e = .returned (.tuple #[dV k n D E, .bool ok]) ∧ Below W.heap.size W w') := by
  by_cases h : M.okD 10 (A.data.toList ++ F.data.toList) = false ∨ M.goodB X.data.toList = false
  · exact ⟨_, _, _, _, _, (by decide), (by decide), fun W _ => make_no neg A F X W (by omega) (by omega) (by omega) h, fun W => rmake_no neg A F X W (by omega) (by omega) (by omega) h⟩
  · have h1 : M.okD 10 (A.data.toList ++ F.data.toList) = true := by
      cases hh : M.okD 10 (A.data.toList ++ F.data.toList)
      · exact absurd (Or.inl hh) h
      · rfl
    have h2 : M.goodB X.data.toList = true := by
      cases hh : M.goodB X.data.toList
      · exact absurd (Or.inr hh) h
      · rfl
    obtain ⟨z, hz⟩ := M.txt_of_good h2
    obtain rfl : X = tx z := eq_bA hz
    by_cases hv : M.val 10 (A.data.toList ++ F.data.toList) = 0
    · exact ⟨_, _, _, _, _, (by decide), (by decide), fun W _ => make_zero neg A F z W (by omega) (by omega) (by omega) h1 hv, fun W => rmake_zero neg A F z W (by omega) (by omega) (by omega) h1 hv⟩
    · obtain ⟨c, t, hc, hct⟩ := M.exists_ct _ (Nat.pos_of_ne_zero hv)
      obtain ⟨m, hm⟩ := M.ct_of_val ((M.okD_iff _ _).1 h1).2 hc hct
      have h3 := congrArg List.length hm
      simp only [List.length_append, List.length_replicate, ← sz_list] at h3
      have h4 := M.txt_abs z
      rw [← tx_size] at h4
      have h5 : 10 ^ (tx z).size ≤ 10 ^ 100 := Nat.pow_le_pow_right (by omega) hX
      have h6 : (10 : Nat) ^ 101 = 10 ^ 100 * 10 := Nat.pow_succ ..
      have h7 : 1000 ≤ 10 ^ 100 := Nat.le_trans (show 1000 ≤ 10 ^ 3 by decide) (Nat.pow_le_pow_right (by omega) (by omega))
      have h8 := tx_len (z + ((t : Int) - F.size)) 101 (by omega) (by generalize (10 : Nat) ^ 101 = P at *; generalize (10 : Nat) ^ 100 = Q at *; omega)
      exact ⟨_, _, _, _, _, by rw [bA_size]; omega, by omega, fun W hW => make_yes neg A F z c t W hW (by omega) (by omega) (by omega) h1 hc hct, fun W => rmake_yes neg A F z c t W (by omega) (by omega) (by omega) h1 hc hct⟩

set_option maxRecDepth 100000 in
theorem rp_nan (w : World) : Calls Tryd.prog 12 #[.string ⟨#[46, 110, 97, 110]⟩] w fun e w' => e = .returned (.tuple #[dV 2 false ⟨#[]⟩ ⟨#[]⟩, .bool true]) ∧ Below w.heap.size w w' := by
  go_enter Tryd.func12, Tryd.ntmps12
  go_wp2
  exact bodyPost_ret (ret_dec Tryd.results12 _ rfl rfl ((Blk.made w 2 false ⟨#[]⟩ ⟨#[]⟩).alloc' _)) rfl ⟨rfl, ((Below.refl _ _).alloc (Nat.le_refl _) _).alloc (by simp) _⟩
set_option maxRecDepth 100000 in
theorem rp_inf (w : World) : Calls Tryd.prog 12 #[.string ⟨#[46, 105, 110, 102]⟩] w fun e w' => e = .returned (.tuple #[dV 1 false ⟨#[]⟩ ⟨#[]⟩, .bool true]) ∧ Below w.heap.size w w' := by
  go_enter Tryd.func12, Tryd.ntmps12
  go_wp2
  exact bodyPost_ret (ret_dec Tryd.results12 _ rfl rfl ((Blk.made w 1 false ⟨#[]⟩ ⟨#[]⟩).alloc' _)) rfl ⟨rfl, ((Below.refl _ _).alloc (Nat.le_refl _) _).alloc (by simp) _⟩
set_option maxRecDepth 100000 in
theorem rp_minf (w : World) : Calls Tryd.prog 12 #[.string ⟨#[45, 46, 105, 110, 102]⟩] w fun e w' => e = .returned (.tuple #[dV 1 true ⟨#[]⟩ ⟨#[]⟩, .bool true]) ∧ Below w.heap.size w w' := by
  go_enter Tryd.func12, Tryd.ntmps12
  go_wp2
  exact bodyPost_ret (ret_dec Tryd.results12 _ rfl rfl ((Blk.made w 1 true ⟨#[]⟩ ⟨#[]⟩).alloc' _)) rfl ⟨rfl, ((Below.refl _ _).alloc (Nat.le_refl _) _).alloc (by simp) _⟩
set_option maxRecDepth 100000 in
set_option maxHeartbeats 1000000 in
theorem rp_empty (w : World) : Calls Tryd.prog 12 #[.string ⟨#[]⟩] w fun e w' => e = .returned (.tuple #[dZ, .bool false]) ∧ Below w.heap.size w w' := by
  go_enter Tryd.func12, Tryd.ntmps12
  go_wp2_with fail
  go_loop [6] (fun kv => kv = .int .i64 0) (fun kv => 0)
  case atStart => rfl
  case round =>
    subst hrel
    go_wp2
    exact bodyPost_ret (ret_dec Tryd.results12 _ rfl rfl (two_r w 0 false ⟨#[]⟩ ⟨#[]⟩)) rfl ⟨rfl, two_b w 0 false ⟨#[]⟩ ⟨#[]⟩⟩
/-- A text and what stands behind its sign. -/
def Sg (s t : ByteArray) (h0 : 0 < s.size) : (n : Bool) → Prop
  | false => ((s[0].toNat : Int) == 45) = false ∧ s = t
  | true => s[0].toNat = 45 ∧ s.extract 1 s.size = t ∧ t.size ≤ 200
theorem Sg.list {s t : ByteArray} {h0 : 0 < s.size} {n : Bool} (h : Sg s t h0 n) : s.data.toList = M.mns n ++ t.data.toList := by
  cases n
  · obtain ⟨_, rfl⟩ := h; rfl
  · obtain ⟨h1, rfl, _⟩ := h
    have := drop_cons s 0 h0
    rw [List.drop_zero] at this
    rw [Lib.extract_to_end, this, UInt8.toNat_inj.1 (show s[0].toNat = (45 : UInt8).toNat from h1)]
    simp [M.mns]
theorem Sg.size {s t : ByteArray} {h0 : 0 < s.size} {n : Bool} (h : Sg s t h0 n) (hs : s.size ≤ 200) : t.size ≤ 200 := by
  cases n
  · obtain ⟨_, rfl⟩ := h; exact hs
  · exact h.2.2
theorem sg_or (s : ByteArray) (h0 : 0 < s.size) (hs : s.size ≤ 200) : ∃ n t, Sg s t h0 n := by
  by_cases h : s[0].toNat = 45
  · exact ⟨true, s.extract 1 s.size, h, rfl, by simp; omega⟩
  · exact ⟨false, s, by simp; omega, rfl⟩
theorem sg_of (s : ByteArray) (n : Bool) (r : List UInt8) (hs : s.size ≤ 200) (h : s.data.toList = M.mns n ++ r) (hr : r.head? ≠ some 45) (hne : r ≠ []) : ∃ (h0 : 0 < s.size), Sg s (bA r) h0 n := by
  have h0 : 0 < s.size := by
    rw [sz_list, h, List.length_append]
    have := List.length_pos_iff.2 hne
    omega
  refine ⟨h0, ?_⟩
  have hl := drop_cons s 0 h0
  rw [List.drop_zero] at hl
  cases n
  · have e : s = bA r := eq_bA h
    refine ⟨?_, e⟩
    have h2 : s.data.toList = r := h
    have : ¬ s[0].toNat = 45 := by
      intro k
      apply hr
      rw [← h2, hl, UInt8.toNat_inj.1 (show s[0].toNat = (45 : UInt8).toNat from k)]; rfl
    simp; omega
  · have h2 : s.data.toList = 45 :: r := h
    have h3 : s[0] = 45 := by rw [hl] at h2; exact List.head_eq_of_cons_eq h2
    have h4 : s.data.toList.drop 1 = r := by rw [h2]; rfl
    refine ⟨by rw [h3]; rfl, eq_bA (by rw [Lib.extract_to_end]; exact h4), ?_⟩
    rw [bA_size]
    have := congrArg List.length h2
    rw [← sz_list] at this
    simp at this; omega
theorem pt_or (t : ByteArray) : ∃ p, Pt t p := by
  have key : ∀ m q, m + q = t.size → (∀ j (h : j < t.size), j < q → t[j].toNat ≠ 46) → ∃ p, Pt t p := by
    intro m
    induction m with
    | zero => exact fun q hq hj => ⟨q, by omega, hj, fun h => by omega⟩
    | succ m ih =>
      intro q hq hj
      by_cases hc : (t[q]'(by omega)).toNat = 46
      · exact ⟨q, by omega, hj, fun _ => hc⟩
      · refine ih (q + 1) (by omega) fun j h hlt => ?_
        by_cases he : j = q
        · subst he; exact hc
        · exact hj j h (by omega)
  exact key t.size 0 (by omega) (fun j h hlt => by omega)
theorem rp1 (n : Bool) (s t : ByteArray) (p : Nat) (w : World) (hs : s.size ≤ 200) (ho : Odd3 s) (h0 : 0 < s.size) (hg : Sg s t h0 n) (hp : Pt t p) (h4 : t.size < p + 4) :
    Calls Tryd.prog 12 #[.string s] w fun e w' => e = .returned (.tuple #[dZ, .bool false]) ∧ Below w.heap.size w w' := by
  cases n
  · obtain ⟨hn, rfl⟩ := hg
    exact rp_f1 s p w hs ho h0 hn hp h4
  · obtain ⟨hn, hT, ht⟩ := hg
    exact rp_t1 s t p w hs ho h0 hn hT ht hp h4
theorem rp2 (n : Bool) (s t : ByteArray) (p : Nat) (w : World) (hs : s.size ≤ 200) (ho : Odd3 s) (h0 : 0 < s.size) (hg : Sg s t h0 n) (hp : Pt t p) (h4 : p + 4 ≤ t.size) (hb : (((t[p + 1]'(by omega)).toNat : Int) != 101) = true) :
    Calls Tryd.prog 12 #[.string s] w fun e w' => e = .returned (.tuple #[dZ, .bool false]) ∧ Below w.heap.size w w' := by
  cases n
  · obtain ⟨hn, rfl⟩ := hg
    exact rp_f2 s p w hs ho h0 hn hp h4 hb
  · obtain ⟨hn, hT, ht⟩ := hg
    exact rp_t2 s t p w hs ho h0 hn hT ht hp h4 hb
theorem rp3 (n : Bool) (s t : ByteArray) (p : Nat) (w : World) (hs : s.size ≤ 200) (ho : Odd3 s) (h0 : 0 < s.size) (hg : Sg s t h0 n) (hp : Pt t p) (h4 : p + 4 ≤ t.size) (hb : (t[p + 1]'(by omega)).toNat = 101) (hx : (((t[p + 2]'(by omega)).toNat : Int) != 43) = true) (hx2 : (((t[p + 2]'(by omega)).toNat : Int) != 45) = true) :
    Calls Tryd.prog 12 #[.string s] w fun e w' => e = .returned (.tuple #[dZ, .bool false]) ∧ Below w.heap.size w w' := by
  cases n
  · obtain ⟨hn, rfl⟩ := hg
    exact rp_f3 s p w hs ho h0 hn hp h4 hb hx hx2
  · obtain ⟨hn, hT, ht⟩ := hg
    exact rp_t3 s t p w hs ho h0 hn hT ht hp h4 hb hx hx2
theorem rp4 (n : Bool) (s t : ByteArray) (p : Nat) (w : World) (hs : s.size ≤ 200) (ho : Odd3 s) (h0 : 0 < s.size) (hg : Sg s t h0 n) (hp : Pt t p) (h4 : p + 4 ≤ t.size) (hb : (t[p + 1]'(by omega)).toNat = 101) (hx : (t[p + 2]'(by omega)).toNat = 43) (D E : ByteArray) (hD : t.extract 0 p = D) (hE : t.extract (p + 3) t.size = E) (hDz : D.size ≤ 200) (hEz : E.size ≤ 200) (hE0 : 0 < E.size) (hd : M.decB 0 n D.data.toList E.data.toList = false) :
    Calls Tryd.prog 12 #[.string s] w fun e w' => e = .returned (.tuple #[dZ, .bool false]) ∧ Below w.heap.size w w' := by
  cases n
  · obtain ⟨hn, rfl⟩ := hg
    exact rp_f4 s p w hs ho h0 hn hp h4 hb hx D E hD hE hDz hEz hE0 hd
  · obtain ⟨hn, hT, ht⟩ := hg
    exact rp_t4 s t p w hs ho h0 hn hT ht hp h4 hb hx D E hD hE hDz hEz hE0 hd
theorem rp5 (n : Bool) (s t : ByteArray) (p : Nat) (w : World) (hs : s.size ≤ 200) (ho : Odd3 s) (h0 : 0 < s.size) (hg : Sg s t h0 n) (hp : Pt t p) (h4 : p + 4 ≤ t.size) (hb : (t[p + 1]'(by omega)).toNat = 101) (hx : (t[p + 2]'(by omega)).toNat = 43) (D E : ByteArray) (hD : t.extract 0 p = D) (hE : t.extract (p + 3) t.size = E) (hDz : D.size ≤ 200) (hEz : E.size ≤ 200) (hE0 : 0 < E.size) (hd : M.decB 0 n D.data.toList E.data.toList = true) (hy : E[0].toNat = 45) :
    Calls Tryd.prog 12 #[.string s] w fun e w' => e = .returned (.tuple #[dZ, .bool false]) ∧ Below w.heap.size w w' := by
  cases n
  · obtain ⟨hn, rfl⟩ := hg
    exact rp_f5 s p w hs ho h0 hn hp h4 hb hx D E hD hE hDz hEz hE0 hd hy
  · obtain ⟨hn, hT, ht⟩ := hg
    exact rp_t5 s t p w hs ho h0 hn hT ht hp h4 hb hx D E hD hE hDz hEz hE0 hd hy
theorem rp6 (n : Bool) (s t : ByteArray) (p : Nat) (w : World) (hs : s.size ≤ 200) (ho : Odd3 s) (h0 : 0 < s.size) (hg : Sg s t h0 n) (hp : Pt t p) (h4 : p + 4 ≤ t.size) (hb : (t[p + 1]'(by omega)).toNat = 101) (hx : (t[p + 2]'(by omega)).toNat = 43) (D E : ByteArray) (hD : t.extract 0 p = D) (hE : t.extract (p + 3) t.size = E) (hDz : D.size ≤ 200) (hEz : E.size ≤ 200) (hE0 : 0 < E.size) (hd : M.decB 0 n D.data.toList E.data.toList = true) (hy : ((E[0].toNat : Int) == 45) = false) :
    Calls Tryd.prog 12 #[.string s] w fun e w' => e = .returned (.tuple #[dV 0 n D E, .bool true]) ∧ Below w.heap.size w w' := by
  cases n
  · obtain ⟨hn, rfl⟩ := hg
    exact rp_f6 s p w hs ho h0 hn hp h4 hb hx D E hD hE hDz hEz hE0 hd hy
  · obtain ⟨hn, hT, ht⟩ := hg
    exact rp_t6 s t p w hs ho h0 hn hT ht hp h4 hb hx D E hD hE hDz hEz hE0 hd hy
theorem rp7 (n : Bool) (s t : ByteArray) (p : Nat) (w : World) (hs : s.size ≤ 200) (ho : Odd3 s) (h0 : 0 < s.size) (hg : Sg s t h0 n) (hp : Pt t p) (h4 : p + 4 ≤ t.size) (hb : (t[p + 1]'(by omega)).toNat = 101) (hx : (t[p + 2]'(by omega)).toNat = 45) (D E : ByteArray) (hD : t.extract 0 p = D) (hE : t.extract (p + 2) t.size = E) (hDz : D.size ≤ 200) (hEz : E.size ≤ 200) (hE0 : 0 < E.size) (hd : M.decB 0 n D.data.toList E.data.toList = false) :
    Calls Tryd.prog 12 #[.string s] w fun e w' => e = .returned (.tuple #[dZ, .bool false]) ∧ Below w.heap.size w w' := by
  cases n
  · obtain ⟨hn, rfl⟩ := hg
    exact rp_f7 s p w hs ho h0 hn hp h4 hb hx D E hD hE hDz hEz hE0 hd
  · obtain ⟨hn, hT, ht⟩ := hg
    exact rp_t7 s t p w hs ho h0 hn hT ht hp h4 hb hx D E hD hE hDz hEz hE0 hd
theorem rp8 (n : Bool) (s t : ByteArray) (p : Nat) (w : World) (hs : s.size ≤ 200) (ho : Odd3 s) (h0 : 0 < s.size) (hg : Sg s t h0 n) (hp : Pt t p) (h4 : p + 4 ≤ t.size) (hb : (t[p + 1]'(by omega)).toNat = 101) (hx : (t[p + 2]'(by omega)).toNat = 45) (D E : ByteArray) (hD : t.extract 0 p = D) (hE : t.extract (p + 2) t.size = E) (hDz : D.size ≤ 200) (hEz : E.size ≤ 200) (hE0 : 0 < E.size) (hd : M.decB 0 n D.data.toList E.data.toList = true) :
    Calls Tryd.prog 12 #[.string s] w fun e w' => e = .returned (.tuple #[dV 0 n D E, .bool true]) ∧ Below w.heap.size w w' := by
  cases n
  · obtain ⟨hn, rfl⟩ := hg
    exact rp_f8 s p w hs ho h0 hn hp h4 hb hx D E hD hE hDz hEz hE0 hd
  · obtain ⟨hn, hT, ht⟩ := hg
    exact rp_t8 s t p w hs ho h0 hn hT ht hp h4 hb hx D E hD hE hDz hEz hE0 hd
theorem odd_of {s : ByteArray} (h : s.data.toList ≠ nanT) (h2 : s.data.toList ≠ infT) (h3 : s.data.toList ≠ 45 :: infT) : Odd3 s := by
  refine ⟨?_, ?_, ?_⟩ <;> rw [ByteArray.toList_eq]
  · exact beq_eq_false_iff_ne.2 h
  · exact beq_eq_false_iff_ne.2 h2
  · exact beq_eq_false_iff_ne.2 h3
theorem take_cut (t : ByteArray) (p : Nat) (h : p < t.size) : t.data.toList = t.data.toList.take p ++ t[p] :: t.data.toList.drop (p + 1) := by
  rw [← drop_cons t p h, List.take_append_drop]
theorem u8_eq {c : UInt8} {m : UInt8} (h : c.toNat = m.toNat) : c = m := UInt8.toNat_inj.1 h
theorem rparse_no (s : ByteArray) (w : World) (hs : s.size ≤ 200) (h : NoDec s.data.toList) :
    Calls Tryd.prog 12 #[.string s] w fun e w' => e = .returned (.tuple #[dZ, .bool false]) ∧ Below w.heap.size w w' := by
  have ho : Odd3 s := odd_of (fun e => h 2 false [] [] M.decB_nan e.symm) (fun e => h 1 false [] [] (M.decB_inf false) e.symm) (fun e => h 1 true [] [] (M.decB_inf true) e.symm)
  by_cases h0 : 0 < s.size
  · obtain ⟨n, t, hg⟩ := sg_or s h0 hs
    obtain ⟨p, hp⟩ := pt_or t
    have hts := hg.size hs
    have hsl := hg.list
    by_cases h4 : t.size < p + 4
    · exact rp1 n s t p w hs ho h0 hg hp h4
    have h4' : p + 4 ≤ t.size := by omega
    have hp3 := hp.2.2 (by omega)
    have t0 := take_cut t p (by omega)
    rw [u8_eq (show (t[p]'(by omega)).toNat = (46 : UInt8).toNat from hp3), drop_cons t (p + 1) (by omega), drop_cons t (p + 2) (by omega)] at t0
    by_cases hb : (t[p + 1]'(by omega)).toNat = 101
    · rw [u8_eq (show (t[p + 1]'(by omega)).toNat = (101 : UInt8).toNat from hb)] at t0
      have hDz : (t.extract 0 p).size ≤ 200 := by simp; omega
      by_cases hx : (t[p + 2]'(by omega)).toNat = 43
      · rw [u8_eq (show (t[p + 2]'(by omega)).toNat = (43 : UInt8).toNat from hx)] at t0
        have hEs : (t.extract (p + 3) t.size).size = t.size - (p + 3) := by simp
        have hE0 : 0 < (t.extract (p + 3) t.size).size := by omega
        cases hd : M.decB 0 n (t.extract 0 p).data.toList (t.extract (p + 3) t.size).data.toList
        · exact rp4 n s t p w hs ho h0 hg hp h4' hb hx _ _ rfl rfl hDz (by omega) hE0 hd
        · by_cases hy : ((t.extract (p + 3) t.size)[0]'hE0).toNat = 45
          · exact rp5 n s t p w hs ho h0 hg hp h4' hb hx _ _ rfl rfl hDz (by omega) hE0 hd hy
          · exfalso
            refine h 0 n _ _ hd ?_
            have hl := drop_cons (t.extract (p + 3) t.size) 0 hE0
            rw [List.drop_zero] at hl
            have hng : M.isNeg (t.extract (p + 3) t.size).data.toList = false := by
              unfold M.isNeg
              apply decide_eq_false
              rw [hl]
              intro k
              rw [Option.some.inj k] at hy
              exact hy rfl
            have hpl : M.pls (t.extract (p + 3) t.size).data.toList = [43] := by unfold M.pls; rw [hng]; rfl
            rw [hsl, t0]
            unfold M.prt
            rw [if_neg (by decide), if_neg (by decide), hpl, extract_take, Lib.extract_to_end]
            rfl
      · by_cases hx2 : (t[p + 2]'(by omega)).toNat = 45
        · have hEs : (t.extract (p + 2) t.size).size = t.size - (p + 2) := by simp
          have hE0 : 0 < (t.extract (p + 2) t.size).size := by omega
          cases hd : M.decB 0 n (t.extract 0 p).data.toList (t.extract (p + 2) t.size).data.toList
          · exact rp7 n s t p w hs ho h0 hg hp h4' hb hx2 _ _ rfl rfl hDz (by omega) hE0 hd
          · exfalso
            refine h 0 n _ _ hd ?_
            rw [u8_eq (show (t[p + 2]'(by omega)).toNat = (45 : UInt8).toNat from hx2)] at t0
            have hel : (t.extract (p + 2) t.size).data.toList = 45 :: t.data.toList.drop (p + 2 + 1) := by
              rw [Lib.extract_to_end, drop_cons t (p + 2) (by omega), u8_eq (show (t[p + 2]'(by omega)).toNat = (45 : UInt8).toNat from hx2)]
            have hpl : M.pls (t.extract (p + 2) t.size).data.toList = [] := by unfold M.pls; rw [hel, M.isNeg_cons]; rfl
            rw [hsl, t0]
            unfold M.prt
            rw [if_neg (by decide), if_neg (by decide), hpl, extract_take, hel]
            rfl
        · exact rp3 n s t p w hs ho h0 hg hp h4' hb (by simp; omega) (by simp; omega)
    · exact rp2 n s t p w hs ho h0 hg hp h4' (by simp; omega)
  · obtain rfl : s = ⟨#[]⟩ := eq_bA (List.eq_nil_of_length_eq_zero (by rw [← sz_list]; omega))
    exact rp_empty w
theorem get_at (t : ByteArray) (l : List UInt8) (h : t.data.toList = l) (i : Nat) (hi : i < t.size) (c : UInt8) (hc : l[i]? = some c) : t[i].toNat = c.toNat := by
  have := get_list t i hi
  rw [h, hc] at this
  rw [Option.some.inj this]
theorem rparse_fin (n : Bool) (D E : ByteArray) (s : ByteArray) (w : World) (hs : s.size ≤ 200) (hD : D.size ≤ 200) (hE : E.size ≤ 200) (hE0 : 0 < E.size) (hE1 : M.isNeg E.data.toList = true → 2 ≤ E.size) (hok : M.okD 10 D.data.toList = true) (hd : M.decB 0 n D.data.toList E.data.toList = true)
    (he : s.data.toList = M.prt 0 n D.data.toList E.data.toList) :
    Calls Tryd.prog 12 #[.string s] w fun e w' => e = .returned (.tuple #[dV 0 n D E, .bool true]) ∧ Below w.heap.size w w' := by
  have e1 : s.data.toList = M.mns n ++ (D.data.toList ++ 46 :: 101 :: (M.pls E.data.toList ++ E.data.toList)) := he
  obtain ⟨x, hx, hx1, hx2⟩ := head_digit hok (46 :: 101 :: (M.pls E.data.toList ++ E.data.toList))
  have hx3 : (D.data.toList ++ 46 :: 101 :: (M.pls E.data.toList ++ E.data.toList)).head? ≠ some 45 := by
    rw [hx]; intro h; have := Option.some.inj h; rw [this] at hx1; exact absurd hx1 (by decide)
  obtain ⟨h0, hg⟩ := sg_of s n _ hs e1 hx3 (by simp)
  have ho : Odd3 s := by
    obtain ⟨i1, i2⟩ := isNeg_mns n _ hx3
    rw [← e1] at i1 i2
    have hi : M.unsign s.data.toList ≠ infT := by rw [i2]; intro h; rw [h] at hx; have := Option.some.inj hx; rw [← this] at hx1; exact absurd hx1 (by decide)
    have hn : M.unsign s.data.toList ≠ nanT := by rw [i2]; intro h; rw [h] at hx; have := Option.some.inj hx; rw [← this] at hx1; exact absurd hx1 (by decide)
    refine odd_of ?_ ?_ ?_
    · intro h; apply hn; rw [h]; rfl
    · intro h; apply hi; rw [h]; rfl
    · intro h; apply hi; rw [h]; rfl
  obtain ⟨t, ht⟩ : ∃ t, bA (D.data.toList ++ 46 :: 101 :: (M.pls E.data.toList ++ E.data.toList)) = t := ⟨_, rfl⟩
  have htl : t.data.toList = D.data.toList ++ 46 :: 101 :: (M.pls E.data.toList ++ E.data.toList) := by rw [← ht, bA_toList]
  rw [ht] at hg
  have hts : t.size = D.size + (2 + ((M.pls E.data.toList).length + E.size)) := by
    rw [sz_list, htl]; simp only [List.length_append, List.length_cons, ← sz_list]; omega
  have hp : Pt t D.size := by
    refine ⟨by omega, fun j h hlt => ?_, fun h => ?_⟩
    · have hj : (D.data.toList ++ 46 :: 101 :: (M.pls E.data.toList ++ E.data.toList))[j]? = some D[j] := by
        rw [List.getElem?_append_left (by rw [← sz_list]; exact hlt)]; exact get_list D j hlt
      rw [get_at t _ htl j h _ hj]
      have := digits_no_point hok D[j] (List.mem_of_getElem? (get_list D j hlt))
      intro k
      exact this (UInt8.toNat_inj.1 k)
    · exact get_at t _ htl _ h 46 (by rw [List.getElem?_append_right (by rw [← sz_list]; omega), ← sz_list]; simp)
  have hDe : t.extract 0 D.size = D := by
    rw [← bA_of (t.extract 0 D.size), extract_take, htl, List.take_append_of_le_length (by rw [← sz_list]; omega), take_all, bA_of]
  have hdrop2 : t.data.toList.drop (D.size + 2) = M.pls E.data.toList ++ E.data.toList := by
    rw [htl, List.drop_append, List.drop_of_length_le (by rw [← sz_list]; omega), List.nil_append, ← sz_list, show D.size + 2 - D.size = 2 by omega]; rfl
  have hl0 := drop_cons E 0 hE0
  rw [List.drop_zero] at hl0
  have hat2 : (D.data.toList ++ 46 :: 101 :: (M.pls E.data.toList ++ E.data.toList))[D.size + 2]? = (M.pls E.data.toList ++ E.data.toList)[0]? := by
    rw [List.getElem?_append_right (by rw [← sz_list]; omega), ← sz_list, show D.size + 2 - D.size = 2 by omega]; rfl
  have hat1 : (D.data.toList ++ 46 :: 101 :: (M.pls E.data.toList ++ E.data.toList))[D.size + 1]? = some 101 := by
    rw [List.getElem?_append_right (by rw [← sz_list]; omega), ← sz_list, show D.size + 1 - D.size = 1 by omega]; rfl
  by_cases hn : M.isNeg E.data.toList = true
  · have hpl : M.pls E.data.toList = [] := by unfold M.pls; rw [if_pos hn]
    have hE2 := hE1 hn
    rw [hpl] at hts hdrop2
    rw [List.nil_append] at hdrop2
    rw [show (M.pls E.data.toList ++ E.data.toList)[0]? = some E[0] by rw [hpl, List.nil_append]; exact get_list E 0 hE0] at hat2
    simp only [List.length_nil] at hts
    refine rp8 n s t D.size w hs ho h0 hg hp (by omega) (get_at t _ htl _ (by omega) 101 hat1) ?_ D E hDe ?_ hD hE hE0 hd
    · rw [get_at t _ htl _ (by omega) _ hat2]; exact head_is E hE0 hn
    · rw [← bA_of (t.extract (D.size + 2) t.size), Lib.extract_to_end, hdrop2, bA_of]
  · have hpl : M.pls E.data.toList = [43] := by unfold M.pls; rw [if_neg hn]
    rw [hpl] at hts hdrop2
    rw [show (M.pls E.data.toList ++ E.data.toList)[0]? = some 43 by rw [hpl]; rfl] at hat2
    simp only [List.length_cons, List.length_nil] at hts
    have hdrop3 : t.data.toList.drop (D.size + 3) = E.data.toList := by
      rw [show D.size + 3 = D.size + 2 + 1 by omega, ← List.drop_drop, hdrop2]; rfl
    refine rp6 n s t D.size w hs ho h0 hg hp (by omega) (get_at t _ htl _ (by omega) 101 hat1) (get_at t _ htl _ (by omega) 43 hat2) D E hDe ?_ hD hE hE0 hd (head_not E hE0 (by simpa using hn))
    rw [← bA_of (t.extract (D.size + 3) t.size), Lib.extract_to_end, hdrop3, bA_of]
theorem txt_neg_len (z : Int) (h : M.isNeg (M.txt z) = true) : 2 ≤ (M.txt z).length := by
  rw [M.txt_isNeg] at h
  unfold M.txt
  rw [if_pos (of_decide_eq_true h)]
  have := M.dg_len_pos z.natAbs
  simp; omega
theorem rparse_yes (k : Int) (n : Bool) (D E : ByteArray) (s : ByteArray) (w : World) (hs : s.size ≤ 200) (hD : D.size ≤ 200) (hE : E.size ≤ 200) (hb : M.decB k n D.data.toList E.data.toList = true) (he : s = bA (M.prt k n D.data.toList E.data.toList)) :
    Calls Tryd.prog 12 #[.string s] w fun e w' => e = .returned (.tuple #[dV k n D E, .bool true]) ∧ Below w.heap.size w w' := by
  have he' : s.data.toList = M.prt k n D.data.toList E.data.toList := by rw [he, bA_toList]
  rcases M.decB_cases hb with ⟨rfl, h1, h2⟩ | ⟨rfl, c, z, hc, h1, h2⟩ | ⟨rfl, h1, h2⟩ | ⟨rfl, rfl, h1, h2⟩
  · exact rparse_fin n D E s w hs hD hE (by rw [sz_list, h2]; decide) (by rw [h2]; intro h; exact absurd h (by decide)) (by rw [h1]; decide) hb he'
  · exact rparse_fin n D E s w hs hD hE (by rw [sz_list, h2]; exact List.length_pos_iff.2 (M.txt_ne z)) (by rw [h2, sz_list, h2]; exact txt_neg_len z) (by rw [h1]; exact M.dg_ok c) hb he'
  · obtain rfl : D = ⟨#[]⟩ := eq_bA h1
    obtain rfl : E = ⟨#[]⟩ := eq_bA h2
    cases n
    · obtain rfl : s = ⟨#[46, 105, 110, 102]⟩ := he
      exact rp_inf w
    · obtain rfl : s = ⟨#[45, 46, 105, 110, 102]⟩ := he
      exact rp_minf w
  · obtain rfl : D = ⟨#[]⟩ := eq_bA h1
    obtain rfl : E = ⟨#[]⟩ := eq_bA h2
    obtain rfl : s = ⟨#[46, 110, 97, 110]⟩ := he
    exact rp_nan w
/-- Both sides' Parse answer the same. -/
theorem parse_agree (s : ByteArray) (hs : s.size ≤ 200) :
    ∃ (k : Int) (n : Bool) (D E : ByteArray) (ok : Bool), (∀ W, Env W → Calls Tryd.prog 11 #[.string s] W fun e w' => e = .returned (.tuple #[dV k n D E, .bool ok]) ∧ Below W.heap.size W w') ∧ (∀ W, Calls Tryd.prog 12 #[.string s] W fun e w' => e = .returned (.tuple #[dV k n D E, .bool ok]) ∧ Below W.heap.size W w') := by
  rcases parse_or s hs with ⟨k, n, D, E, h1, h2, h3, h4, c⟩ | ⟨h, c⟩
  · exact ⟨k, n, D, E, true, c, fun W => rparse_yes k n D E s W hs h1 h2 h3 h4⟩
  · exact ⟨0, false, ⟨#[]⟩, ⟨#[]⟩, false, c, fun W => rparse_no s W hs h⟩
end Go.Proofs.YtomgbcgaokebjaaDoor
