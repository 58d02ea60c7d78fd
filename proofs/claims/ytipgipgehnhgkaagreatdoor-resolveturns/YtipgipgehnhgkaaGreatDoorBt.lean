/- Walks: float11's split, Form, Is. Walks: num12's formOf, Int, power. Walks: num12's Float. -/
import Derived.Test.YtipgipgehnhgkaaGreatDoorBh
import Derived.Test.YtipgipgehnhgkaaGreatDoorBs
import Derived.Test.YtipgipgehnhgkaaGreatDoorBb
import Derived.Deep.RegionHeld3
set_option linter.unusedVariables false
namespace Go.Proofs.YtipgipgehnhgkaaGreatDoor
open Go.RowKit

set_option maxRecDepth 100000 in
theorem nsplit_any (s : ByteArray) (w : World) (hs : s.size ≤ 1000000) :
    Calls Tryz.prog 62 #[.string s] w fun e w' => e = .returned (.tuple #[.bool (M.isNeg s.data.toList), .string (bA (M.body s.data.toList))]) ∧ w = w' := by
  have c1 := fun W => cut_any s W hs
  have c2 := fun W => trimP_any s W hs
  by_cases h : M.isNeg s.data.toList = true
  · have hb : M.body s.data.toList = M.unsign s.data.toList := by unfold M.body; rw [if_pos h]
    rw [hb]
    rw [h] at c1 ⊢
    clear h hb
    generalize bA (M.unsign s.data.toList) = U at *
    go_enter Tryz.func62, Tryz.ntmps62
    go_wp2_with fail
    refine (c1 _).mono ?_
    rintro r w' ⟨rfl, rfl⟩
    go_wp2
    go_ret2
    exact ⟨rfl, rfl⟩
  · have hb : M.body s.data.toList = M.unplus s.data.toList := by unfold M.body; rw [if_neg h]
    rw [hb]
    rw [show M.isNeg s.data.toList = false by simpa using h] at c1 ⊢
    clear h hb
    generalize bA (M.unsign s.data.toList) = U at *
    generalize bA (M.unplus s.data.toList) = V at *
    go_enter Tryz.func62, Tryz.ntmps62
    go_wp2_with fail
    refine (c1 _).mono ?_
    rintro r w' ⟨rfl, rfl⟩
    go_wp2_with fail
    refine (c2 _).mono ?_
    rintro r w' ⟨rfl, rfl⟩
    go_wp2
    go_ret2
    exact ⟨rfl, rfl⟩
end Go.Proofs.YtipgipgehnhgkaaGreatDoor

namespace Go.Proofs.YtipgipgehnhgkaaGreatDoor
open Go.RowKit

theorem take2_of (s : ByteArray) (h : 2 ≤ s.size) : (s.extract 0 2).toList = s.data.toList.take 2 := by
  rw [ByteArray.toList_eq]; simp only [ByteArray.data_extract, Array.toList_extract, List.extract_eq_take_drop, List.drop_zero]
set_option maxRecDepth 100000 in
theorem hasP_in (s : ByteArray) (c : UInt8) (hc : c = 111 ∨ c = 120) (w : World) (hs : s.size ≤ 1000000) :
    Calls Tryz.prog 157 #[.string s, .string ⟨#[48, c]⟩] w fun e w' => e = .returned (.bool (decide (s.data.toList.take 2 = [48, c]))) ∧ w = w' := by
  by_cases h0 : 2 ≤ s.size
  · have hd : decide (2 ≤ s.size) = true := by simpa using h0
    have e1 := take2_of s h0
    by_cases h1 : s.data.toList.take 2 = [48, c]
    · rw [decide_eq_true h1]
      rcases hc with rfl | rfl
      · have e3 : ((s.extract 0 2).toList == [48, 111]) = true := by rw [e1, h1]; rfl
        clear e1 h1
        go_enter Tryz.func157, Tryz.ntmps157
        go_wp2
        go_ret
        exact ⟨rfl, rfl⟩
      · have e3 : ((s.extract 0 2).toList == [48, 120]) = true := by rw [e1, h1]; rfl
        clear e1 h1
        go_enter Tryz.func157, Tryz.ntmps157
        go_wp2
        go_ret
        exact ⟨rfl, rfl⟩
    · rw [decide_eq_false h1]
      rcases hc with rfl | rfl
      · have e3 : ((s.extract 0 2).toList == [48, 111]) = false := by rw [e1]; exact beq_eq_false_iff_ne.2 h1
        clear e1 h1
        go_enter Tryz.func157, Tryz.ntmps157
        go_wp2
        go_ret
        exact ⟨rfl, rfl⟩
      · have e3 : ((s.extract 0 2).toList == [48, 120]) = false := by rw [e1]; exact beq_eq_false_iff_ne.2 h1
        clear e1 h1
        go_enter Tryz.func157, Tryz.ntmps157
        go_wp2
        go_ret
        exact ⟨rfl, rfl⟩
  · have hd : decide (2 ≤ s.size) = false := by simpa using h0
    have h1 : ¬ s.data.toList.take 2 = [48, c] := by
      intro h
      have := congrArg List.length h
      rw [List.length_take, ← sz_list] at this
      simp at this
      omega
    rw [decide_eq_false h1]
    clear h1
    rcases hc with rfl | rfl
    all_goals
      go_enter Tryz.func157, Tryz.ntmps157
      go_wp2
      go_ret
      exact ⟨rfl, rfl⟩
set_option maxRecDepth 100000 in
theorem hasP_any (s : ByteArray) (c : UInt8) (hc : c = 111 ∨ c = 120) (w : World) (hs : s.size ≤ 1000000) :
    Calls Tryz.prog 108 #[.string s, .string ⟨#[48, c]⟩] w fun e w' => e = .returned (.bool (decide (s.data.toList.take 2 = [48, c]))) ∧ w = w' := by
  have c1 := hasP_in s c hc w hs
  generalize decide (s.data.toList.take 2 = [48, c]) = V at *
  rcases hc with rfl | rfl
  all_goals
    go_enter Tryz.func108, Tryz.ntmps108
    go_wp2_with fail
    refine c1.mono ?_
    rintro r w' ⟨rfl, rfl⟩
    go_wp2
    go_ret
    exact ⟨rfl, rfl⟩
set_option maxRecDepth 100000 in
theorem nform_any (s : ByteArray) (w : World) (hs : s.size ≤ 1000) :
    Calls Tryz.prog 60 #[.string s] w fun e w' => e = .returned (.int .i64 (M.gf s.data.toList : Nat)) ∧ w = w' := by
  have c1 := fun W => hasP_any s 111 (Or.inl rfl) W (by omega)
  have c2 := fun W => hasP_any s 120 (Or.inr rfl) W (by omega)
  unfold M.gf
  by_cases h1 : s.data.toList.take 2 = [48, 111]
  · rw [if_pos h1]
    rw [decide_eq_true h1] at c1
    have h2 : 2 ≤ s.size := by rw [sz_list, M.take2 h1]; simp
    have c3 := fun W => afterB_any s 8 1 W hs h2 (Or.inl (by omega))
    clear c2 h1
    generalize M.gB 8 1 (s.data.toList.drop 2) = R at *
    go_enter Tryz.func60, Tryz.ntmps60
    go_wp2_with fail
    refine (c1 _).mono ?_
    rintro r w' ⟨rfl, rfl⟩
    go_wp2_with fail
    refine (c3 _).mono ?_
    rintro r w' ⟨rfl, rfl⟩
    go_wp2
    go_ret
    exact ⟨rfl, rfl⟩
  · rw [if_neg h1]
    rw [decide_eq_false h1] at c1
    by_cases h2 : s.data.toList.take 2 = [48, 120]
    · rw [if_pos h2]
      rw [decide_eq_true h2] at c2
      have h3 : 2 ≤ s.size := by rw [sz_list, M.take2 h2]; simp
      have c3 := fun W => afterB_any s 16 2 W hs h3 (Or.inr rfl)
      clear h1 h2
      generalize M.gB 16 2 (s.data.toList.drop 2) = R at *
      go_enter Tryz.func60, Tryz.ntmps60
      go_wp2_with fail
      refine (c1 _).mono ?_
      rintro r w' ⟨rfl, rfl⟩
      go_wp2_with fail
      refine (c2 _).mono ?_
      rintro r w' ⟨rfl, rfl⟩
      go_wp2_with fail
      refine (c3 _).mono ?_
      rintro r w' ⟨rfl, rfl⟩
      go_wp2
      go_ret
      exact ⟨rfl, rfl⟩
    · rw [if_neg h2]
      rw [decide_eq_false h2] at c2
      have c3 := fun W => nsplit_any s W (by omega)
      have hbl := M.body_len s.data.toList
      rw [← sz_list] at hbl
      have c4 := fun W => nofD_any (bA (M.body s.data.toList)) W (by rw [bA_size]; omega)
      rw [bA_toList] at c4
      clear h1 h2 hbl
      generalize M.gl (M.body s.data.toList) = R at *
      generalize bA (M.body s.data.toList) = U at *
      generalize M.isNeg s.data.toList = N at *
      go_enter Tryz.func60, Tryz.ntmps60
      go_wp2_with fail
      refine (c1 _).mono ?_
      rintro r w' ⟨rfl, rfl⟩
      go_wp2_with fail
      refine (c2 _).mono ?_
      rintro r w' ⟨rfl, rfl⟩
      go_wp2_with fail
      refine (c3 _).mono ?_
      rintro r w' ⟨rfl, rfl⟩
      go_wp2_with fail
      refine (c4 _).mono ?_
      rintro r w' ⟨rfl, rfl⟩
      go_wp2
      go_ret
      exact ⟨rfl, rfl⟩
/-- Which form a whole number has. -/
theorem form_iv (l : List UInt8) : (∃ d, M.gf l = 1 ∧ l = 48 :: 111 :: d ∧ M.okD 8 d = true ∧ M.iv l = some ((M.val 8 d : Nat) : Int)) ∨ (∃ d, M.gf l = 2 ∧ l = 48 :: 120 :: d ∧ M.okD 16 d = true ∧ M.iv l = some ((M.val 16 d : Nat) : Int)) ∨
    (M.gf l = 3 ∧ M.okD 10 (M.body l) = true ∧ M.iv l = some (M.sgn (M.isNeg l) (M.val 10 (M.body l)))) ∨ ((M.gf l = 0 ∨ M.gf l = 4) ∧ M.iv l = none) := by
  by_cases h1 : l.take 2 = [48, 111]
  · have h2 := M.take2 h1
    have hf : M.gf l = if M.okD 8 (l.drop 2) = true then 1 else 0 := by unfold M.gf; rw [if_pos h1, M.gB_eq]
    have hv : M.iv l = if M.okD 8 (l.drop 2) = true then some ((M.val 8 (l.drop 2) : Nat) : Int) else none := by unfold M.iv; rw [if_pos h1]
    by_cases ho : M.okD 8 (l.drop 2) = true
    · rw [if_pos ho] at hf hv; exact Or.inl ⟨_, hf, h2, ho, hv⟩
    · rw [if_neg ho] at hf hv; exact Or.inr (Or.inr (Or.inr ⟨Or.inl hf, hv⟩))
  · by_cases h3 : l.take 2 = [48, 120]
    · have h2 := M.take2 h3
      have hf : M.gf l = if M.okD 16 (l.drop 2) = true then 2 else 0 := by unfold M.gf; rw [if_neg h1, if_pos h3, M.gB_eq]
      have hv : M.iv l = if M.okD 16 (l.drop 2) = true then some ((M.val 16 (l.drop 2) : Nat) : Int) else none := by unfold M.iv; rw [if_neg h1, if_pos h3]
      by_cases ho : M.okD 16 (l.drop 2) = true
      · rw [if_pos ho] at hf hv; exact Or.inr (Or.inl ⟨_, hf, h2, ho, hv⟩)
      · rw [if_neg ho] at hf hv; exact Or.inr (Or.inr (Or.inr ⟨Or.inl hf, hv⟩))
    · have hf : M.gf l = M.gl (M.body l) := by unfold M.gf; rw [if_neg h1, if_neg h3]
      have hv : M.iv l = if M.okD 10 (M.body l) = true then some (M.sgn (M.isNeg l) (M.val 10 (M.body l))) else none := by unfold M.iv; rw [if_neg h1, if_neg h3]
      by_cases ho : M.okD 10 (M.body l) = true
      · rw [if_pos ho] at hv; exact Or.inr (Or.inr (Or.inl ⟨hf.trans ((M.gl_whole _).2 ho), ho, hv⟩))
      · rw [if_neg ho] at hv
        refine Or.inr (Or.inr (Or.inr ⟨?_, hv⟩))
        rw [hf]
        have h3 : M.gl (M.body l) ≠ 3 := fun k => ho ((M.gl_whole _).1 k)
        rw [M.gl_eq] at h3 ⊢
        split
        · exact Or.inl rfl
        · split
          · rename_i a b; rw [if_neg a, if_pos b] at h3; exact absurd rfl h3
          · split
            · exact Or.inr rfl
            · exact Or.inl rfl
set_option maxRecDepth 100000 in
theorem nint_no (s : ByteArray) (w : World) (hs : s.size ≤ 1000) (h : M.iv s.data.toList = none) :
    Calls Tryz.prog 26 #[.string s] w fun e w' => e = .returned (.tuple #[.string ⟨#[]⟩, .bool false]) ∧ w = w' := by
  have c1 := fun W => nform_any s W hs
  have hf : M.gf s.data.toList = 0 ∨ M.gf s.data.toList = 4 := by
    rcases form_iv s.data.toList with ⟨d, _, _, _, e⟩ | ⟨d, _, _, _, e⟩ | ⟨_, _, e⟩ | ⟨e, _⟩
    · rw [h] at e; cases e
    · rw [h] at e; cases e
    · rw [h] at e; cases e
    · exact e
  clear h
  rcases hf with hf | hf
  all_goals
    rw [hf] at c1
    clear hf
    go_enter Tryz.func26, Tryz.ntmps26
    go_wp2_with fail
    refine (c1 _).mono ?_
    rintro r w' ⟨rfl, rfl⟩
    go_wp2
    go_ret2
    exact ⟨rfl, rfl⟩
set_option maxRecDepth 100000 in
theorem nint_yes (s : ByteArray) (z : Int) (w : World) (hs : s.size ≤ 1000) (h : M.iv s.data.toList = some z) :
    Calls Tryz.prog 26 #[.string s] w fun e w' => e = .returned (.tuple #[.string (tx z), .bool true]) ∧ Below w.heap.size w w' := by
  have c1 := fun W => nform_any s W hs
  rcases form_iv s.data.toList with ⟨d, hf, hl, ho, e⟩ | ⟨d, hf, hl, ho, e⟩ | ⟨hf, ho, e⟩ | ⟨_, e⟩
  · obtain rfl := Option.some.inj (h.symm.trans e)
    have hz : d.length + 2 = s.size := by rw [sz_list, hl]; simp
    have c2 := fun W => base_yes (bA d) 8 W (Or.inr (Or.inl rfl)) (by rw [bA_size]; omega) (by rw [bA_toList]; exact ho)
    rw [bA_toList] at c2
    have hx : s.extract 2 s.size = bA d := by apply eq_bA; rw [Lib.extract_to_end, hl]; rfl
    have h2 : 2 ≤ s.size := by omega
    have h2' : (2 : Int) ≤ (s.size : Int) := by omega
    rw [hf] at c1
    clear hf hl ho e h hz
    generalize tx ((M.val 8 d : Nat) : Int) = Z at *
    generalize bA d = B at *
    go_enter Tryz.func26, Tryz.ntmps26
    go_wp2_with fail
    refine (c1 _).mono ?_
    rintro r w' ⟨rfl, rfl⟩
    go_wp2_with fail
    refine (c2 _).mono ?_
    rintro r w2 ⟨rfl, hb⟩
    clear c1 c2
    go_wp2
    go_ret2
    exact ⟨rfl, hb⟩
  · obtain rfl := Option.some.inj (h.symm.trans e)
    have hz : d.length + 2 = s.size := by rw [sz_list, hl]; simp
    have c2 := fun W => base_yes (bA d) 16 W (Or.inr (Or.inr rfl)) (by rw [bA_size]; omega) (by rw [bA_toList]; exact ho)
    rw [bA_toList] at c2
    have hx : s.extract 2 s.size = bA d := by apply eq_bA; rw [Lib.extract_to_end, hl]; rfl
    have h2 : 2 ≤ s.size := by omega
    have h2' : (2 : Int) ≤ (s.size : Int) := by omega
    rw [hf] at c1
    clear hf hl ho e h hz
    generalize tx ((M.val 16 d : Nat) : Int) = Z at *
    generalize bA d = B at *
    go_enter Tryz.func26, Tryz.ntmps26
    go_wp2_with fail
    refine (c1 _).mono ?_
    rintro r w' ⟨rfl, rfl⟩
    go_wp2_with fail
    refine (c2 _).mono ?_
    rintro r w2 ⟨rfl, hb⟩
    clear c1 c2
    go_wp2
    go_ret2
    exact ⟨rfl, hb⟩
  · obtain rfl := Option.some.inj (h.symm.trans e)
    have c2 := fun W => nsplit_any s W (by omega)
    have hbl := M.body_len s.data.toList
    rw [← sz_list] at hbl
    have c3 := fun W => norm_yes (M.isNeg s.data.toList) (bA (M.body s.data.toList)) W (by rw [bA_size]; omega) (by rw [bA_toList]; exact ho)
    rw [bA_toList] at c3
    rw [hf] at c1
    clear hf ho e h hbl
    generalize tx (M.sgn (M.isNeg s.data.toList) (M.val 10 (M.body s.data.toList))) = Z at *
    generalize bA (M.body s.data.toList) = B at *
    generalize M.isNeg s.data.toList = N at *
    go_enter Tryz.func26, Tryz.ntmps26
    go_wp2_with fail
    refine (c1 _).mono ?_
    rintro r w' ⟨rfl, rfl⟩
    go_wp2_with fail
    refine (c2 _).mono ?_
    rintro r w' ⟨rfl, rfl⟩
    go_wp2_with fail
    refine (c3 _).mono ?_
    rintro r w2 ⟨rfl, hb⟩
    clear c1 c2 c3
    go_wp2
    go_ret2
    exact ⟨rfl, hb⟩
  · rw [h] at e; cases e
theorem body_low {r : List UInt8} (h : M.okD 10 (M.body r) = true) : ∀ c ∈ r, c.toNat < 128 := by
  have hall := (M.allD_iff _ _).1 ((M.okD_iff _ _).1 h).2
  cases r with
  | nil => intro c hc; cases hc
  | cons g ds =>
    intro c hc
    by_cases h43 : g = 43
    · subst h43
      rw [(M.body_43 ds).2] at hall
      rcases List.mem_cons.1 hc with rfl | hc
      · decide
      · exact dv_low (hall c hc)
    · by_cases h45 : g = 45
      · subst h45
        rw [(M.body_45 ds).2] at hall
        rcases List.mem_cons.1 hc with rfl | hc
        · decide
        · exact dv_low (hall c hc)
      · rw [(M.body_else ds h43 h45).2] at hall
        exact dv_low (hall c hc)
set_option maxRecDepth 100000 in
set_option maxHeartbeats 1000000 in
/-- What stands ahead of an e, and the power behind it. -/
theorem npower_any (Q X : List UInt8) (z : Int) (w : World) (hl : Q.length + X.length ≤ 1000) (hQ : ∀ c ∈ Q, c ≠ 101 ∧ c ≠ 69 ∧ c.toNat < 128) (hX : M.pw X = some z) :
    Calls Tryz.prog 63 #[.string (bA (Q ++ X))] w fun e w' => e = .returned (.tuple #[.string (bA Q), .string (tx z)]) ∧ Below w.heap.size w w' := by
  cases X with
  | nil =>
    obtain rfl : z = 0 := by rw [M.pw] at hX; exact (Option.some.inj hX).symm
    rw [List.append_nil, tx0]
    have c1 := fun W => anyE_any Q W (by simp at hl; omega) (fun c hc => (hQ c hc).2.2)
    rw [anyE_no Q (fun c hc => ⟨(hQ c hc).1, (hQ c hc).2.1⟩)] at c1
    clear hX hQ hl
    generalize bA Q = B at *
    go_enter Tryz.func63, Tryz.ntmps63
    go_wp2_with fail
    refine (c1 _).mono ?_
    rintro r w1 ⟨rfl, hb1⟩
    clear c1
    go_wp2
    go_ret2
    exact ⟨rfl, hb1⟩
  | cons e r =>
    rw [M.pw] at hX
    by_cases he : e = 101 ∨ e = 69
    · rw [if_pos he, M.pwE] at hX
      by_cases hd : M.okD 10 (M.body r) = true
      · rw [if_pos hd] at hX
        have hz := Option.some.inj hX
        have hlow : ∀ c ∈ Q ++ e :: r, c.toNat < 128 := by
          intro c hc
          rcases List.mem_append.1 hc with hc | hc
          · exact (hQ c hc).2.2
          · rcases List.mem_cons.1 hc with rfl | hc
            · rcases he with rfl | rfl <;> decide
            · exact body_low hd c hc
        have hbl := M.body_len r
        simp only [List.length_cons] at hl
        have c1 := fun W => anyE_any (Q ++ e :: r) W (by simp; omega) hlow
        rw [anyE_yes Q r e he (fun c hc => ⟨(hQ c hc).1, (hQ c hc).2.1⟩)] at c1
        have c2 := fun W => nsplit_any (bA r) W (by rw [bA_size]; omega)
        rw [bA_toList] at c2
        have c3 := fun W => norm_yes (M.isNeg r) (bA (M.body r)) W (by rw [bA_size]; omega) (by rw [bA_toList]; exact hd)
        rw [bA_toList, hz] at c3
        have hx1 : (bA (Q ++ e :: r)).extract (Q.length + 1) (bA (Q ++ e :: r)).size = bA r := by
          apply eq_bA; rw [Lib.extract_to_end, bA_toList, show Q ++ e :: r = (Q ++ [e]) ++ r by simp]
          exact List.drop_left' (by simp)
        have hx2 : (bA (Q ++ e :: r)).extract 0 Q.length = bA Q := by
          apply eq_bA; rw [extract_take, bA_toList]; exact List.take_left' rfl
        have hsz : (bA (Q ++ e :: r)).size = Q.length + r.length + 1 := by rw [bA_size]; simp; omega
        have hq : Q.length ≤ 1000 ∧ r.length ≤ 1000 := by omega
        clear hX hz hlow hl hd he hQ hbl
        generalize M.isNeg r = N at *
        generalize bA (M.body r) = B2 at *
        generalize hBB : bA (Q ++ e :: r) = B at *
        generalize bA r = B1 at *
        generalize bA Q = B3 at *
        generalize tx z = Z at *
        generalize Q.length = q at *
        generalize r.length = d at *
        clear hBB
        rw [hsz] at hx1
        have hq0 : decide ((q : Int) < 0) = false := by simp
        go_enter Tryz.func63, Tryz.ntmps63
        go_wp2_with fail
        refine (c1 _).mono ?_
        rintro r w1 ⟨rfl, hb1⟩
        clear c1
        go_wp2_with fail
        refine (c2 _).mono ?_
        rintro r w' ⟨rfl, rfl⟩
        clear c2
        have hq1 : q ≤ q + d + 1 := by omega
        have hq2 : (q : Int) ≤ (q : Int) + (d : Int) + 1 := by omega
        go_wp2_with fail
        go_region_held3 (fun w' => Below w1.heap.size w1 w')
          (first | exact hS | exact (Below.refl _ _).drew)
          (first
            | (go_at_call 44; refine (liftB (W0 := w1) (c3 _) ?_).mono ?_; (exact ‹Below w1.heap.size w1 _›); rintro r w2 ⟨rfl, hS⟩))
        go_wp2
        go_ret2
        exact ⟨rfl, hb1.trans (hS.mono hb1.size)⟩
      · rw [if_neg hd] at hX; cases hX
    · rw [if_neg he] at hX; cases hX
end Go.Proofs.YtipgipgehnhgkaaGreatDoor

namespace Go.Proofs.YtipgipgehnhgkaaGreatDoor
open Go.RowKit

set_option maxRecDepth 100000 in
theorem nflo_nan (s : ByteArray) (w : World) (h : s.data.toList ∈ M.nans) :
    Calls Tryz.prog 27 #[.string s] w fun e w' => e = .returned (.tuple #[dV 2 false ⟨#[]⟩ ⟨#[]⟩, .bool true]) ∧ Below w.heap.size w w' := by
  simp only [M.nans, List.mem_cons, List.not_mem_nil, or_false] at h
  rcases h with h | h | h
  all_goals
    rw [ba_of h]
    clear h
    go_enter Tryz.func27, Tryz.ntmps27
    go_wp2
    exact bodyPost_ret (ret_dec Tryz.results27 _ rfl rfl (Blk.made w 2 false ⟨#[]⟩ ⟨#[]⟩)) rfl ⟨rfl, (Below.refl _ _).alloc (Nat.le_refl _) _⟩
set_option maxRecDepth 100000 in
set_option maxHeartbeats 1000000 in
theorem nflo_inf (s : ByteArray) (w : World) (hs : s.size ≤ 1000) (h : s.data.toList ∉ M.nans) (hi : M.body s.data.toList ∈ M.infs) :
    Calls Tryz.prog 27 #[.string s] w fun e w' => e = .returned (.tuple #[dV 1 (M.isNeg s.data.toList) ⟨#[]⟩ ⟨#[]⟩, .bool true]) ∧ Below w.heap.size w w' := by
  have c1 := fun W => nsplit_any s W (by omega)
  generalize M.isNeg s.data.toList = N at *
  simp only [M.nans, List.mem_cons, List.not_mem_nil, or_false, not_or] at h
  have e1 := beq_list h.1
  have e2 := beq_list h.2.1
  have e3 := beq_list h.2.2
  simp only [M.infs, List.mem_cons, List.not_mem_nil, or_false] at hi
  have hU : bA (M.body s.data.toList) = ⟨#[46, 105, 110, 102]⟩ ∨ bA (M.body s.data.toList) = ⟨#[46, 73, 110, 102]⟩ ∨ bA (M.body s.data.toList) = ⟨#[46, 73, 78, 70]⟩ := by
    rcases hi with hi | hi | hi
    · exact Or.inl (congrArg bA hi)
    · exact Or.inr (Or.inl (congrArg bA hi))
    · exact Or.inr (Or.inr (congrArg bA hi))
  clear h hi
  generalize bA (M.body s.data.toList) = U at *
  rcases hU with rfl | rfl | rfl
  all_goals
    go_enter Tryz.func27, Tryz.ntmps27
    go_wp2_with fail
    refine (c1 _).mono ?_
    rintro r w' ⟨rfl, rfl⟩
    go_wp2
    exact bodyPost_ret (ret_dec Tryz.results27 _ rfl rfl (Blk.made w 1 N ⟨#[]⟩ ⟨#[]⟩)) rfl ⟨rfl, (Below.refl _ _).alloc (Nat.le_refl _) _⟩
set_option maxRecDepth 100000 in
set_option maxHeartbeats 1000000 in
theorem nflo_no (s : ByteArray) (w : World) (hs : s.size ≤ 1000) (h : s.data.toList ∉ M.nans) (hi : M.body s.data.toList ∉ M.infs) (h4 : M.gl (M.body s.data.toList) ≠ 4) :
    Calls Tryz.prog 27 #[.string s] w fun e w' => e = .returned (.tuple #[dZ, .bool false]) ∧ Below w.heap.size w w' := by
  have c1 := fun W => nsplit_any s W (by omega)
  have c2 := fun W => nform_any s W hs
  have hg : M.gf s.data.toList ≠ 4 := fun k => h4 ((M.gf_four _).1 k)
  have hU : (bA (M.body s.data.toList)).data.toList ∉ M.infs := by rw [bA_toList]; exact hi
  generalize bA (M.body s.data.toList) = U at *
  generalize M.isNeg s.data.toList = N at *
  generalize M.gf s.data.toList = G at *
  simp only [M.nans, List.mem_cons, List.not_mem_nil, or_false, not_or] at h
  have e1 := beq_list h.1
  have e2 := beq_list h.2.1
  have e3 := beq_list h.2.2
  simp only [M.infs, List.mem_cons, List.not_mem_nil, or_false, not_or] at hU
  have g1 := beq_list hU.1
  have g2 := beq_list hU.2.1
  have g3 := beq_list hU.2.2
  have hG : ((G : Int) == 4) = false := beq_eq_false_iff_ne.2 (by omega)
  clear h hU hi h4 hg
  go_enter Tryz.func27, Tryz.ntmps27
  go_wp2_with fail
  refine (c1 _).mono ?_
  rintro r w' ⟨rfl, rfl⟩
  go_wp2_with fail
  refine (c2 _).mono ?_
  rintro r w' ⟨rfl, rfl⟩
  go_wp2
  exact bodyPost_ret (ret_dec Tryz.results27 _ rfl rfl (Blk.made w 0 false ⟨#[]⟩ ⟨#[]⟩)) rfl ⟨rfl, (Below.refl _ _).alloc (Nat.le_refl _) _⟩
theorem nan_no {l : List UInt8} (h : M.gl (M.body l) = 4) : l ∉ M.nans ∧ M.body l ∉ M.infs := by
  constructor
  · intro k
    simp only [M.nans, List.mem_cons, List.not_mem_nil, or_false] at k
    rcases k with rfl | rfl | rfl <;> exact absurd h (by decide)
  · intro k
    simp only [M.infs, List.mem_cons, List.not_mem_nil, or_false] at k
    rcases k with k | k | k <;> rw [k] at h <;> exact absurd h (by decide)
theorem q_low {W F Q : List UInt8} (hq : Q = W ∧ F = [] ∨ Q = W ++ 46 :: F) (hW : M.allD 10 W = true) (hF : M.allD 10 F = true) : ∀ c ∈ Q, c ≠ 101 ∧ c ≠ 69 ∧ c.toNat < 128 := by
  have aW := (M.allD_iff _ _).1 hW
  have aF := (M.allD_iff _ _).1 hF
  rcases hq with ⟨rfl, _⟩ | rfl
  · intro c hc; exact M.lo_dig (aW c hc)
  · intro c hc
    rcases List.mem_append.1 hc with hc | hc
    · exact M.lo_dig (aW c hc)
    · rcases List.mem_cons.1 hc with rfl | hc
      · exact M.lo_46
      · exact M.lo_dig (aF c hc)
theorem q_cut {W F Q : List UInt8} (hq : Q = W ∧ F = [] ∨ Q = W ++ 46 :: F) (hW : M.allD 10 W = true) : ∃ b, Lib.cut Q [46] = (W, F, b) := by
  have h46 : ∀ c ∈ W, c ≠ 46 := fun c hc => M.ne46 ((M.allD_iff _ _).1 hW c hc) (by omega)
  rcases hq with ⟨rfl, rfl⟩ | rfl
  · exact ⟨false, M.cut_no 46 Q h46⟩
  · exact ⟨true, M.cut_yes 46 W F h46⟩
set_option maxRecDepth 100000 in
set_option maxHeartbeats 2000000 in
/-- What Float answers is what Make answers of the digits and the power. -/
theorem nflo_yes (s : ByteArray) (w : World) (he : Env w) (hs : s.size ≤ 900) (W F Q X : List UInt8) (z : Int) (hP : M.Num (M.body s.data.toList) W F Q X z) (h4 : M.gl (M.body s.data.toList) = 4)
    (k : Int) (n ok : Bool) (D E : ByteArray) (cM : ∀ W', Tab W' → Calls Tryz.prog 52 #[.bool (M.isNeg s.data.toList), .string (bA W), .string (bA F), .string (tx z)] W' fun e w' => e = .returned (.tuple #[dV k n D E, .bool ok]) ∧ Below W'.heap.size W' w') :
    Calls Tryz.prog 27 #[.string s] w fun e w' => e = .returned (.tuple #[dV k n D E, .bool ok]) ∧ Below w.heap.size w w' := by
  have hbl := M.body_len s.data.toList
  rw [← sz_list] at hbl
  obtain ⟨h, hi⟩ := nan_no h4
  have c1 := fun W => nsplit_any s W (by omega)
  have c2 := fun W => nform_any s W (by omega)
  rw [(M.gf_four _).2 h4] at c2
  have hlen : Q.length + X.length ≤ 900 := by rw [← List.length_append, ← hP.eq]; omega
  have c3 := fun W => npower_any Q X z W (by omega) (q_low hP.q hP.w hP.f) hP.pow
  rw [← hP.eq] at c3
  obtain ⟨b, hb⟩ := q_cut hP.q hP.w
  have c4 := fun W (he : Env W) => cut46_any Q _ _ b W he (by omega) hb
  have hU : (bA (M.body s.data.toList)).data.toList ∉ M.infs := by rw [bA_toList]; exact hi
  clear hP hi h4 hlen hb hbl
  generalize bA (M.body s.data.toList) = U at *
  generalize M.isNeg s.data.toList = N at *
  generalize bA Q = B2 at *
  generalize bA W = B3 at *
  generalize bA F = B4 at *
  generalize tx z = Z at *
  simp only [M.nans, List.mem_cons, List.not_mem_nil, or_false, not_or] at h
  have e1 := beq_list h.1
  have e2 := beq_list h.2.1
  have e3 := beq_list h.2.2
  simp only [M.infs, List.mem_cons, List.not_mem_nil, or_false, not_or] at hU
  have g1 := beq_list hU.1
  have g2 := beq_list hU.2.1
  have g3 := beq_list hU.2.2
  clear h hU
  go_enter Tryz.func27, Tryz.ntmps27
  go_wp2_with fail
  refine (c1 _).mono ?_
  rintro r w' ⟨rfl, rfl⟩
  go_wp2_with fail
  refine (c2 _).mono ?_
  rintro r w' ⟨rfl, rfl⟩
  clear c1 c2
  go_wp2_with fail
  refine (c3 _).mono ?_
  rintro r w2 ⟨rfl, hb2⟩
  have x2 := (env_new he _).next hb2
  clear c3
  go_wp2_with fail
  refine (c4 _ x2).mono ?_
  rintro r w3 ⟨rfl, hb3⟩
  have x3 := x2.next hb3
  clear c4
  go_wp2_with fail
  refine (cM _ x3.1).mono ?_
  rintro r w4 ⟨rfl, hb4⟩
  have K1 := ((Blk.made w 0 false ⟨#[]⟩ ⟨#[]⟩).next hb2 |>.next hb3).next hb4
  have B1 : Below w.heap.size w w4 := (below_new hb2).trans ((hb3.mono (by have := (below_new hb2).size; omega)).trans (hb4.mono (by have := (below_new hb2).size; have := hb3.size; omega)))
  clear cM hb2 hb3 hb4 x2 x3 he
  obtain ⟨g, hg⟩ : ∃ g, w.heap.size = g := ⟨_, rfl⟩
  rw [hg] at K1 B1 ⊢
  obtain ⟨k0, k1, k2, k3⟩ := K1.cells
  obtain ⟨f0, f1, f2, f3⟩ := K1.fro
  go_wp2
  exact bodyPost_ret (ret_dec Tryz.results27 _ rfl rfl (K1.set k n _ _)) rfl ⟨rfl, below_set4 (hg ▸ B1) (by omega) _ _ _ _⟩
end Go.Proofs.YtipgipgehnhgkaaGreatDoor
