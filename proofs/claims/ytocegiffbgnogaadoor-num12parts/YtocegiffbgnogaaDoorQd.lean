/- The law Num12Parts: where it asks nothing; a point, no power. -/
import Derived.Test.YtocegiffbgnogaaDoorQc
set_option linter.unusedVariables false
namespace Go.Proofs.YtocegiffbgnogaaDoor
open Go.RowKit

set_option maxRecDepth 100000 in
set_option maxHeartbeats 2000000 in
theorem parts_short (s f e : ByteArray) (neg Dn PT PW U : Bool) (w : World) (he : Env w) (hs : s.size ≤ maxLen) (hf : f.size ≤ maxLen) (hee : e.size ≤ maxLen) (h : 30 < s.size ∨ 30 < f.size ∨ e.size < 1 ∨ 30 < e.size ∨ (PT = false ∧ s.size = 0) ∨ s.size + f.size = 0 ∨ (PT = false ∧ PW = false)) :
    Calls Tryd.prog 6 #[.string s, .string f, .string e, .bool neg, .bool Dn, .bool PT, .bool PW, .bool U] w fun e w' => e = .returned (.bool true) ∧ Below w.heap.size w w' := by
  unfold maxLen at hs hf hee
  by_cases a0 : 30 < s.size
  · clear h
    have d0 : decide (30 < s.size) = true := decide_eq_true (by omega)
    have x0 : decide ((30 : Int) < (s.size : Int)) = true := decide_eq_true (by omega)
    go_enter Tryd.func6, Tryd.ntmps6
    go_wp2_with fail
    refine (known_any _ he).mono ?_
    rintro r w1 ⟨rfl, B1⟩
    go_wp2
    go_ret
    exact ⟨rfl, B1⟩
  · skip
    have d0 : decide (30 < s.size) = false := decide_eq_false (by omega)
    have x0 : decide ((30 : Int) < (s.size : Int)) = false := decide_eq_false (by omega)
    by_cases a1 : 30 < f.size
    · clear h
      have d1 : decide (30 < f.size) = true := decide_eq_true (by omega)
      have x1 : decide ((30 : Int) < (f.size : Int)) = true := decide_eq_true (by omega)
      go_enter Tryd.func6, Tryd.ntmps6
      go_wp2_with fail
      refine (known_any _ he).mono ?_
      rintro r w1 ⟨rfl, B1⟩
      go_wp2
      go_ret
      exact ⟨rfl, B1⟩
    · skip
      have d1 : decide (30 < f.size) = false := decide_eq_false (by omega)
      have x1 : decide ((30 : Int) < (f.size : Int)) = false := decide_eq_false (by omega)
      by_cases a2 : e.size < 1
      · clear h
        have d2 : decide (e.size < 1) = true := decide_eq_true (by omega)
        have x2 : decide ((e.size : Int) < 1) = true := decide_eq_true (by omega)
        go_enter Tryd.func6, Tryd.ntmps6
        go_wp2_with fail
        refine (known_any _ he).mono ?_
        rintro r w1 ⟨rfl, B1⟩
        go_wp2
        go_ret
        exact ⟨rfl, B1⟩
      · skip
        have d2 : decide (e.size < 1) = false := decide_eq_false (by omega)
        have x2 : decide ((e.size : Int) < 1) = false := decide_eq_false (by omega)
        by_cases a3 : 30 < e.size
        · clear h
          have d3 : decide (30 < e.size) = true := decide_eq_true (by omega)
          have x3 : decide ((30 : Int) < (e.size : Int)) = true := decide_eq_true (by omega)
          go_enter Tryd.func6, Tryd.ntmps6
          go_wp2_with fail
          refine (known_any _ he).mono ?_
          rintro r w1 ⟨rfl, B1⟩
          go_wp2
          go_ret
          exact ⟨rfl, B1⟩
        · skip
          have d3 : decide (30 < e.size) = false := decide_eq_false (by omega)
          have x3 : decide ((30 : Int) < (e.size : Int)) = false := decide_eq_false (by omega)
          cases PT
          · by_cases a4 : s.size = 0
            · clear h
              have y4 : ((s.size : Int) == 0) = true := beq_iff_eq.2 (by omega)
              go_enter Tryd.func6, Tryd.ntmps6
              go_wp2_with fail
              refine (known_any _ he).mono ?_
              rintro r w1 ⟨rfl, B1⟩
              go_wp2
              go_ret
              exact ⟨rfl, B1⟩
            · have y4 : ((s.size : Int) == 0) = false := beq_eq_false_iff_ne.2 (by omega)
              have y5 : ((s.size : Int) + (f.size : Int) == 0) = false := beq_eq_false_iff_ne.2 (by omega)
              obtain rfl : PW = false := by
                rcases h with h | h | h | h | ⟨_, h⟩ | h | ⟨_, h⟩
                all_goals first | exact h | (exfalso; omega)
              go_enter Tryd.func6, Tryd.ntmps6
              go_wp2_with fail
              refine (known_any _ he).mono ?_
              rintro r w1 ⟨rfl, B1⟩
              go_wp2
              go_ret
              exact ⟨rfl, B1⟩
          · have y5 : ((s.size : Int) + (f.size : Int) == 0) = true := beq_iff_eq.2 (by
              rcases h with h | h | h | h | ⟨h, _⟩ | h | ⟨h, _⟩
              all_goals first | omega | (exact absurd h (by decide)))
            clear h
            go_enter Tryd.func6, Tryd.ntmps6
            go_wp2_with fail
            refine (known_any _ he).mono ?_
            rintro r w1 ⟨rfl, B1⟩
            go_wp2
            go_ret
            exact ⟨rfl, B1⟩
set_option maxRecDepth 100000 in
set_option maxHeartbeats 8000000 in
theorem parts_p (s f e : ByteArray) (neg Dn U : Bool) (w : World) (he : Env w) (h1 : s.size ≤ 30) (h2 : f.size ≤ 30) (h3 : 1 ≤ e.size) (h4 : e.size ≤ 30) (h5 : 1 ≤ s.size + f.size)
    (WB FB EB ZB SG HB : ByteArray) (k : Int) (n : Bool) (D E : ByteArray) (zW : WB.size ≤ 30) (zF : FB.size ≤ 30) (zE : EB.size ≤ 30)
    (hH : (neg = true ∧ HB = ⟨#[45]⟩) ∨ (neg = false ∧ HB = ⟨#[]⟩)) (hSG : (Dn = true ∧ SG = ⟨#[45]⟩) ∨ (Dn = false ∧ U = false ∧ SG = ⟨#[43]⟩) ∨ (Dn = false ∧ U = true ∧ SG = ⟨#[]⟩))
    (cW : ∀ W, Calls Tryd.prog 13 #[.string s] W fun e w' => e = .returned (.string WB) ∧ Below W.heap.size W w')
    (cF : ∀ W, Calls Tryd.prog 13 #[.string f] W fun e w' => e = .returned (.string FB) ∧ Below W.heap.size W w')
    (cE : ∀ W, Calls Tryd.prog 13 #[.string e] W fun e w' => e = .returned (.string EB) ∧ Below W.heap.size W w')
    (cN : ∀ W, Calls Tryd.prog 17 #[.bool Dn, .string EB] W fun e w' => e = .returned (.string ZB) ∧ W = w')
    (cM : ∀ W, Calls Tryd.prog 12 #[.bool neg, .string WB, .string FB, .string ⟨#[48]⟩] W fun e w' => e = .returned (.tuple #[dV k n D E, .bool true]) ∧ Below W.heap.size W w')
    (cO : ∀ W, Env W → Calls Tryd.prog 10 #[.string (HB ++ (WB ++ ⟨#[46]⟩ ++ FB))] W fun e w' => e = .returned (.tuple #[dV k n D E, .bool true]) ∧ Below W.heap.size W w')
    (cI : ∀ W, Calls Tryd.prog 8 #[.string (HB ++ (WB ++ ⟨#[46]⟩ ++ FB))] W fun e w' => e = .returned (.tuple #[.string ⟨#[]⟩, .bool false]) ∧ W = w')
    (cG : ∀ W, Calls Tryd.prog 10 #[.string (HB ++ (WB ++ ⟨#[46]⟩ ++ FB) ++ ⟨#[95]⟩)] W fun e w' => e = .returned (.tuple #[dZ, .bool false]) ∧ Below W.heap.size W w') :
    Calls Tryd.prog 6 #[.string s, .string f, .string e, .bool neg, .bool Dn, .bool true, .bool false, .bool U] w fun e w' => e = .returned (.bool true) ∧ Below w.heap.size w w' := by
  have d0 : decide (30 < s.size) = false := decide_eq_false (by omega)
  have x0 : decide ((30 : Int) < (s.size : Int)) = false := decide_eq_false (by omega)
  have d1 : decide (30 < f.size) = false := decide_eq_false (by omega)
  have x1 : decide ((30 : Int) < (f.size : Int)) = false := decide_eq_false (by omega)
  have d2 : decide (e.size < 1) = false := decide_eq_false (by omega)
  have x2 : decide ((e.size : Int) < 1) = false := decide_eq_false (by omega)
  have d3 : decide (30 < e.size) = false := decide_eq_false (by omega)
  have x3 : decide ((30 : Int) < (e.size : Int)) = false := decide_eq_false (by omega)
  have y5 : ((s.size : Int) + (f.size : Int) == 0) = false := beq_eq_false_iff_ne.2 (by omega)
  have eG := eqG
  have e4 := eql4
  have hSGs : SG.size ≤ 1 := by rcases hSG with ⟨_, rfl⟩ | ⟨_, _, rfl⟩ | ⟨_, _, rfl⟩ <;> decide
  rcases hH with ⟨rfl, rfl⟩ | ⟨rfl, rfl⟩
  all_goals
    go_enter Tryd.func6, Tryd.ntmps6
    go_wp2_with fail
    refine (known_any _ he).mono ?_
    rintro r w1 ⟨rfl, B1⟩
    go_wp2_with fail
    refine (cW _).mono ?_
    rintro r u1 ⟨rfl, hw⟩
    have Bu1 : Below w.heap.size w u1 := below_on B1 hw
    clear hw
    go_wp2_with fail
    refine (cF _).mono ?_
    rintro r u2 ⟨rfl, hw⟩
    have Bu2 : Below w.heap.size w u2 := below_on Bu1 hw
    clear hw
    go_wp2_with fail
    refine (cF _).mono ?_
    rintro r u3 ⟨rfl, hw⟩
    have Bu3 : Below w.heap.size w u3 := below_on Bu2 hw
    clear hw
    go_wp2_with fail
    refine (cW _).mono ?_
    rintro r u6 ⟨rfl, hw⟩
    have Bu6 : Below w.heap.size w u6 := below_on Bu3 hw
    clear hw
    go_wp2_with fail
    refine (cM _).mono ?_
    rintro r u7 ⟨rfl, hw⟩
    have Bu7 : Below w.heap.size w u7 := below_on Bu6 hw
    clear hw
    have E7 := env_new (he.next Bu7) (.cells #[.int .i64 k, .bool n, .string D, .string E] 28)
    go_wp2_with fail
    refine (cO _ E7).mono ?_
    rintro r u8 ⟨rfl, hw⟩
    have KW := (Blk.made u7 k n D E).next hw
    have B8 : Below w.heap.size w u8 := below_over Bu7 hw
    clear hw E7
    obtain ⟨p, hp⟩ : ∃ p, u7.heap.size = p := ⟨_, rfl⟩
    rw [hp] at KW ⊢
    clear hp
    go_wp2_with fail
    refine (cI _).mono ?_
    rintro r w' ⟨rfl, rfl⟩
    go_wp2_with fail
    refine (cG _).mono ?_
    rintro r u9 ⟨rfl, hw⟩
    have KD := (Blk.made u8 k n D E).next hw
    have KX := KW.over hw
    have B9 : Below w.heap.size w u9 := below_over B8 hw
    clear hw KW B8
    obtain ⟨q, hq⟩ : ∃ q, u8.heap.size = q := ⟨_, rfl⟩
    rw [hq] at KD ⊢
    clear hq
    have ltp := KX.lt
    have ltq := KD.lt
    obtain ⟨p0, p1, p2, p3⟩ := KX.cells
    obtain ⟨q0, q1, q2, q3⟩ := KD.cells
    go_wp2
    go_ret
    exact ⟨rfl, B9.alloc B9.size _⟩
end Go.Proofs.YtocegiffbgnogaaDoor
