/- Both sides' Plain answer the same. -/
import Derived.Test.YtipgipgehnhgkaaGreatDoorVf
import Derived.Test.YtipgipgehnhgkaaGreatDoorNa
import Derived.Test.YtipgipgehnhgkaaGreatDoorBn
import Derived.Test.YtipgipgehnhgkaaGreatDoorBo
import Derived.Test.YtipgipgehnhgkaaGreatDoorBp
import Derived.Test.YtipgipgehnhgkaaGreatDoorBq
import Derived.Test.YtipgipgehnhgkaaGreatDoorBr
import Derived.Test.YtipgipgehnhgkaaGreatDoorBv
import Derived.Test.YtipgipgehnhgkaaGreatDoorTn
set_option linter.unusedVariables false
namespace Go.Proofs.YtipgipgehnhgkaaGreatDoor
open Go.RowKit
open Go

theorem env_next : ∀ w w' : World, Env w → Below w.heap.size w w' → Env w' := fun _ _ h hb => h.next hb
theorem cl_any (s : ByteArray) (hs : s.size ≤ 1000) : ∀ W, Calls Tryz.prog 17 #[.string s] W fun e w' => e = .returned (.string s) ∧ Below W.heap.size W w' := fun W => S10.clone_any s W (by omega)
theorem nl_any (s : ByteArray) : ∀ W, Calls Tryz.prog 20 #[.string s] W fun e w' => e = .returned (.bool (decide (s.data.toList ∈ M.wN))) ∧ W = w' := fun W => S9.null_any s W
theorem wb_any (v : Int) (s : ByteArray) : ∀ W, Calls Tryz.prog 21 #[.int .i64 v, .string s] W fun e w' => e = .returned (.tuple #[.bool (M.bo (decide (v = 11)) s.data.toList).1, .bool (M.bo (decide (v = 11)) s.data.toList).2]) ∧ W = w' := fun W => S9.bool_any v s W
theorem iof_any (s : ByteArray) (hs : s.size ≤ 990) : ∀ W, Env W → Calls Tryz.prog 22 #[.string s] W fun e w' => e = .returned (.tuple #[.string (if M.form s.data.toList = 0 then ⟨#[]⟩ else tx (zOf s.data.toList)), .bool (decide (0 < M.form s.data.toList))]) ∧ Below W.heap.size W w' := by
  intro W hW
  by_cases h : M.form s.data.toList = 0
  · rw [if_pos h, decide_eq_false (by omega)]
    exact (of_no s W hs h).mono fun e w' k => ⟨k.1, k.2 ▸ Below.refl _ _⟩
  · rw [if_neg h, decide_eq_true (by omega)]
    exact of_yes s W hW hs h
theorem riof_any (s : ByteArray) (hs : s.size ≤ 90) : ∀ W, Calls Tryz.prog 32 #[.string s] W fun e w' => e = .returned (.tuple #[.string (if M.form s.data.toList = 0 then ⟨#[]⟩ else tx (zOf s.data.toList)), .int .i64 (M.form s.data.toList : Nat)]) ∧ Below W.heap.size W w' := by
  intro W
  have c := rint_any s W hs
  unfold intV at c
  by_cases h : M.form s.data.toList = 0
  · rw [if_pos h, h]
    rw [if_pos (show M.fB (M.body s.data.toList) = 0 from h)] at c
    exact c
  · rw [if_neg h]
    rw [if_neg (show ¬ M.fB (M.body s.data.toList) = 0 from h)] at c
    exact c
theorem st_both (s : ByteArray) (hs : s.size ≤ 1000) : ∃ (MO : ByteArray) (qs : Bool),
    (∀ W, Env W → Calls Tryz.prog 25 #[.string s] W fun e w' => e = .returned (.tuple #[.string MO, .bool qs]) ∧ Below W.heap.size W w') ∧
    (∀ W, Calls Tryz.prog 36 #[.string s] W fun e w' => e = .returned (.tuple #[.string MO, .bool qs]) ∧ Below W.heap.size W w') := by
  have c1 := fun W (hW : Env W) => S10.of_any s W hW.1 hs
  have c2 := fun W => S10.rof_any s W hs
  cases h : S10.M.ofS s.data.toList with
  | none => rw [h] at c1 c2; exact ⟨_, _, c1, c2⟩
  | some a => rw [h] at c1 c2; exact ⟨_, _, c1, c2⟩
/-- Both sides answer the same of s. -/
def BothP (v : Int) (s : ByteArray) : Prop := ∃ T X : ByteArray,
  (∀ W, Env W → Calls Tryz.prog 8 #[.int .i64 v, .string s] W fun e w' => e = .returned (vV T X) ∧ Below W.heap.size W w') ∧
  (∀ W, Calls Tryz.prog 9 #[.int .i64 v, .string s] W fun e w' => e = .returned (vV T X) ∧ Below W.heap.size W w')
theorem both_old (s : ByteArray) (hs : s.size ≤ 80) : BothP 11 s := by
  obtain ⟨k, m, D, X, hD, hX, f1, f2⟩ := float_agree s (by omega)
  obtain ⟨MO, qs, s1, s2⟩ := st_both s (by omega)
  have n1 := nl_any s
  have n2 := wb_any 11 s
  have r1 := fun W => S9.rnull_any s W
  have r2 : ∀ W, Calls Tryz.prog 29 #[.int .i64 11, .string s] W fun e w' => e = .returned (.tuple #[.bool (M.bo (decide ((11 : Int) = 11)) s.data.toList).1, .bool (M.bo (decide ((11 : Int) = 11)) s.data.toList).2]) ∧ W = w' := fun W => S9.rbool_any 11 s W
  have i1 := iof_any s (by omega)
  have i2 := riof_any s (by omega)
  have p1 := fun W (hW : Env W) => print_any k m D X W hW.1 hD hX
  have p2 := fun W => rprint_any k m D X W hD hX
  generalize (if M.form s.data.toList = 0 then (⟨#[]⟩ : ByteArray) else tx (zOf s.data.toList)) = NI at *
  generalize M.form s.data.toList = F at *
  generalize bA (M.out k m D.data.toList X.data.toList) = P at *
  generalize M.bo (decide ((11 : Int) = 11)) s.data.toList = p at *
  generalize decide (s.data.toList ∈ M.wN) = n at *
  generalize M.flo s.data.toList = G at *
  refine ⟨_, _, fun W hW => plain_codeO env_next s NI D X P MO k m n p.1 p.2 (decide (0 < F)) (decide (G ≠ 0)) qs W hW n1 n2 i1 f1 (fun _ => p1) s1 (cl_any s (by omega)), fun W => ?_⟩
  have h := rplain_any 11 s (if p.2 = true then xB p.1 else ⟨#[]⟩) NI (if decide (G ≠ 0) = true then P else ⟨#[]⟩) MO true n p.2 (decide (0 < F)) (decide (G ≠ 0)) qs W rfl r1
    (fun W => rty_bool 11 s p.1 p.2 W r2) (fun W => rty_intO 11 s NI F (decide (0 < F)) W rfl rfl i2) (fun W => rty_floatO 11 s D X P k m G (decide (G ≠ 0)) W rfl rfl f2 (fun _ => p2)) (fun W => rty_time 11 s MO qs W s2)
  rw [rpV_eq] at h
  exact h
theorem both_new (v : Int) (hv : v ≠ 11) (s : ByteArray) (hs : s.size ≤ 80) : BothP v s := by
  obtain ⟨k, m, ok, D, X, hD, hX, f1, f2⟩ := nfloat_agree s (by omega)
  obtain ⟨MO, qs, s1, s2⟩ := st_both s (by omega)
  have n1 := nl_any s
  have n2 := wb_any v s
  have r1 := fun W => S9.rnull_any s W
  have r2 : ∀ W, Calls Tryz.prog 29 #[.int .i64 v, .string s] W fun e w' => e = .returned (.tuple #[.bool (M.bo (decide (v = 11)) s.data.toList).1, .bool (M.bo (decide (v = 11)) s.data.toList).2]) ∧ W = w' := fun W => S9.rbool_any v s W
  have i1 := fun W (_ : Env W) => nint_any s W (by omega)
  have i2 := fun W => rint12_any s W (by omega)
  have p1 := fun W (hW : Env W) => print_any k m D X W hW.1 hD hX
  have p2 := fun W => rprint_any k m D X W hD hX
  obtain ⟨NI, qi, hI⟩ : ∃ NI qi, tailV (M.iv s.data.toList) = .tuple #[.string NI, .bool qi] := by
    cases M.iv s.data.toList with
    | none => exact ⟨_, _, rfl⟩
    | some z => exact ⟨_, _, rfl⟩
  rw [hI] at i1 i2
  generalize bA (M.out k m D.data.toList X.data.toList) = P at *
  generalize M.bo (decide (v = 11)) s.data.toList = p at *
  generalize decide (s.data.toList ∈ M.wN) = n at *
  have hv1 : (v == 11) = false := beq_eq_false_iff_ne.2 hv
  have hv2 : (v != 11) = true := by rw [bne, hv1]; rfl
  refine ⟨_, _, fun W hW => plain_codeN env_next v hv s NI D X P MO k m n p.1 p.2 qi ok qs W hW n1 n2 i1 f1 (fun _ => p1) (cl_any s (by omega)), fun W => ?_⟩
  have h := rplain_any v s (if p.2 = true then xB p.1 else ⟨#[]⟩) NI (if ok = true then P else ⟨#[]⟩) MO false n p.2 qi ok qs W hv1 r1
    (fun W => rty_bool v s p.1 p.2 W r2) (fun W => rty_intN v s NI qi W hv2 i2) (fun W => rty_floatN v s D X P k m ok W hv2 f2 (fun _ => p2)) (fun W => rty_time v s MO qs W s2)
  rw [rpV_eq] at h
  exact h
theorem both_plain' (v : Int) (s : ByteArray) (hs : s.size ≤ 80) : BothP v s := by
  by_cases hv : v = 11
  · subst hv; exact both_old s hs
  · exact both_new v hv s hs
end Go.Proofs.YtipgipgehnhgkaaGreatDoor
