/- What the code's Plain tells of a text, by what the text is. -/
import Derived.Test.YtipgipgehnhgkaaGreatDoorWz
import Derived.Test.YtipgipgehnhgkaaGreatDoorMa
set_option linter.unusedVariables false
namespace Go.Proofs.YtipgipgehnhgkaaGreatDoor
open Go.RowKit
open Go

/-- The code's Plain tells T, X of s. -/
def Tel (v : Int) (s T X : ByteArray) : Prop := ∀ W, Env W → Calls Tryz.prog 8 #[.int .i64 v, .string s] W fun e w' => e = .returned (vV T X) ∧ Below W.heap.size W w'
theorem tel_null (v : Int) (s : ByteArray) (h : s.data.toList ∈ M.wN) : Tel v s tNull ⟨#[]⟩ := by
  intro W hW
  have n1 := nl_any s
  have n2 := wb_any v s
  rw [decide_eq_true h] at n1
  exact plain_word env_next v s tNull ⟨#[]⟩ W hW (not_nil (by decide)) (fun W _ => ofWord_any v s true _ _ W n1 n2)
theorem tel_bool (v : Int) (s : ByteArray) (b : Bool) (h0 : s.data.toList ∉ M.wN) (h : M.bo (decide (v = 11)) s.data.toList = (b, true)) : Tel v s tBool (xB b) := by
  intro W hW
  have n1 := nl_any s
  have n2 := wb_any v s
  rw [decide_eq_false h0] at n1
  rw [h] at n2
  exact plain_word env_next v s tBool (xB b) W hW (not_nil (by decide)) (fun W _ => ofWord_any v s false b true W n1 n2)
theorem now_any (v : Int) (s : ByteArray) (h0 : s.data.toList ∉ M.wN) (h : (M.bo (decide (v = 11)) s.data.toList).2 = false) :
    ∀ W, Env W → Calls Tryz.prog 14 #[.int .i64 v, .string s] W fun e w' => e = .returned (vV ⟨#[]⟩ ⟨#[]⟩) ∧ Below W.heap.size W w' := by
  intro W _
  have n1 := nl_any s
  have n2 := wb_any v s
  rw [decide_eq_false h0] at n1
  rw [h] at n2
  exact ofWord_any v s false _ false W n1 n2
theorem tel_intO (s : ByteArray) (z : Int) (hs : s.size ≤ 990) (h0 : s.data.toList ∉ M.wN) (h1 : (M.bo true s.data.toList).2 = false) (hf : M.form s.data.toList ≠ 0) (hz : zOf s.data.toList = z) : Tel 11 s tInt (tx z) := by
  intro W hW
  have c1 := iof_any s hs
  rw [if_neg hf, decide_eq_true (Nat.pos_of_ne_zero hf), hz] at c1
  exact plain_old env_next 11 s tInt (tx z) W hW rfl (not_nil (by decide)) (now_any 11 s h0 h1)
    (fun W hW => ofOld_any env_next s (tx z) ⟨#[]⟩ ⟨#[]⟩ ⟨#[]⟩ ⟨#[]⟩ 0 false true false false W hW c1 (fun k => absurd k (by decide)) (fun k => absurd k (by decide)) (fun k => absurd k (by decide)))
theorem tel_floO (s : ByteArray) (k : Int) (m : Bool) (D X : ByteArray) (hs : s.size ≤ 990) (h0 : s.data.toList ∉ M.wN) (h1 : (M.bo true s.data.toList).2 = false) (hf : M.form s.data.toList = 0) (hD : D.size ≤ 1000) (hX : X.size ≤ 1000)
    (c2 : ∀ W, Env W → Calls Tryz.prog 23 #[.string s] W fun e w' => e = .returned (.tuple #[dV k m D X, .bool true]) ∧ Below W.heap.size W w') : Tel 11 s tFloat (bA (M.out k m D.data.toList X.data.toList)) := by
  intro W hW
  have c1 := iof_any s hs
  rw [if_pos hf, decide_eq_false (by omega)] at c1
  exact plain_old env_next 11 s tFloat _ W hW rfl (not_nil (by decide)) (now_any 11 s h0 h1)
    (fun W hW => ofOld_any env_next s ⟨#[]⟩ D X (bA (M.out k m D.data.toList X.data.toList)) ⟨#[]⟩ k m false true false W hW c1 (fun _ => c2) (fun _ _ W hW => print_any k m D X W hW.1 hD hX) (fun _ k => absurd k (by decide)))
theorem flo_none (s : ByteArray) (hs : s.size ≤ 990) (hg : M.flo s.data.toList = 0) : ∀ W, Env W → Calls Tryz.prog 23 #[.string s] W fun e w' => e = .returned (.tuple #[dZ, .bool false]) ∧ Below W.heap.size W w' := fun W _ => fof_no s W (by omega) hg
theorem tel_time (s : ByteArray) (a : List UInt8) (hs : s.size ≤ 990) (h0 : s.data.toList ∉ M.wN) (h1 : (M.bo true s.data.toList).2 = false) (hf : M.form s.data.toList = 0) (hg : M.flo s.data.toList = 0) (ho : S10.M.ofS s.data.toList = some a) : Tel 11 s tTime (bA a) := by
  intro W hW
  have c1 := iof_any s hs
  rw [if_pos hf, decide_eq_false (by omega)] at c1
  have c2 := flo_none s hs hg
  have c4 : ∀ W, Env W → Calls Tryz.prog 25 #[.string s] W fun e w' => e = .returned (.tuple #[.string (bA a), .bool true]) ∧ Below W.heap.size W w' := by
    intro W hW
    have := S10.of_any s W hW.1 (by omega)
    rw [ho] at this; exact this
  exact plain_old env_next 11 s tTime (bA a) W hW rfl (not_nil (by decide)) (now_any 11 s h0 h1)
    (fun W hW => ofOld_any env_next s ⟨#[]⟩ ⟨#[]⟩ ⟨#[]⟩ ⟨#[]⟩ (bA a) 0 false false false true W hW c1 (fun _ => c2) (fun _ k => absurd k (by decide)) (fun _ _ => c4))
theorem tel_strO (s : ByteArray) (hs : s.size ≤ 990) (h0 : s.data.toList ∉ M.wN) (h1 : (M.bo true s.data.toList).2 = false) (hf : M.form s.data.toList = 0) (hg : M.flo s.data.toList = 0) (ho : S10.M.ofS s.data.toList = none) : Tel 11 s tStr s := by
  intro W hW
  have c1 := iof_any s hs
  rw [if_pos hf, decide_eq_false (by omega)] at c1
  have c2 := flo_none s hs hg
  have c4 : ∀ W, Env W → Calls Tryz.prog 25 #[.string s] W fun e w' => e = .returned (.tuple #[.string ⟨#[]⟩, .bool false]) ∧ Below W.heap.size W w' := by
    intro W hW
    have := S10.of_any s W hW.1 (by omega)
    rw [ho] at this; exact this
  exact plain_oldS env_next 11 s ⟨#[]⟩ ⟨#[]⟩ W hW rfl (by decide) (now_any 11 s h0 h1)
    (fun W hW => ofOld_any env_next s ⟨#[]⟩ ⟨#[]⟩ ⟨#[]⟩ ⟨#[]⟩ ⟨#[]⟩ 0 false false false false W hW c1 (fun _ => c2) (fun _ k => absurd k (by decide)) (fun _ _ => c4)) (cl_any s (by omega))
theorem v_ne {v : Int} (hv : v ≠ 11) : (v == 11) = false := beq_eq_false_iff_ne.2 hv
theorem young {v : Int} (hv : v ≠ 11) {l : List UInt8} (h1 : (M.bo false l).2 = false) : (M.bo (decide (v = 11)) l).2 = false := by rw [decide_eq_false hv]; exact h1
theorem tel_intN (v : Int) (hv : v ≠ 11) (s : ByteArray) (z : Int) (hs : s.size ≤ 990) (h0 : s.data.toList ∉ M.wN) (h1 : (M.bo false s.data.toList).2 = false) (hi : M.iv s.data.toList = some z) : Tel v s tInt (tx z) := by
  intro W hW
  have c1 := fun W (_ : Env W) => nint_yes s z W (by omega) hi
  exact plain_new env_next v s tInt (tx z) W hW (v_ne hv) (not_nil (by decide)) (now_any v s h0 (young hv h1))
    (fun W hW => ofNew_any env_next s (tx z) ⟨#[]⟩ ⟨#[]⟩ ⟨#[]⟩ 0 false true false W hW c1 (fun k => absurd k (by decide)) (fun k => absurd k (by decide)))
theorem nint_none (s : ByteArray) (hs : s.size ≤ 990) (hi : M.iv s.data.toList = none) : ∀ W, Env W → Calls Tryz.prog 26 #[.string s] W fun e w' => e = .returned (.tuple #[.string ⟨#[]⟩, .bool false]) ∧ Below W.heap.size W w' :=
  fun W _ => (nint_no s W (by omega) hi).mono fun e w' k => ⟨k.1, k.2 ▸ Below.refl _ _⟩
theorem tel_floN (v : Int) (hv : v ≠ 11) (s : ByteArray) (k : Int) (m : Bool) (D X : ByteArray) (hs : s.size ≤ 990) (h0 : s.data.toList ∉ M.wN) (h1 : (M.bo false s.data.toList).2 = false) (hi : M.iv s.data.toList = none) (hD : D.size ≤ 1000) (hX : X.size ≤ 1000)
    (c2 : ∀ W, Env W → Calls Tryz.prog 27 #[.string s] W fun e w' => e = .returned (.tuple #[dV k m D X, .bool true]) ∧ Below W.heap.size W w') : Tel v s tFloat (bA (M.out k m D.data.toList X.data.toList)) := by
  intro W hW
  have c1 := nint_none s hs hi
  exact plain_new env_next v s tFloat _ W hW (v_ne hv) (not_nil (by decide)) (now_any v s h0 (young hv h1))
    (fun W hW => ofNew_any env_next s ⟨#[]⟩ D X (bA (M.out k m D.data.toList X.data.toList)) k m false true W hW c1 (fun _ => c2) (fun _ _ W hW => print_any k m D X W hW.1 hD hX))
theorem tel_strN (v : Int) (hv : v ≠ 11) (s : ByteArray) (hs : s.size ≤ 990) (h0 : s.data.toList ∉ M.wN) (h1 : (M.bo false s.data.toList).2 = false) (hi : M.iv s.data.toList = none) (hn : s.data.toList ∉ M.nans) (hf : M.body s.data.toList ∉ M.infs) (hg : M.gl (M.body s.data.toList) ≠ 4) : Tel v s tStr s := by
  intro W hW
  have c1 := nint_none s hs hi
  have c2 : ∀ W, Env W → Calls Tryz.prog 27 #[.string s] W fun e w' => e = .returned (.tuple #[dZ, .bool false]) ∧ Below W.heap.size W w' := fun W _ => nflo_no s W (by omega) hn hf hg
  exact plain_newS env_next v s ⟨#[]⟩ ⟨#[]⟩ W hW (v_ne hv) (by decide) (now_any v s h0 (young hv h1))
    (fun W hW => ofNew_any env_next s ⟨#[]⟩ ⟨#[]⟩ ⟨#[]⟩ ⟨#[]⟩ 0 false false false W hW c1 (fun _ => c2) (fun _ k => absurd k (by decide))) (cl_any s (by omega))
end Go.Proofs.YtipgipgehnhgkaaGreatDoor
