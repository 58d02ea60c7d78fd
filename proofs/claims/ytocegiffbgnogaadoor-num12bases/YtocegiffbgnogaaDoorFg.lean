/- Walks: ReplaceAll, Cut and IndexAny off the shelf; worth, sixties, power. -/
import Derived.Test.YtocegiffbgnogaaDoorFf
import Derived.Test.YtocegiffbgnogaaDoorWo
import Derived.Test.YtocegiffbgnogaaDoorYa
set_option linter.unusedVariables false
namespace Go.Proofs.YtocegiffbgnogaaDoor
open Go.RowKit

/-- What the walks ask of the world: the table of powers of ten, and that the library's variable MaxLen holds some number. -/
def Env (w : World) : Prop := Tab w ∧ ∃ m, w.cell? ⟨0, 0, none⟩ = some (.int .i64 m)
theorem cell_lt {w : World} {v : Value} (h : w.cell? ⟨0, 0, none⟩ = some v) : 0 < w.heap.size := by
  rcases Nat.eq_zero_or_pos w.heap.size with h0 | h0
  · have : w.heap[0]? = none := Array.getElem?_eq_none (by omega)
    simp [World.cell?, this] at h
  · exact h0
theorem Env.next {w w' : World} (h : Env w) (hb : Below w.heap.size w w') : Env w' := by
  obtain ⟨h1, m, hm⟩ := h
  exact ⟨h1.next hb, m, (hb.cell (p := ⟨0, 0, none⟩) (cell_lt hm)).trans hm⟩
theorem env_new {w : World} (h : Env w) (o : Obj) : Env (w.alloc o) := h.next ((Below.refl w.heap.size w).alloc (Nat.le_refl _) o)


theorem cut58_any (l P r : List UInt8) (b : Bool) (w : World) (he : Env w) (hs : l.length ≤ 1000) (hc : Lib.cut l [58] = (P, r, b)) :
    Calls Tryd.prog 25 #[.string (bA l), .string ⟨#[58]⟩] w fun e w' => e = .returned (.tuple #[.string (bA P), .string (bA r), .bool b]) ∧ Below w.heap.size w w' := by
  obtain ⟨_, m, hm⟩ := he
  have h := Any.strings_Cut Tryd.lays145 (bA l) ⟨#[58]⟩ m w (by rw [bA_size]; omega) hm
  refine h.mono ?_
  rintro e w' ⟨rfl, n, rfl⟩
  refine ⟨?_, below_dN (Below.refl _ _) n⟩
  rw [bA_toList]
  show Ending.returned (.tuple #[.string (bA (Lib.cut l [58]).1), .string (bA (Lib.cut l [58]).2.1), .bool (Lib.cut l [58]).2.2]) = _
  rw [hc]

theorem dec_tx (D : List UInt8) (hd : M.okD 10 D = true) (h48 : D.head? ≠ some 48) : bA D = tx (M.val 10 D : Nat) := by
  obtain ⟨_, h⟩ := M.dg_of D hd ⟨((M.okD_iff _ _).1 hd).1, h48⟩
  unfold tx
  rw [M.txt_nat, ← h]
theorem txt_le {a T E : Nat} (h : a ≤ T) (hT : T < 10 ^ E) (hE : 0 < E) : (M.txt (a : Int)).length ≤ E + 1 := by
  refine M.txt_len _ E hE ?_
  show a < _
  omega
/-- What holds ahead of each round of sixties. -/
def SRel (w : World) (T a m k : Nat) (R : List UInt8) (wr : World) : Prop :=
  (R = [] ∨ M.fS 1 R = 6) ∧ M.rd (a * m + k) R = T ∧ Below w.heap.size w wr
theorem mk_step {a m k v : Nat} : (a * m + k) * 60 + v = a * (m * 60) + (k * 60 + v) := by
  rw [Nat.add_mul, Nat.mul_assoc, Nat.add_assoc]
theorem cut46_any (l P r : List UInt8) (b : Bool) (w : World) (he : Env w) (hs : l.length ≤ 1000) (hc : Lib.cut l [46] = (P, r, b)) :
    Calls Tryd.prog 25 #[.string (bA l), .string ⟨#[46]⟩] w fun e w' => e = .returned (.tuple #[.string (bA P), .string (bA r), .bool b]) ∧ Below w.heap.size w w' := by
  obtain ⟨_, m, hm⟩ := he
  have h := Any.strings_Cut Tryd.lays145 (bA l) ⟨#[46]⟩ m w (by rw [bA_size]; omega) hm
  refine h.mono ?_
  rintro e w' ⟨rfl, n, rfl⟩
  refine ⟨?_, below_dN (Below.refl _ _) n⟩
  rw [bA_toList]
  show Ending.returned (.tuple #[.string (bA (Lib.cut l [46]).1), .string (bA (Lib.cut l [46]).2.1), .bool (Lib.cut l [46]).2.2]) = _
  rw [hc]
theorem anyE_no (l : List UInt8) (h : ∀ c ∈ l, c ≠ 101 ∧ c ≠ 69) : Lib.indexAny l [101, 69] = -1 := by
  induction l with
  | nil => rfl
  | cons b l ih =>
    have hb := h b (by simp)
    unfold Lib.indexAny
    rw [if_neg (by simp [hb.1, hb.2]), ih (fun c hc => h c (by simp [hc]))]
    rfl
theorem anyE_yes (Q r : List UInt8) (e : UInt8) (he : e = 101 ∨ e = 69) (h : ∀ c ∈ Q, c ≠ 101 ∧ c ≠ 69) : Lib.indexAny (Q ++ e :: r) [101, 69] = (Q.length : Nat) := by
  induction Q with
  | nil => rw [List.nil_append]; unfold Lib.indexAny; rw [if_pos (by simpa using he)]; rfl
  | cons b l ih =>
    have hb := h b (by simp)
    rw [List.cons_append]
    unfold Lib.indexAny
    rw [if_neg (by simp [hb.1, hb.2]), ih (fun c hc => h c (by simp [hc])), if_neg (by simp)]
    simp
theorem anyE_any (l : List UInt8) (w : World) (hs : l.length ≤ 1000) (h : ∀ c ∈ l, c.toNat < 128) :
    Calls Tryd.prog 47 #[.string (bA l), .string ⟨#[101, 69]⟩] w fun e w' => e = .returned (.int .i64 (Lib.indexAny l [101, 69])) ∧ Below w.heap.size w w' := by
  have := Any.strings_IndexAny_laid Tryd.lays153 (by kernel_rfl) (bA l) ⟨#[101, 69]⟩ w (by rw [bA_size]; omega) (by decide) (fun j b hj => h b (by rw [bA_toList] at hj; exact List.mem_of_getElem? hj)) (fun j b hj => by
    match j, hj with
    | 0, hj => simp at hj; subst hj; decide
    | 1, hj => simp at hj; subst hj; decide
    | n + 2, hj => simp at hj)
  rw [bA_toList] at this
  exact this
end Go.Proofs.YtocegiffbgnogaaDoor
