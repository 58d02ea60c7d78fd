/- Small things that all walks of this seat use. Blocks of memory that hold what a text says, or a day. A scope of many labels. -/
import Derived.Test.YtoidlgopibnaaaaDoorSb
import Derived.Test.YtoidlgopibnaaaaDoorRows
import Derived.WalkKit
import Derived.WalkSpells
import Derived.WalkLawsBesides
import Derived.WalkMore
import Derived.Scope
import Derived.Deep.QuietTactic
import Derived.BigQuiet
import Derived.Lib.Hide
import Derived.Deep.Light
import Derived.LoopTactic
import Derived.Laws.Rows
import Derived.Laws.Tables
import Derived.Laws.CopyOwn
import Derived.Laws.ResultCell
import Derived.Deep.WholeRow
import Derived.IntWalk
import Derived.Deep.RegionHeld3
set_option linter.unusedVariables false
namespace Go
/-- As Q; by a goto to label l: J l. -/
def Exit.jumps (J : Nat → Act → World → Prop) (Q : Exit → Act → World → Prop) : Exit → Act → World → Prop
  | .goto l, a, w => J l a w
  | e, a, w => Q e a w
theorem wp_scope_labels {P : Program} {a : Act} {w : World} {Q : Exit → Act → World → Prop} {c : Code} (J : Nat → Act → World → Prop) (μ : Nat → Act → World → Nat)
    (first : c.wp P (Exit.jumps J Q) a w)
    (pass : ∀ l a w, J l a w → ∃ rest, findLabel c l = some rest ∧ rest.wp P (Exit.jumps (fun l' a' w' => J l' a' w' ∧ μ l' a' w' < μ l a w) Q) a w) : (Code.scope c).wp P Q a w := by
  intro b k cs
  have key : ∀ n l a w, μ l a w = n → J l a w → ∃ rest, findLabel c l = some rest ∧ ∃ e a' w', Q e a' w' ∧ Arrives P (lone (b.at a (.code rest :: .inScope c :: k)) cs w) b k cs e a' w' := by
    intro n
    induction n using Nat.strongRecOn with
    | _ n ih =>
      intro l a w hn hJ
      obtain ⟨rest, hf, hp⟩ := pass l a w hJ
      refine ⟨rest, hf, ?_⟩
      obtain ⟨e, a₁, w₁, hq, harr⟩ := hp b (.inScope c :: k) cs
      cases e with
      | normal => exact ⟨.normal, a₁, w₁, hq, Steps.trans harr (.one step_inScope)⟩
      | exit id => exact ⟨.exit id, a₁, w₁, hq, fun k' hk => harr k' (by simp [exitTo, hk])⟩
      | goto l' =>
        obtain ⟨hJ', hlt⟩ := hq
        obtain ⟨rest', hf', e₂, a₂, w₂, hq₂, harr₂⟩ := ih _ (by omega) l' a₁ w₁ rfl hJ'
        have hg : gotoIn l' (.inScope c :: k) = some (.code rest' :: .inScope c :: k) := by simp [gotoIn, hf']
        exact ⟨e₂, a₂, w₂, hq₂, .of_steps (harr _ hg) harr₂⟩
      | ret => exact ⟨_, a₁, w₁, hq, harr⟩
      | panic ch => exact ⟨_, a₁, w₁, hq, harr⟩
      | outgrown => exact ⟨_, a₁, w₁, hq, harr⟩
  obtain ⟨e, a₁, w₁, hq, harr⟩ := first b (.inScope c :: k) cs
  cases e with
  | normal => exact ⟨.normal, a₁, w₁, hq, .head step_scope (Steps.trans harr (.one step_inScope))⟩
  | exit id => exact ⟨.exit id, a₁, w₁, hq, fun k' hk => .head step_scope (harr k' (by simp [exitTo, hk]))⟩
  | goto l' =>
    obtain ⟨rest', hf', e₂, a₂, w₂, hq₂, harr₂⟩ := key _ l' a₁ w₁ rfl hq
    have hg : gotoIn l' (.inScope c :: k) = some (.code rest' :: .inScope c :: k) := by simp [gotoIn, hf']
    exact ⟨e₂, a₂, w₂, hq₂, .of_steps (.head step_scope (harr _ hg)) harr₂⟩
  | ret => exact ⟨_, a₁, w₁, hq, .of_steps (.one step_scope) harr⟩
  | panic ch => exact ⟨_, a₁, w₁, hq, .of_steps (.one step_scope) harr⟩
  | outgrown => exact ⟨_, a₁, w₁, hq, .of_steps (.one step_scope) harr⟩
theorem wp_scope_run {P : Program} {a : Act} {w : World} {Q : Exit → Act → World → Prop} {c : Code} (J : Nat → Act → World → Prop) (μ : Nat → Act → World → Nat)
    (pass : ∀ l a w, J l a w → ∃ rest, findLabel c l = some (.seq .skip rest) ∧ rest.wp P (Exit.jumps (fun l' a' w' => J l' a' w' ∧ μ l' a' w' < μ l a w) Q) a w)
    (first : (∀ l rest, findLabel c l = some (.seq .skip rest) → ∀ a w, J l a w → rest.wp P (Exit.jumps J Q) a w) → c.wp P (Exit.jumps J Q) a w) : (Code.scope c).wp P Q a w := by
  refine wp_scope_labels J μ (first fun l rest hf a w hJ => ?_) fun l a w hJ => by
    obtain ⟨rest, hf, hp⟩ := pass l a w hJ
    exact ⟨_, hf, wp_seq (wp_skip hp)⟩
  obtain ⟨rest', hf', hp⟩ := pass l a w hJ
  obtain rfl : rest' = rest := by
    have := Option.some.inj (hf'.symm.trans hf)
    exact (Code.seq.inj this).2
  intro b k cs
  obtain ⟨e, a', w', hq, ha⟩ := hp b k cs
  refine ⟨e, a', w', ?_, ha⟩
  cases e with
  | goto l' => exact hq.1
  | normal => exact hq
  | exit id => exact hq
  | ret => exact hq
  | panic ch => exact hq
  | outgrown => exact hq
end Go
namespace Go.Proofs.YtoidlgopibnaaaaDoor
open Go.RowKit
open Go

theorem takeH {P : Program} {md : Region.Mode} {ops : Array Oper} {Q : Exit → Act → World → Prop} {S : World → Prop} {i : Nat} {oi : Oper} {v : Value} {fuel : Nat} {listed : Array Bool} {a : Act} {w : World} (d : Option Tmp) (hd : oi.dst = d) (hi : ops[i]? = some oi)
    (hs : Region.noSelect ops = true) (hf : Region.free md ops listed i = true) (hr : (Region.ready md ops listed).contains i = true)
    (hQ : ∀ c a w, Q (.panic c) (a.put oi.dst v) w → Q (.panic c) a w) (hy : YieldsIf P ops S oi v a) (hS : S w)
    (h : wpAnyH P md ops Q S fuel (listed.setIfInBounds i true) (a.put d v) w) : wpAnyH P md ops Q S (fuel + 1) listed a w := by
  subst hd
  exact wpAnyH_take hi hs hf hr hQ hy hS h

/-- Ten slots of which nothing is known. -/
structure V10 where
  a : Value
  b : Value
  c : Value
  d : Value
  e : Value
  f : Value
  g : Value
  h : Value
  i : Value
  j : Value
theorem ret_int {k : IntKind} {a b : Int} (h : a = b) : Ending.returned (.int k a) = .returned (.int k b) := by rw [h]
theorem ret_bool {a b : Bool} (h : a = b) : Ending.returned (.bool a) = .returned (.bool b) := by rw [h]
theorem ret_str {a b : ByteArray} (h : a = b) : Ending.returned (.string a) = .returned (.string b) := by rw [h]
theorem sz_list (s : ByteArray) : s.size = s.data.toList.length := by cases s; simp [ByteArray.size]
theorem append_list (s t : ByteArray) : (s ++ t).data.toList = s.data.toList ++ t.data.toList := by simp
theorem append_sz (s t : ByteArray) : (s ++ t).size = s.size + t.size := by rw [sz_list, append_list, List.length_append, ← sz_list, ← sz_list]
def bA (l : List UInt8) : ByteArray := ⟨l.toArray⟩
theorem bA_size (l : List UInt8) : (bA l).size = l.length := by simp [bA, ByteArray.size]
theorem bA_toList (l : List UInt8) : (bA l).data.toList = l := by simp [bA]
theorem bA_of (s : ByteArray) : bA s.data.toList = s := by cases s; simp [bA]
theorem eq_bA {s : ByteArray} {l : List UInt8} (h : s.data.toList = l) : s = bA l := by rw [← h, bA_of]
theorem bA_append (l m : List UInt8) : bA l ++ bA m = bA (l ++ m) := by
  apply eq_bA; rw [append_list, bA_toList, bA_toList]
theorem bA_inj {l m : List UInt8} : bA l = bA m ↔ l = m := ⟨fun h => by rw [← bA_toList l, h, bA_toList], fun h => by rw [h]⟩
theorem get_list (s : ByteArray) (i : Nat) (h : i < s.size) : s.data.toList[i]? = some s[i] := by
  rw [List.getElem?_eq_getElem (by rw [← sz_list]; exact h)]; rfl
theorem take_snoc (s : ByteArray) (k : Nat) (h : k < s.size) : s.data.toList.take (k + 1) = s.data.toList.take k ++ [s[k]] := by
  rw [List.take_succ_eq_append_getElem (by simpa using h)]; rfl
theorem take_all (s : ByteArray) : s.data.toList.take s.size = s.data.toList := List.take_of_length_le (by rw [← sz_list]; exact Nat.le_refl _)
theorem drop_cons (s : ByteArray) (k : Nat) (h : k < s.size) : s.data.toList.drop k = s[k] :: s.data.toList.drop (k + 1) := by
  rw [List.drop_eq_getElem_cons (by rw [← sz_list]; exact h)]; rfl
theorem drop_nil (s : ByteArray) (k : Nat) (h : s.size ≤ k) : s.data.toList.drop k = [] := List.drop_of_length_le (by rw [← sz_list]; exact h)
theorem below_dN {B : Nat} {a w : World} (h : Below B a w) (n : Nat) : Below B a (w.drewN n) := h.trans ⟨rfl, rfl, rfl, Nat.le_refl _, fun _ _ => rfl⟩
def intOf : Value → Int | .int _ q => q | _ => 0
theorem neC {c : UInt8} {k : Nat} (hk : k < 256) (h : ¬ c = UInt8.ofNat k) : ((c.toNat : Int) == (k : Int)) = false := by
  refine beq_eq_false_iff_ne.2 fun e => h (UInt8.toNat_inj.1 ?_)
  have : c.toNat = k := by omega
  rw [this]; simp; omega

/-- The cells of what a text says, the year a whole number. -/
def vcs (y : Int) (X : M.Mo) : Array Value := #[.int .i64 y, .int .i64 X.m, .int .i64 X.d, .bool X.td, .int .i64 X.h, .int .i64 X.mi, .int .i64 X.se, .string (bA X.fr), .bool X.bh, .int .i64 X.zh, .int .i64 X.zm]
/-- The cells of a day. -/
def dcs (y m d : Int) : Array Value := #[.int .i64 y, .int .i64 m, .int .i64 d]
def mcs (X : M.Mo) : Array Value := vcs X.y X
theorem vcs_size (y : Int) (X : M.Mo) : (vcs y X).size = 11 := rfl
theorem vcs_one (y : Int) (X : M.Mo) : (vcs y X).all (·.oneCell') = true := by simp [vcs, Value.oneCell']
/-- The block g holds what a text says. -/
def VB (w : World) (g : Nat) (y : Int) (X : M.Mo) : Prop := w.heap[g]? = some (.cells (vcs y X) 42 (0, 0))
def MB (w : World) (g : Nat) (X : M.Mo) : Prop := VB w g X.y X
/-- The block g holds something such. -/
def AB (w : World) (g : Nat) : Prop := ∃ y X, VB w g y X
theorem info_mo : (Tryd.prog.info? 42).map (·.size) = some 11 := by kernel_rfl
theorem info_da : (Tryd.prog.info? 40).map (·.size) = some 3 := by kernel_rfl
theorem VB.lt {w : World} {g : Nat} {y : Int} {X : M.Mo} (h : VB w g y X) : g < w.heap.size := (Array.getElem?_eq_some_iff.1 h).1
theorem VB.below {w w' : World} {g B : Nat} {y : Int} {X : M.Mo} (h : VB w g y X) (hb : Below B w w') (hg : g < B) : VB w' g y X := (hb.block g hg).trans h
theorem VB.next {w w' : World} {g : Nat} {y : Int} {X : M.Mo} (h : VB w g y X) (hb : Below w.heap.size w w') : VB w' g y X := h.below hb h.lt
theorem VB.any {w : World} {g : Nat} {y : Int} {X : M.Mo} (h : VB w g y X) : AB w g := ⟨y, X, h⟩
theorem VB.cells {w : World} {g : Nat} {y : Int} {X : M.Mo} (h : VB w g y X) :
    w.cell? ⟨g, 0, none⟩ = some (.int .i64 y) ∧ w.cell? ⟨g, 1, none⟩ = some (.int .i64 X.m) ∧ w.cell? ⟨g, 2, none⟩ = some (.int .i64 X.d) ∧ w.cell? ⟨g, 3, none⟩ = some (.bool X.td) ∧
    w.cell? ⟨g, 4, none⟩ = some (.int .i64 X.h) ∧ w.cell? ⟨g, 5, none⟩ = some (.int .i64 X.mi) ∧ w.cell? ⟨g, 6, none⟩ = some (.int .i64 X.se) ∧ w.cell? ⟨g, 7, none⟩ = some (.string (bA X.fr)) ∧
    w.cell? ⟨g, 8, none⟩ = some (.bool X.bh) ∧ w.cell? ⟨g, 9, none⟩ = some (.int .i64 X.zh) ∧ w.cell? ⟨g, 10, none⟩ = some (.int .i64 X.zm) := by
  unfold VB at h
  refine ⟨?_, ?_, ?_, ?_, ?_, ?_, ?_, ?_, ?_, ?_, ?_⟩ <;> simp [World.cell?, h, vcs]
theorem VB.frozen {w : World} {g : Nat} {y : Int} {X : M.Mo} (h : VB w g y X) (j : Nat) : w.frozen? ⟨g, j, none⟩ = false := frozen_of_row w g j _ 42 h
theorem VB.put {w : World} {g : Nat} {y y' : Int} {X N : M.Mo} (h : VB w g y X) (j : Nat) (v : Value) (e : (vcs y X).setIfInBounds j v = vcs y' N) : VB (w.setCell ⟨g, j, none⟩ v) g y' N := by
  unfold VB at h ⊢
  rw [Go.heap_setCell_same w g j _ 42 v h, e]
theorem VB.row {w : World} {g : Nat} {y : Int} {X : M.Mo} (h : VB w g y X) (y' : Int) (N : M.Mo) : VB (w.setRow g (vcs y' N)) g y' N := setRow_heap w g _ _ 42 (0, 0) h
theorem MB.cells {w : World} {g : Nat} {X : M.Mo} (h : MB w g X) :
    w.cell? ⟨g, 0, none⟩ = some (.int .i64 X.y) ∧ w.cell? ⟨g, 1, none⟩ = some (.int .i64 X.m) ∧ w.cell? ⟨g, 2, none⟩ = some (.int .i64 X.d) ∧ w.cell? ⟨g, 3, none⟩ = some (.bool X.td) ∧
    w.cell? ⟨g, 4, none⟩ = some (.int .i64 X.h) ∧ w.cell? ⟨g, 5, none⟩ = some (.int .i64 X.mi) ∧ w.cell? ⟨g, 6, none⟩ = some (.int .i64 X.se) ∧ w.cell? ⟨g, 7, none⟩ = some (.string (bA X.fr)) ∧
    w.cell? ⟨g, 8, none⟩ = some (.bool X.bh) ∧ w.cell? ⟨g, 9, none⟩ = some (.int .i64 X.zh) ∧ w.cell? ⟨g, 10, none⟩ = some (.int .i64 X.zm) := VB.cells h
theorem MB.next {w w' : World} {g : Nat} {X : M.Mo} (h : MB w g X) (hb : Below w.heap.size w w') : MB w' g X := VB.next h hb
theorem MB.lt {w : World} {g : Nat} {X : M.Mo} (h : MB w g X) : g < w.heap.size := VB.lt h
theorem AB.next {w w' : World} {g : Nat} (h : AB w g) (hb : Below w.heap.size w w') : AB w' g := h.elim fun y h => h.elim fun X h => ⟨y, X, h.next hb⟩
theorem AB.lt {w : World} {g : Nat} (h : AB w g) : g < w.heap.size := h.elim fun y h => h.elim fun X h => h.lt
theorem VB.other {w : World} {g k : Nat} {y : Int} {X : M.Mo} (h : VB w g y X) (hk : k ≠ g) (j : Nat) (v : Value) : VB (w.setCell ⟨k, j, none⟩ v) g y X := by
  unfold VB at h ⊢
  rw [← h]
  exact Go.heap_setCell_other w ⟨k, j, none⟩ g v (fun e => hk e.symm)
theorem VB.otherRow {w : World} {g k : Nat} {y : Int} {X : M.Mo} (h : VB w g y X) (hk : k ≠ g) (cs : Array Value) : VB (w.setRow k cs) g y X := by
  unfold VB at h ⊢
  rw [← h]
  simp only [World.setRow]
  rw [Array.getElem?_modify, if_neg hk]
theorem ret_mo {fn : Func} {p u : Tmp} {g : Nat} {b : Bool} {y : Int} {X : M.Mo} {w : World} (h : fn.results = #[.cell p 42, .tmp u]) (tmps : Array Value) (hp : tmps.getD p undef = .pointer (some ⟨g, 0, none⟩)) (hu : tmps.getD u undef = .bool b)
    (hB : VB w g y X) : (results fn tmps).run Tryd.prog w = .ok (.tuple #[.agg (vcs y X), .bool b]) w := by
  rw [results_cell_tmp h, hp, hu]
  have := run_loadVar_row (P := Tryd.prog) w g 42 42 (vcs y X) (0, 0) _ hB Tryd.underlying42 rfl (by rw [info_mo]; rfl)
  simp [asAddr, Result.andThen, this]
end Go.Proofs.YtoidlgopibnaaaaDoor
