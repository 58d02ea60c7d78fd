/- Walks: TagAlone. -/
import Derived.Test.YtcahleaaicebbaaWg
import Derived.Test.YtcahleaaicebbaaWh
import Derived.Test.YtcahleaaicebbaaWi
set_option linter.unusedVariables false
namespace Go.Proofs.Ytcahleaaicebbaa
open Go.RowKit

def gA : List UInt8 := [95, 46, 126, 42, 39, 40, 41, 59, 47, 63, 58, 64, 38, 61, 43, 36, 35, 37]
theorem gA_all : gA.all M.isS = true := by decide +kernel
theorem gA_no : gA.all (fun c => !M.isW c) = true := by decide +kernel
theorem ex_alone (x p : List UInt8) (hs : HL) : M.ex ⟨false, [33], x⟩ (hs ++ [([33], p)]) = if x = [] then ([33], true) else (p ++ x, true) := by
  unfold M.ex
  rw [if_neg (by simp)]
  by_cases h : x = []
  · rw [if_pos ⟨rfl, h⟩, if_pos h]
  · rw [if_neg (fun e => h e.2), if_neg h, M.lk_snoc, if_pos rfl]
theorem ex_other (x p : List UInt8) : M.ex ⟨false, [33], x⟩ [([33, 33], p)] = if x = [] then ([33], true) else ([33] ++ x, true) := by
  unfold M.ex
  rw [if_neg (by simp)]
  by_cases h : x = []
  · rw [if_pos ⟨rfl, h⟩, if_pos h]
  · rw [if_neg (fun e => h e.2), if_neg h]
    show (match M.lk ([] ++ [([33, 33], p)]) [33] with | some p => (p ++ x, true) | none => ([], false)) = _
    rw [M.lk_snoc, if_neg (by simp)]; rfl
theorem inH_one (w : World) (n p : List UInt8) : InH (w.alloc (.cells #[.string (bA n), .string (bA p)] 39)) (some ⟨w.heap.size, 0, none⟩) [(n, p)] := by
  intro _
  have hn := heap_alloc_new w (.cells #[.string (bA n), .string (bA p)] 39)
  refine ⟨w.heap.size, 0, rfl, fun j hj => ?_, (Array.getElem?_eq_some_iff.1 hn).1⟩
  simp only [World.cell?, hn]
  match j, hj with
  | 0, _ => exact ⟨rfl, rfl⟩

set_option maxRecDepth 100000 in
set_option maxHeartbeats 1000000 in
theorem alone_long (s : ByteArray) (a : Option Addr) (n cap : Nat) (f : ByteArray) (w : World) (hs : s.size ≤ 281474976710656) (hn : n ≤ 281474976710656) (h : 30 < s.size ∨ s.size ≤ 30 ∧ 30 < n) :
    Calls Try.prog 6 #[.string s, .slice a n cap, .string f] w fun e w' => e = .returned (.bool true) ∧ Below w.heap.size w w' := by
  have c0 := fun W => known_any W
  rcases h with h1 | ⟨h1, h2⟩
  · have d1 : decide ((30 : Int) < (s.size : Int)) = true := decide_eq_true (by omega)
    have d2 : decide (30 < s.size) = true := decide_eq_true h1
    go_enter Try.func6, Try.ntmps6
    go_wp2_with fail
    refine (c0 _).mono ?_
    rintro r w1 ⟨rfl, hb1⟩
    clear c0
    go_wp2
    go_ret
    exact ⟨rfl, hb1⟩
  · have d1 : decide ((30 : Int) < (s.size : Int)) = false := decide_eq_false (by omega)
    have d2 : decide (30 < s.size) = false := decide_eq_false (by omega)
    have d3 : decide ((30 : Int) < (n : Int)) = true := decide_eq_true (by omega)
    have d4 : decide (30 < n) = true := decide_eq_true h2
    go_enter Try.func6, Try.ntmps6
    go_wp2_with fail
    refine (c0 _).mono ?_
    rintro r w1 ⟨rfl, hb1⟩
    clear c0
    go_wp2
    go_ret
    exact ⟨rfl, hb1⟩
set_option maxRecDepth 100000 in
set_option maxHeartbeats 2000000 in
theorem alone_core (s : ByteArray) (a : Option Addr) (cap : Nat) (hs : HL) (PX : ByteArray) (w : World) (hs1 : s.size ≤ 30) (hs2 : hs.length ≤ 30) (hf : PX.size ≤ 140737488355328) (hok : HsOk hs) (hin : InH w a hs) :
    Calls Try.prog 6 #[.string s, .slice a hs.length cap, .string PX] w fun e w' => e = .returned (.bool true) ∧ Below w.heap.size w w' := by
  have c0 := fun W => known_any W
  have d1 : decide ((30 : Int) < (s.size : Int)) = false := decide_eq_false (by omega)
  have d2 : decide (30 < s.size) = false := decide_eq_false (by omega)
  have d3 : decide ((30 : Int) < (hs.length : Int)) = false := decide_eq_false (by omega)
  have d4 : decide (30 < hs.length) = false := decide_eq_false (by omega)
  have c1 : ∀ W, Calls Try.prog 17 #[.string s, .string ⟨#[95, 46, 126, 42, 39, 40, 41, 59, 47, 63, 58, 64, 38, 61, 43, 36, 35, 37]⟩] W fun e w' => e = .returned (.string (bA (M.tg gA s.data.toList))) ∧ Below W.heap.size W w' := fun W => tg_any s gA W (by omega) (by decide) (by decide)
  have hx1 := M.tg_all M.isS gA s.data.toList gA_all (by decide)
  have hx3 := M.tg_all (fun c => !M.isW c) gA s.data.toList gA_no (by decide)
  have hx2 := M.tg_len gA s.data.toList
  rw [← sz_list] at hx2
  generalize M.tg gA s.data.toList = xl at *
  have hrd := M.rd_alone xl hx1 hx3
  have hP1 : (⟨#[33]⟩ : ByteArray) ++ bA xl = bA (33 :: xl) := by apply eq_bA; rw [append_list, bA_toList]; rfl
  have c3 : ∀ W, Calls Try.prog 9 #[.string ((⟨#[33]⟩ : ByteArray) ++ bA xl), .int .i64 0] W fun e w' => e = .returned (.tuple #[tV false ⟨#[33]⟩ (bA xl), .int .i64 (1 + ((bA xl).size : Int)), .bool true]) ∧ Below W.heap.size W w' := fun W => by
    have c := rd_any (bA (33 :: xl)) ((0 : Nat) : Int) W (by rw [bA_size]; simp; omega)
    rw [bA_toList, M.rdI_at _ _ rfl, hrd, rdV_mk] at c
    rw [hP1]
    refine c.mono ?_
    rintro e w' ⟨rfl, hb⟩
    refine ⟨?_, hb⟩
    rw [bA_size]; rfl
  have hok2 : HsOk (hs ++ [([33], PX.data.toList)]) := by
    intro h hh
    rw [List.mem_append] at hh
    rcases hh with hh | hh
    · exact hok h hh
    · rw [List.mem_singleton.1 hh]; exact ⟨by simp, by rw [← sz_list]; exact hf⟩
  have hok3 : HsOk [([33, 33], PX.data.toList)] := by
    intro h hh
    rw [List.mem_singleton.1 hh]; exact ⟨by simp, by rw [← sz_list]; exact hf⟩
  obtain ⟨R1, hR1, hF1, hG1⟩ : ∃ R : ByteArray, exV (if xl = [] then ([33], true) else (PX.data.toList ++ xl, true)) = .tuple #[.string R, .bool true] ∧ (xl = [] → R = ⟨#[33]⟩) ∧ (xl ≠ [] → R = PX ++ bA xl) := by
    by_cases h : xl = []
    · rw [if_pos h]; exact ⟨_, rfl, fun _ => rfl, fun e => absurd h e⟩
    · rw [if_neg h]; exact ⟨_, rfl, fun e => absurd e h, fun _ => by rw [← bA_append, bA_of]⟩
  obtain ⟨R2, hR2, hF2, hG2⟩ : ∃ R : ByteArray, exV (if xl = [] then ([33], true) else ([33] ++ xl, true)) = .tuple #[.string R, .bool true] ∧ (xl = [] → R = ⟨#[33]⟩) ∧ (xl ≠ [] → R = (⟨#[33]⟩ : ByteArray) ++ bA xl) := by
    by_cases h : xl = []
    · rw [if_pos h]; exact ⟨_, rfl, fun _ => rfl, fun e => absurd h e⟩
    · rw [if_neg h]; exact ⟨_, rfl, fun e => absurd e h, fun _ => by rw [← bA_append]; rfl⟩
  have c4 : ∀ W a cap, InH W a (hs ++ [([33], PX.data.toList)]) → Calls Try.prog 11 #[tV false ⟨#[33]⟩ (bA xl), .slice a (List.length hs + 1) cap] W fun e w' => e = .returned (.tuple #[.string R1, .bool true]) ∧ Below W.heap.size W w' := fun W a cap hW => by
    have c := exp_any ⟨false, [33], xl⟩ a cap _ W (by rw [List.length_append]; show hs.length + 1 ≤ _; omega) hok2 hW (by simp) (by show xl.length ≤ _; omega)
    rw [ex_alone, List.length_append, hR1] at c
    exact c
  have c5 : ∀ W a, InH W a [([33, 33], PX.data.toList)] → Calls Try.prog 11 #[tV false ⟨#[33]⟩ (bA xl), .slice a 1 1] W fun e w' => e = .returned (.tuple #[.string R2, .bool true]) ∧ Below W.heap.size W w' := fun W a hW => by
    have c := exp_any ⟨false, [33], xl⟩ a 1 _ W (by simp) hok3 hW (by simp) (by show xl.length ≤ _; omega)
    rw [ex_other, hR2] at c
    exact c
  have sX : (bA xl).size ≤ 30 := by rw [bA_size]; omega
  have s1 : (⟨#[33]⟩ : ByteArray).size = 1 := rfl
  have sP1 : ((⟨#[33]⟩ : ByteArray) ++ bA xl).size ≤ 31 := by rw [append_sz]; show 1 + _ ≤ _; omega
  have he := neT false ⟨#[33]⟩ (bA xl)
  have heg := eqG .neq
  have HIN := Lib.hid (fun W (h : Below w.heap.size w W) => hin.next h)
  have hlit : ∀ W : World, InH (W.alloc (.cells #[.string ⟨#[33]⟩, .string PX] 39)) (some ⟨W.heap.size, 0, none⟩) [([33], PX.data.toList)] := fun W => by
    have i := inH_one W [33] PX.data.toList
    rw [bA_of] at i; exact i
  have hlitd : ∀ W : World, InH (W.alloc (.cells #[.string ⟨#[33]⟩, .string PX] 39)).drew (some ⟨W.heap.size, 0, none⟩) [([33], PX.data.toList)] := fun W => hlit W
  have HLIT := Lib.hid hlit
  have HLID := Lib.hid hlitd
  clear hlit hlitd
  have HLI2 := Lib.hid (fun W : World => by have i := inH_one W [33, 33] PX.data.toList; rw [bA_of] at i; exact i)
  generalize hE1 : (⟨#[33]⟩ : ByteArray) ++ bA xl = P1 at *
  clear hP1 hrd hx1 hx3 hin hok hok2 hok3
  have qE := eq_list xl []
  have qE2 := emp_list xl
  have HF := Lib.hid (And.intro hF1 (And.intro hG1 (And.intro hF2 hG2)))
  have HQ := Lib.hid (And.intro qE qE2)
  clear hR1 hR2 hF1 hG1 hF2 hG2 qE qE2
  go_enter Try.func6, Try.ntmps6
  go_wp2_with fail
  refine (c0 _).mono ?_
  rintro r w1 ⟨rfl, hb1⟩
  clear c0
  go_wp2_with fail
  refine (c1 _).mono ?_
  rintro r w2 ⟨rfl, hb2⟩
  replace hb1 := hb1.trans (hb2.mono hb1.size)
  clear c1 hb2
  go_wp2_with fail
  refine (c3 _).mono ?_
  rintro r w4 ⟨rfl, hb4⟩
  have sz4 := Nat.le_trans hb1.size hb4.size
  replace hb1 := ((hb1.trans (hb4.mono hb1.size)).alloc sz4 (.cells #[.bool false, .string ⟨#[33]⟩, .string (bA xl)] 23))
  have K := Blk.made w4 false ⟨#[33]⟩ (bA xl)
  clear c3 hb4 sz4
  obtain ⟨k0, k1, k2⟩ := K.cells
  go_wp2_with fail
  obtain ⟨W0, hW0⟩ : ∃ W0, w4.alloc (.cells #[.bool false, .string ⟨#[33]⟩, .string (bA xl)] 23) = W0 := ⟨_, rfl⟩
  obtain ⟨g, hg⟩ : ∃ g, w4.heap.size = g := ⟨_, rfl⟩
  rw [hW0] at K hb1 ⊢
  rw [hg] at K ⊢
  clear hW0 hg
  replace hb1 := hb1.drew
  have kb := fun o => (K.next ((Below.refl _ _).alloc (Nat.le_refl _) o)).cells
  have kb0 := fun o => (kb o).1
  have kb1 := fun o => (kb o).2.1
  have kb2 := fun o => (kb o).2.2
  clear kb
  replace K : Blk W0.drew g false ⟨#[33]⟩ (bA xl) := K
  have KL := K.lt
  have hB0 := hb1.size
  clear k0 k1 k2
  obtain ⟨k0, k1, k2⟩ := K.cells; have ka := fun o => (K.next ((Below.refl _ _).alloc (Nat.le_refl _) o)).cells; have ka0 := fun o => (ka o).1; have ka1 := fun o => (ka o).2.1; have ka2 := fun o => (ka o).2.2; clear ka
  go_region_law (first
    | (refine step_app rfl (.const (.slice none 0 0)) (.tmp 51) rfl _ (.slice none 0 0) [] hs rfl (OwnH.nil _ _) a cap _ rfl rfl (HIN.out _ (by first | exact hb1 | exact hb1.alloc hb1.size _)) (by show 0 + List.length hs ≤ 100000; omega) (Nat.le_refl _) ?_; intro v1 w5 hO1 hA; (first | (replace K := K.next hA) | (replace K := (K.next ((Below.refl _ _).alloc (Nat.le_refl _) (.cells #[.string ⟨#[33]⟩, .string PX] 39))).next hA)); (first | (replace hb1 := hb1.trans (hA.mono hb1.size)) | (replace hb1 := (fun h => Below.trans h (hA.mono h.size)) (hb1.alloc hb1.size (.cells #[.string ⟨#[33]⟩, .string PX] 39)))); clear k0 k1 k2; obtain ⟨k0, k1, k2⟩ := K.cells; have ka := fun o => (K.next ((Below.refl _ _).alloc (Nat.le_refl _) o)).cells; have ka0 := fun o => (ka o).1; have ka1 := fun o => (ka o).2.1; have ka2 := fun o => (ka o).2.2; clear ka)
    | (refine step_app rfl (.tmp 52) (.tmp 55) rfl _ v1 hs [([33], PX.data.toList)] rfl (by first | exact hO1 | exact hO1.next ((Below.refl _ _).alloc (Nat.le_refl _) _)) (some ⟨_, 0, none⟩) 1 1 rfl rfl (by first | exact HLIT.out _ | exact (HLIT.out _).next hA | exact (HLID.out _).next hA) (by show List.length hs + 1 ≤ 100000; omega) (by first | exact hA.size | exact Nat.le_trans hA.size (by simp)) ?_; intro v2 w6 hO2 hA2; (first | (replace K := K.below hA2 (by first | exact KL | exact Nat.lt_of_lt_of_le KL (by simp))) | (replace K := (K.next ((Below.refl _ _).alloc (Nat.le_refl _) (.cells #[.string ⟨#[33]⟩, .string PX] 39))).below hA2 (by first | exact KL | exact Nat.lt_of_lt_of_le KL (by simp)))); obtain ⟨a2, cap2, rfl, hin2⟩ := hO2.inH; obtain ⟨m0, m1, m2⟩ := K.cells; (first | (replace hb1 := hb1.trans (hA2.mono (Nat.le_trans hB0 (by first | exact Nat.le_refl _ | simp)))) | (replace hb1 := (fun h => Below.trans h (hA2.mono (Nat.le_trans hB0 (by first | exact Nat.le_refl _ | simp)))) (hb1.alloc hb1.size (.cells #[.string ⟨#[33]⟩, .string PX] 39)))))
    | (go_simp; go_at_call 11; refine (c4 _ a2 cap2 hin2).mono ?_; rintro r w7 ⟨rfl, hb7⟩; replace K := K.next hb7; have hb7' := hb7))
  all_goals
    replace hb1 := hb1.trans (hb7.mono hb1.size)
    obtain ⟨k0, k1, k2⟩ := K.cells
    clear c4 ka0 ka1 ka2
    go_wp2_with fail
    refine (c5 _ _ (HLI2.out _)).mono ?_
    rintro r w8 ⟨rfl, hb8⟩
    replace hb1 := hb1.alloc hb1.size (.cells #[.string ⟨#[33, 33]⟩, .string PX] 39)
    replace hb1 := hb1.trans (hb8.mono hb1.size)
    clear c5 hb8
    obtain ⟨qE, qE2⟩ := HQ.out
    obtain ⟨hF1, hG1, hF2, hG2⟩ := HF.out
    by_cases hxl : xl = []
    · have e1 := hF1 hxl
      have e2 := hF2 hxl
      subst e1 e2
      rw [decide_eq_true hxl] at qE qE2
      clear hF1 hG1 hF2 hG2 hxl
      go_wp2
      go_ret
      exact ⟨rfl, hb1⟩
    · have e1 := hG1 hxl
      have e2 := hG2 hxl
      rw [decide_eq_false hxl] at qE qE2
      have sl : (PX ++ bA xl).size ≤ 140737488355400 := by rw [append_sz]; omega
      clear hF1 hG1 hF2 hG2 hxl
      subst e1 e2
      go_wp2
      go_ret
      exact ⟨rfl, hb1⟩
theorem alone_any (s : ByteArray) (a : Option Addr) (cap : Nat) (hs : HL) (PX : ByteArray) (w : World) (hss : s.size ≤ 281474976710656) (hsl : hs.length ≤ 281474976710656) (hf : PX.size ≤ 140737488355328) (hok : HsOk hs) (hin : InH w a hs) :
    Calls Try.prog 6 #[.string s, .slice a hs.length cap, .string PX] w fun e w' => e = .returned (.bool true) ∧ Below w.heap.size w w' := by
  by_cases h1 : s.size ≤ 30
  · by_cases h2 : hs.length ≤ 30
    · exact alone_core s a cap hs PX w h1 h2 hf hok hin
    · exact alone_long s a _ cap PX w hss hsl (Or.inr ⟨h1, by omega⟩)
  · exact alone_long s a _ cap PX w hss hsl (Or.inl (by omega))
end Go.Proofs.Ytcahleaaicebbaa
