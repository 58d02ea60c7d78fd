/- Walks: TagShort. -/
import Derived.Test.YtcahleaaicebbaaWg
import Derived.Test.YtcahleaaicebbaaWh
set_option linter.unusedVariables false
namespace Go.Proofs.Ytcahleaaicebbaa
open Go.RowKit

def gW : List UInt8 := [97, 98, 122, 65, 90, 48, 57, 45]
def gS : List UInt8 := [97, 122, 48, 57, 45, 95, 46, 126, 42, 39, 40, 41, 59, 47, 63, 58, 64, 38, 61, 43, 36, 35, 37]
def stops : List UInt8 := [32, 44, 93, 33, 123, 10]
theorem gW_all : gW.all M.isW = true := by decide +kernel
theorem gS_all : gS.all M.isS = true := by decide +kernel
theorem stops_no : ∀ q, q < 6 → M.isS (stops.getD q 0) = false := by decide +kernel
def stopCells : Array Value := #[.string ⟨#[32]⟩, .string ⟨#[44]⟩, .string ⟨#[93]⟩, .string ⟨#[33]⟩, .string ⟨#[123]⟩, .string ⟨#[10]⟩]
theorem stop_cell (q : Nat) (hq : q < 6) : stopCells[q]? = some (.string (bA [stops.getD q 0])) := by
  match q, hq with
  | 0, _ => rfl
  | 1, _ => rfl
  | 2, _ => rfl
  | 3, _ => rfl
  | 4, _ => rfl
  | 5, _ => rfl

theorem lk_four (H N f n l m : List UInt8) (h : H ≠ [33]) : M.lk [(H, f), (N, n), (H, l), ([33], m)] H = some l := by
  show M.lk ([(H, f), (N, n), (H, l)] ++ [([33], m)]) H = _
  rw [M.lk_snoc, if_neg (fun e => h e.symm)]
  show M.lk ([(H, f), (N, n)] ++ [(H, l)]) H = _
  rw [M.lk_snoc, if_pos rfl]
theorem ex_four (H x N f n l m : List UInt8) (h : H ≠ [33]) : M.ex ⟨false, H, x⟩ [(H, f), (N, n), (H, l), ([33], m)] = (l ++ x, true) := by
  unfold M.ex
  rw [if_neg (by simp), if_neg (fun e => h e.1), lk_four H N f n l m h]
theorem ex_two (w x : List UInt8) : M.ex ⟨false, 33 :: (w ++ [33]), x⟩ [] = if w = [] then (M.core ++ x, true) else ([], false) := by
  unfold M.ex
  rw [if_neg (by simp), if_neg (fun e => by have := e.1; simp at this), M.lk_nil, if_neg (by simp)]
  by_cases h : w = []
  · subst h; rfl
  · rw [if_neg (by simpa using h), if_neg h]
theorem inH_four (w : World) (H f N n l m o : List UInt8) : InH (w.alloc (.cells #[.string (bA H), .string (bA f), .string (bA N), .string (bA n), .string (bA H), .string (bA l), .string (bA o), .string (bA m)] 39)) (some ⟨w.heap.size, 0, none⟩) [(H, f), (N, n), (H, l), (o, m)] := by
  intro _
  have hn := heap_alloc_new w (.cells #[.string (bA H), .string (bA f), .string (bA N), .string (bA n), .string (bA H), .string (bA l), .string (bA o), .string (bA m)] 39)
  refine ⟨w.heap.size, 0, rfl, fun j hj => ?_, (Array.getElem?_eq_some_iff.1 hn).1⟩
  simp only [World.cell?, hn]
  match j, hj with
  | 0, _ => exact ⟨rfl, rfl⟩
  | 1, _ => exact ⟨rfl, rfl⟩
  | 2, _ => exact ⟨rfl, rfl⟩
  | 3, _ => exact ⟨rfl, rfl⟩
set_option maxRecDepth 100000 in
set_option maxHeartbeats 1000000 in
theorem short_long (s t : ByteArray) (c : Nat) (f l : ByteArray) (w : World) (hs : s.size ≤ 281474976710656) (ht : t.size ≤ 281474976710656) (h : 30 < s.size ∨ s.size ≤ 30 ∧ t.size < 1 ∨ s.size ≤ 30 ∧ 1 ≤ t.size ∧ 30 < t.size) :
    Calls Try.prog 5 #[.string s, .string t, .int .u8 c, .string f, .string l] w fun e w' => e = .returned (.bool true) ∧ Below w.heap.size w w' := by
  have c0 := fun W => known_any W
  rcases h with h1 | ⟨h1, h2⟩ | ⟨h1, h2, h3⟩
  · have d1 : decide ((30 : Int) < (s.size : Int)) = true := decide_eq_true (by omega)
    have d2 : decide (30 < s.size) = true := decide_eq_true h1
    go_enter Try.func5, Try.ntmps5
    go_wp2_with fail
    refine (c0 _).mono ?_
    rintro r w1 ⟨rfl, hb1⟩
    clear c0
    go_wp2
    go_ret
    exact ⟨rfl, hb1⟩
  · have d1 : decide ((30 : Int) < (s.size : Int)) = false := decide_eq_false (by omega)
    have d2 : decide (30 < s.size) = false := decide_eq_false (by omega)
    have d3 : decide ((t.size : Int) < 1) = true := decide_eq_true (by omega)
    have d4 : decide (t.size < 1) = true := decide_eq_true h2
    have d5 : t.size = 0 := by omega
    go_enter Try.func5, Try.ntmps5
    go_wp2_with fail
    refine (c0 _).mono ?_
    rintro r w1 ⟨rfl, hb1⟩
    clear c0
    go_wp2
    go_ret
    exact ⟨rfl, hb1⟩
  · have d1 : decide ((30 : Int) < (s.size : Int)) = false := decide_eq_false (by omega)
    have d2 : decide (30 < s.size) = false := decide_eq_false (by omega)
    have d3 : decide ((t.size : Int) < 1) = false := decide_eq_false (by omega)
    have d4 : decide (t.size < 1) = false := decide_eq_false (by omega)
    have d5 : decide ((30 : Int) < (t.size : Int)) = true := decide_eq_true (by omega)
    have d6 : decide (30 < t.size) = true := decide_eq_true h3
    go_enter Try.func5, Try.ntmps5
    go_wp2_with fail
    refine (c0 _).mono ?_
    rintro r w1 ⟨rfl, hb1⟩
    clear c0
    go_wp2
    go_ret
    exact ⟨rfl, hb1⟩
set_option maxRecDepth 100000 in
set_option maxHeartbeats 1000000 in
theorem short_core (s t : ByteArray) (c : Nat) (f l : ByteArray) (w : World) (hs : s.size ≤ 30) (ht0 : 1 ≤ t.size) (ht : t.size ≤ 30) (hc : c ≤ 255) (hf : f.size ≤ 140737488355328) (hl : l.size ≤ 140737488355328) :
    Calls Try.prog 5 #[.string s, .string t, .int .u8 c, .string f, .string l] w fun e w' => e = .returned (.bool true) ∧ Below w.heap.size w w' := by
  have c0 := fun W => known_any W
  have d1 : decide ((30 : Int) < (s.size : Int)) = false := decide_eq_false (by omega)
  have d2 : decide (30 < s.size) = false := decide_eq_false (by omega)
  have d3 : decide ((t.size : Int) < 1) = false := decide_eq_false (by omega)
  have d4 : decide (t.size < 1) = false := decide_eq_false (by omega)
  have d5 : decide ((30 : Int) < (t.size : Int)) = false := decide_eq_false (by omega)
  have d6 : decide (30 < t.size) = false := decide_eq_false (by omega)
  have c1 : ∀ W, Calls Try.prog 17 #[.string s, .string ⟨#[97, 98, 122, 65, 90, 48, 57, 45]⟩] W fun e w' => e = .returned (.string (bA (M.tg gW s.data.toList))) ∧ Below W.heap.size W w' := fun W => tg_any s gW W (by omega) (by decide) (by decide)
  have c2 : ∀ W, Calls Try.prog 17 #[.string t, .string ⟨#[97, 122, 48, 57, 45, 95, 46, 126, 42, 39, 40, 41, 59, 47, 63, 58, 64, 38, 61, 43, 36, 35, 37]⟩] W fun e w' => e = .returned (.string (bA (M.tg gS t.data.toList))) ∧ Below W.heap.size W w' := fun W => tg_any t gS W (by omega) (by decide) (by decide)
  have hw1 := M.tg_all M.isW gW s.data.toList gW_all (by decide)
  have hx1 := M.tg_all M.isS gS t.data.toList gS_all (by decide)
  have hw2 := M.tg_len gW s.data.toList
  have hx2 := M.tg_len gS t.data.toList
  rw [← sz_list] at hw2 hx2
  generalize M.tg gW s.data.toList = wl at *
  generalize M.tg gS t.data.toList = xl at *
  obtain ⟨q, hq⟩ : ∃ q, c % 6 = q := ⟨_, rfl⟩
  have hq6 : q < 6 := by omega
  have hbs := stops_no q hq6
  have hcell := stop_cell q hq6
  generalize stops.getD q 0 = bb at *
  have hmod : ((c : Int) % 6) = (q : Int) := by omega
  have hmodt : Int.tmod (c : Int) 6 = (q : Int) := by rw [Int.tmod_eq_emod_of_nonneg (by omega)]; exact hmod
  have hxne : xl ≠ [] := fun e => by rw [e] at hx2; simp at hx2; omega
  have hrd := M.rd_named wl xl bb hw1 hx1 hbs hxne
  have hP2 : ((⟨#[33]⟩ : ByteArray) ++ bA wl) ++ ⟨#[33]⟩ = bA (33 :: (wl ++ [33])) := by
    apply eq_bA; rw [append_list, append_list, bA_toList]; rfl
  have hN0 : ((⟨#[33]⟩ : ByteArray) ++ bA wl) ++ ⟨#[48, 33]⟩ = bA (33 :: (wl ++ [48, 33])) := by
    apply eq_bA; rw [append_list, append_list, bA_toList]; rfl
  have hP4 : ((((⟨#[33]⟩ : ByteArray) ++ bA wl) ++ ⟨#[33]⟩) ++ bA xl) ++ bA [bb] = bA (33 :: (wl ++ 33 :: (xl ++ [bb]))) := by
    apply eq_bA; simp only [append_list, bA_toList]; simp
  have c3 : ∀ W, Calls Try.prog 9 #[.string (((((⟨#[33]⟩ : ByteArray) ++ bA wl) ++ ⟨#[33]⟩) ++ bA xl) ++ bA [bb]), .int .i64 0] W fun e w' => e = .returned (.tuple #[tV false (((⟨#[33]⟩ : ByteArray) ++ bA wl) ++ ⟨#[33]⟩) (bA xl), .int .i64 (((bA wl).size : Int) + ((bA xl).size : Int) + 2), .bool true]) ∧ Below W.heap.size W w' := fun W => by
    have hz : (bA (33 :: (wl ++ 33 :: (xl ++ [bb])))).size ≤ 100000 := by rw [bA_size]; simp; omega
    have c := rd_any (bA (33 :: (wl ++ 33 :: (xl ++ [bb])))) ((0 : Nat) : Int) W hz
    rw [bA_toList, M.rdI_at _ _ rfl, hrd, rdV_mk] at c
    rw [hP4, hP2]
    refine c.mono ?_
    rintro e w' ⟨rfl, hb⟩
    refine ⟨?_, hb⟩
    rw [bA_size, bA_size]
    rfl
  have hH : (33 :: (wl ++ [33]) : List UInt8) ≠ [33] := by simp
  have hbig : ∀ n : List UInt8, n.length ≤ 100 → n.length ≤ 140737488355328 := fun n h => by omega
  have c4 : ∀ W a, InH W a [((33 :: (wl ++ [33]) : List UInt8), f.data.toList), (33 :: (wl ++ [48, 33]), [110, 111]), (33 :: (wl ++ [33]), l.data.toList), ([33], [110, 111])] → Calls Try.prog 11 #[tV false (((⟨#[33]⟩ : ByteArray) ++ bA wl) ++ ⟨#[33]⟩) (bA xl), .slice a 4 4] W fun e w' => e = .returned (.tuple #[.string (l ++ bA xl), .bool true]) ∧ Below W.heap.size W w' := fun W a hW => by
    have hok : HsOk [((33 :: (wl ++ [33]) : List UInt8), f.data.toList), (33 :: (wl ++ [48, 33]), [110, 111]), (33 :: (wl ++ [33]), l.data.toList), ([33], [110, 111])] := by
      intro h hh
      simp only [List.mem_cons, List.not_mem_nil, or_false] at hh
      rw [sz_list] at hf hl
      rcases hh with rfl | rfl | rfl | rfl
      · exact ⟨by simp; omega, hf⟩
      · exact ⟨by simp; omega, by simp⟩
      · exact ⟨by simp; omega, hl⟩
      · exact ⟨by simp, by simp⟩
    have c := exp_any ⟨false, 33 :: (wl ++ [33]), xl⟩ a 4 _ W (by simp) hok hW (by simp; omega) (by show xl.length ≤ _; omega)
    rw [ex_four _ _ _ _ _ _ _ hH] at c
    rw [hP2]
    refine c.mono ?_
    rintro e w' ⟨rfl, hb⟩
    refine ⟨?_, hb⟩
    show Ending.returned (.tuple #[.string (bA (l.data.toList ++ xl)), .bool true]) = _
    rw [← bA_append, bA_of]
  have c5 : ∀ W, Calls Try.prog 11 #[tV false (((⟨#[33]⟩ : ByteArray) ++ bA wl) ++ ⟨#[33]⟩) (bA xl), .slice none 0 0] W fun e w' => e = .returned (exV (if wl = [] then (M.core ++ xl, true) else ([], false))) ∧ Below W.heap.size W w' := fun W => by
    have c := exp_any ⟨false, 33 :: (wl ++ [33]), xl⟩ none 0 [] W (by simp) (by intro h hh; cases hh) (InH.nil _ _) (by simp; omega) (by show xl.length ≤ _; omega)
    rw [ex_two] at c
    rw [hP2]
    exact c
  have sW : (bA wl).size ≤ 30 := by rw [bA_size]; omega
  have sX : (bA xl).size ≤ 30 := by rw [bA_size]; omega
  have sB : (bA [bb]).size = 1 := by rw [bA_size]; rfl
  have sP1 : ((⟨#[33]⟩ : ByteArray) ++ bA wl).size ≤ 31 := by rw [append_sz]; show 1 + _ ≤ _; omega
  have sP2 : (((⟨#[33]⟩ : ByteArray) ++ bA wl) ++ ⟨#[33]⟩).size ≤ 32 := by rw [append_sz]; show _ + 1 ≤ _; omega
  have sP3 : ((((⟨#[33]⟩ : ByteArray) ++ bA wl) ++ ⟨#[33]⟩) ++ bA xl).size ≤ 62 := by rw [append_sz]; omega
  have sP4 : (((((⟨#[33]⟩ : ByteArray) ++ bA wl) ++ ⟨#[33]⟩) ++ bA xl) ++ bA [bb]).size ≤ 63 := by rw [append_sz, sB]; omega
  have he := neT false (((⟨#[33]⟩ : ByteArray) ++ bA wl) ++ ⟨#[33]⟩) (bA xl)
  have heg := eqG .neq
  have qE := eq_list wl []
  have qE2 := emp_list wl
  have hI : ∀ W : World, InH (W.alloc (.cells #[.string (((⟨#[33]⟩ : ByteArray) ++ bA wl) ++ ⟨#[33]⟩), .string f, .string (((⟨#[33]⟩ : ByteArray) ++ bA wl) ++ ⟨#[48, 33]⟩), .string ⟨#[110, 111]⟩, .string (((⟨#[33]⟩ : ByteArray) ++ bA wl) ++ ⟨#[33]⟩), .string l, .string ⟨#[33]⟩, .string ⟨#[110, 111]⟩] 39)) (some ⟨W.heap.size, 0, none⟩) [((33 :: (wl ++ [33]) : List UInt8), f.data.toList), (33 :: (wl ++ [48, 33]), [110, 111]), (33 :: (wl ++ [33]), l.data.toList), ([33], [110, 111])] := fun W => by
    have i := inH_four W (33 :: (wl ++ [33])) f.data.toList (33 :: (wl ++ [48, 33])) [110, 111] l.data.toList [110, 111] [33]
    rw [bA_of, bA_of, ← hP2, ← hN0] at i
    exact i
  have HI := Lib.hid hI
  clear hI hrd hP4 hbs hw1 hx1
  generalize hE1 : (⟨#[33]⟩ : ByteArray) ++ bA wl = P1 at *
  generalize hE2 : P1 ++ (⟨#[33]⟩ : ByteArray) = P2 at *
  generalize hE3 : P2 ++ bA xl = P3 at *
  generalize hE4 : P3 ++ bA [bb] = P4 at *
  generalize hE5 : P1 ++ (⟨#[48, 33]⟩ : ByteArray) = N0 at *
  clear hP2 hN0
  have s1 : (⟨#[33]⟩ : ByteArray).size = 1 := rfl
  have s2 : (⟨#[48, 33]⟩ : ByteArray).size = 2 := rfl
  go_enter Try.func5, Try.ntmps5
  go_wp2_with fail
  refine (c0 _).mono ?_
  rintro r w1 ⟨rfl, hb1⟩
  clear c0
  go_wp2_with fail
  refine (c1 _).mono ?_
  rintro r w2 ⟨rfl, hb2⟩
  replace hb1 := hb1.trans (hb2.mono hb1.size)
  clear c1 hb2
  go_wp2_with fail
  refine (c2 _).mono ?_
  rintro r w3 ⟨rfl, hb3⟩
  replace hb1 := hb1.trans (hb3.mono hb1.size)
  clear c2 hb3
  have hcl : (w3.alloc (.cells stopCells 37)).cell? ⟨w3.heap.size, q, none⟩ = some (.string (bA [bb])) := by
    have hn := heap_alloc_new w3 (.cells stopCells 37)
    show (match (w3.alloc (.cells stopCells 37)).heap[w3.heap.size]? with | some (.cells cs _ _) => _ | _ => _) = _
    rw [hn]; exact hcell
  unfold stopCells at hcl
  replace hb1 := hb1.alloc hb1.size (.cells stopCells 37)
  go_wp2_with fail
  refine (c3 _).mono ?_
  rintro r w4 ⟨rfl, hb4⟩
  have sz4 := Nat.le_trans hb1.size hb4.size
  replace hb1 := (hb1.trans (hb4.mono hb1.size)).alloc sz4 (.cells #[.bool false, .string P2, .string (bA xl)] 23)
  have K := Blk.made w4 false P2 (bA xl)
  have hin := HI.out (w4.alloc (.cells #[.bool false, .string P2, .string (bA xl)] 23))
  have hsz : (w4.alloc (.cells #[.bool false, .string P2, .string (bA xl)] 23)).heap.size = w4.heap.size + 1 := by show (w4.heap.push _).size = _; simp
  rw [hsz] at hin
  clear c3 hb4 hcl HI hsz
  obtain ⟨k0, k1, k2⟩ := K.cells
  go_wp2_with fail
  refine (c4 _ _ hin).mono ?_
  rintro r w5 ⟨rfl, hb5⟩
  replace K := (K.next ((Below.refl _ _).alloc (Nat.le_refl _) _)).next hb5
  replace hb1 := hb1.alloc hb1.size (.cells #[.string P2, .string f, .string N0, .string ⟨#[110, 111]⟩, .string P2, .string l, .string ⟨#[33]⟩, .string ⟨#[110, 111]⟩] 39)
  replace hb1 := hb1.trans (hb5.mono hb1.size)
  clear c4 hb5 hin k0 k1 k2
  obtain ⟨k0, k1, k2⟩ := K.cells
  have sl : (l ++ bA xl).size ≤ 140737488355400 := by rw [append_sz]; omega
  by_cases hwl : wl = []
  · rw [if_pos hwl] at c5
    rw [decide_eq_true hwl] at qE qE2
    dsimp only [exV] at c5
    rw [← bA_append] at c5
    have hcr : bA M.core = ⟨#[116, 97, 103, 58, 121, 97, 109, 108, 46, 111, 114, 103, 44, 50, 48, 48, 50, 58]⟩ := rfl
    rw [hcr] at c5
    clear hcr hwl
    go_wp2_with fail
    refine (c5 _).mono ?_
    rintro r w6 ⟨rfl, hb6⟩
    replace hb1 := hb1.trans (hb6.mono hb1.size)
    clear c5 hb6 k0 k1 k2 K
    go_wp2
    go_ret
    exact ⟨rfl, hb1⟩
  · rw [if_neg hwl] at c5
    rw [decide_eq_false hwl] at qE qE2
    dsimp only [exV] at c5
    clear hwl
    go_wp2_with fail
    refine (c5 _).mono ?_
    rintro r w6 ⟨rfl, hb6⟩
    replace hb1 := hb1.trans (hb6.mono hb1.size)
    clear c5 hb6 k0 k1 k2 K
    go_wp2
    go_ret
    exact ⟨rfl, hb1⟩
theorem short_any (s t : ByteArray) (c : Nat) (f l : ByteArray) (w : World) (hs : s.size ≤ 281474976710656) (ht : t.size ≤ 281474976710656) (hc : c ≤ 255) (hf : f.size ≤ 140737488355328) (hl : l.size ≤ 140737488355328) :
    Calls Try.prog 5 #[.string s, .string t, .int .u8 c, .string f, .string l] w fun e w' => e = .returned (.bool true) ∧ Below w.heap.size w w' := by
  by_cases h1 : s.size ≤ 30
  · by_cases h2 : t.size < 1
    · exact short_long s t c f l w hs ht (Or.inr (Or.inl ⟨h1, h2⟩))
    · by_cases h3 : t.size ≤ 30
      · exact short_core s t c f l w h1 (by omega) h3 hc hf hl
      · exact short_long s t c f l w hs ht (Or.inr (Or.inr ⟨h1, by omega, by omega⟩))
  · exact short_long s t c f l w hs ht (Or.inl (by omega))
end Go.Proofs.Ytcahleaaicebbaa
