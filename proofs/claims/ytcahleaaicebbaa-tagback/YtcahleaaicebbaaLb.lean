/- Walks: TagBack. -/
import Derived.Test.YtcahleaaicebbaaWg
set_option linter.unusedVariables false
namespace Go.Proofs.Ytcahleaaicebbaa
open Go.RowKit

set_option maxRecDepth 100000 in
set_option maxHeartbeats 1000000 in
theorem back_long (s t : ByteArray) (a : Option Addr) (n cap : Nat) (w : World) (hs : s.size ≤ 281474976710656) (ht : t.size ≤ 281474976710656) (hn : n ≤ 281474976710656) (h : 100 < s.size ∨ s.size ≤ 100 ∧ 50 < t.size ∨ s.size ≤ 100 ∧ t.size ≤ 50 ∧ 30 < n) :
    Calls Try.prog 4 #[.string s, .string t, .slice a n cap] w fun e w' => e = .returned (.bool true) ∧ Below w.heap.size w w' := by
  have c0 := fun W => known_any W
  rcases h with h1 | ⟨h1, h2⟩ | ⟨h1, h2, h3⟩
  · have d1 : decide ((100 : Int) < (s.size : Int)) = true := decide_eq_true (by omega)
    have d2 : decide (100 < s.size) = true := decide_eq_true h1
    go_enter Try.func4, Try.ntmps4
    go_wp2_with fail
    refine (c0 _).mono ?_
    rintro r w1 ⟨rfl, hb1⟩
    clear c0
    go_wp2
    go_ret
    exact ⟨rfl, hb1⟩
  · have d1 : decide ((100 : Int) < (s.size : Int)) = false := decide_eq_false (by omega)
    have d2 : decide (100 < s.size) = false := decide_eq_false (by omega)
    have d3 : decide ((50 : Int) < (t.size : Int)) = true := decide_eq_true (by omega)
    have d4 : decide (50 < t.size) = true := decide_eq_true h2
    go_enter Try.func4, Try.ntmps4
    go_wp2_with fail
    refine (c0 _).mono ?_
    rintro r w1 ⟨rfl, hb1⟩
    clear c0
    go_wp2
    go_ret
    exact ⟨rfl, hb1⟩
  · have d1 : decide ((100 : Int) < (s.size : Int)) = false := decide_eq_false (by omega)
    have d2 : decide (100 < s.size) = false := decide_eq_false (by omega)
    have d3 : decide ((50 : Int) < (t.size : Int)) = false := decide_eq_false (by omega)
    have d4 : decide (50 < t.size) = false := decide_eq_false (by omega)
    have d5 : decide ((30 : Int) < (n : Int)) = true := decide_eq_true (by omega)
    have d6 : decide (30 < n) = true := decide_eq_true h3
    go_enter Try.func4, Try.ntmps4
    go_wp2_with fail
    refine (c0 _).mono ?_
    rintro r w1 ⟨rfl, hb1⟩
    clear c0
    go_wp2
    go_ret
    exact ⟨rfl, hb1⟩
set_option maxRecDepth 100000 in
set_option maxHeartbeats 1000000 in
theorem back_core (s t : ByteArray) (a : Option Addr) (cap : Nat) (hs : HL) (w : World) (hs1 : s.size ≤ 100) (ht1 : t.size ≤ 50) (hs2 : hs.length ≤ 30) (hok : HsOk hs) (hin : InH w a hs) :
    Calls Try.prog 4 #[.string s, .string t, .slice a hs.length cap] w fun e w' => e = .returned (.bool true) ∧ Below w.heap.size w w' := by
  have c0 := fun W => known_any W
  have d1 : decide ((100 : Int) < (s.size : Int)) = false := decide_eq_false (by omega)
  have d2 : decide (100 < s.size) = false := decide_eq_false (by omega)
  have d3 : decide ((50 : Int) < (t.size : Int)) = false := decide_eq_false (by omega)
  have d4 : decide (50 < t.size) = false := decide_eq_false (by omega)
  have d5 : decide ((30 : Int) < (hs.length : Int)) = false := decide_eq_false (by omega)
  have d6 : decide (30 < hs.length) = false := decide_eq_false (by omega)
  have c1 := fun W => wr_any s W (by omega)
  have c2 := fun W => good_any s W (by omega)
  cases hg : M.good s.data.toList
  · rw [hg] at c2
    have hw : M.wr s.data.toList = [] := by unfold M.wr; rw [hg]; rfl
    rw [hw] at c1
    have q2 := eq_list [] []
    have q3 := emp_list []
    go_enter Try.func4, Try.ntmps4
    go_wp2_with fail
    refine (c0 _).mono ?_
    rintro r w1 ⟨rfl, hb1⟩
    clear c0
    go_wp2_with fail
    refine (c1 _).mono ?_
    rintro r w' ⟨rfl, rfl⟩
    go_wp2_with fail
    refine (c2 _).mono ?_
    rintro r w' ⟨rfl, rfl⟩
    go_wp2
    go_ret
    exact ⟨rfl, hb1⟩
  · rw [hg] at c2
    have hrd := M.rd_wr s.data.toList t.data.toList hg
    have hlen : (M.wr s.data.toList).length = s.size + 3 := by unfold M.wr; rw [if_pos hg, sz_list]; simp
    obtain ⟨X, hX⟩ : ∃ X, bA (M.wr s.data.toList) = X := ⟨_, rfl⟩
    have hXs : X.size = s.size + 3 := by rw [← hX, bA_size, hlen]
    have hcat : (((⟨#[120]⟩ : ByteArray) ++ X) ++ t).data.toList = 120 :: (M.wr s.data.toList ++ t.data.toList) := by
      rw [append_list, append_list, ← hX, bA_toList]; simp
    have z1 : ((⟨#[120]⟩ : ByteArray) ++ X).size = X.size + 1 := by rw [append_sz]; show 1 + X.size = _; omega
    have z2 : (((⟨#[120]⟩ : ByteArray) ++ X) ++ t).size ≤ 1000 := by rw [append_sz, z1]; omega
    have hr33 : (120 :: (M.wr s.data.toList ++ t.data.toList))[1]? = some 33 := by unfold M.wr; rw [if_pos hg]; rfl
    have c3 : ∀ W, Calls Try.prog 9 #[.string (((⟨#[120]⟩ : ByteArray) ++ X) ++ t), .int .i64 1] W fun e w' => e = .returned (.tuple #[tV true ⟨#[]⟩ s, .int .i64 (1 + (X.size : Int)), .bool true]) ∧ Below W.heap.size W w' := fun W => by
      have c := rd_any (((⟨#[120]⟩ : ByteArray) ++ X) ++ t) ((1 : Nat) : Int) W (by omega)
      rw [hcat, M.rdI_at _ _ hr33, hrd, rdV_mk] at c
      refine c.mono ?_
      rintro e w' ⟨rfl, hb⟩
      refine ⟨?_, hb⟩
      rw [hlen, hXs, bA_of]
      rfl
    have c4 : ∀ W, InH W a hs → Calls Try.prog 11 #[tV true ⟨#[]⟩ s, .slice a hs.length cap] W fun e w' => e = .returned (.tuple #[.string s, .bool true]) ∧ Below W.heap.size W w' := fun W hW => by
      have c := exp_any ⟨true, [], s.data.toList⟩ a cap hs W (by omega) hok hW (by simp) (by show s.data.toList.length ≤ _; rw [← sz_list]; omega)
      dsimp only [tgV, M.ex] at c
      rw [if_pos rfl] at c
      dsimp only [exV] at c
      rw [bA_of] at c
      exact c
    rw [hX] at c1
    have he := eqT true ⟨#[]⟩ s
    have heg := eqG .eql
    have z3 : (⟨#[120]⟩ : ByteArray).size = 1 := rfl
    generalize hCC : ((⟨#[120]⟩ : ByteArray) ++ X) = CC at *
    clear hX hcat hrd hr33 hlen hg
    go_enter Try.func4, Try.ntmps4
    go_wp2_with fail
    refine (c0 _).mono ?_
    rintro r w1 ⟨rfl, hb1⟩
    clear c0
    go_wp2_with fail
    refine (c1 _).mono ?_
    rintro r w' ⟨rfl, rfl⟩
    go_wp2_with fail
    refine (c2 _).mono ?_
    rintro r w' ⟨rfl, rfl⟩
    clear c1 c2
    go_wp2_with fail
    refine (c3 _).mono ?_
    rintro r w3 ⟨rfl, hb3⟩
    have K := Blk.made w3 true ⟨#[]⟩ s
    have B := (hb1.trans (hb3.mono hb1.size)).alloc (Nat.le_trans hb1.size hb3.size) (.cells #[.bool true, .string ⟨#[]⟩, .string s] 23)
    clear hb1 hb3 c3
    have hin2 := hin.next B
    obtain ⟨k0, k1, k2⟩ := K.cells
    go_wp2_with fail
    refine (c4 _ hin2).mono ?_
    rintro r w4 ⟨rfl, hb4⟩
    replace K := K.next hb4
    replace B := B.trans (hb4.mono B.size)
    clear hb4 c4 k0 k1 k2 hin2
    obtain ⟨k0, k1, k2⟩ := K.cells
    go_wp2
    go_ret
    exact ⟨rfl, B⟩
theorem back_any (s t : ByteArray) (a : Option Addr) (cap : Nat) (hs : HL) (w : World) (hss : s.size ≤ 281474976710656) (hts : t.size ≤ 281474976710656) (hsl : hs.length ≤ 281474976710656) (hok : HsOk hs) (hin : InH w a hs) :
    Calls Try.prog 4 #[.string s, .string t, .slice a hs.length cap] w fun e w' => e = .returned (.bool true) ∧ Below w.heap.size w w' := by
  by_cases h1 : s.size ≤ 100
  · by_cases h2 : t.size ≤ 50
    · by_cases h3 : hs.length ≤ 30
      · exact back_core s t a cap hs w h1 h2 h3 hok hin
      · exact back_long s t a _ cap w hss hts hsl (Or.inr (Or.inr ⟨h1, h2, by omega⟩))
    · exact back_long s t a _ cap w hss hts hsl (Or.inr (Or.inl ⟨h1, by omega⟩))
  · exact back_long s t a _ cap w hss hts hsl (Or.inl (by omega))
end Go.Proofs.Ytcahleaaicebbaa
