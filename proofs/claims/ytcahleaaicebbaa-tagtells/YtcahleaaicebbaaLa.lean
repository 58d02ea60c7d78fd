/- Walks: TagTells. -/
import Derived.Test.YtcahleaaicebbaaWg
import Derived.Test.YtcahleaaicebbaaRe
import Derived.Test.YtcahleaaicebbaaRf
set_option linter.unusedVariables false
namespace Go.Proofs.Ytcahleaaicebbaa
open Go.RowKit

theorem cut_len (l : List UInt8) (i j : Nat) : (M.cut l i j).length ≤ l.length := by
  unfold M.cut; rw [List.length_take, List.length_drop]; omega
theorem rdI_len (l : List UInt8) (i : Int) : (M.rdI l i).1.h.length ≤ l.length ∧ (M.rdI l i).1.s.length ≤ l.length := by
  unfold M.rdI
  split
  · unfold M.rd
    split
    · split
      · exact ⟨Nat.zero_le _, Nat.zero_le _⟩
      · exact ⟨Nat.zero_le _, cut_len _ _ _⟩
    · dsimp only
      split <;> split <;> first | exact ⟨Nat.zero_le _, Nat.zero_le _⟩ | exact ⟨cut_len _ _ _, cut_len _ _ _⟩
  · exact ⟨Nat.zero_le _, Nat.zero_le _⟩

set_option maxRecDepth 100000 in
set_option maxHeartbeats 1000000 in
theorem tells_long (s : ByteArray) (i : Int) (v : Bool) (H S : ByteArray) (a : Option Addr) (n cap : Nat) (w : World) (hs : s.size ≤ 281474976710656) (hn : n ≤ 281474976710656) (h : 200 < s.size ∨ s.size ≤ 200 ∧ 30 < n) :
    Calls Try.prog 3 #[.string s, .int .i64 i, tV v H S, .slice a n cap] w fun e w' => e = .returned (.bool true) ∧ Below w.heap.size w w' := by
  have c0 := fun W => known_any W
  have B := bexp w v H S
  rcases h with h1 | ⟨h1, h2⟩
  · have d1 : decide ((200 : Int) < (s.size : Int)) = true := decide_eq_true (by omega)
    have d2 : decide (200 < s.size) = true := decide_eq_true h1
    go_enter Try.func3, Try.ntmps3
    go_wp2_with fail
    refine (c0 _).mono ?_
    rintro r w1 ⟨rfl, hb1⟩
    have B1 := B.trans (hb1.mono B.size)
    clear hb1 c0 B
    go_wp2
    go_ret
    exact ⟨rfl, B1⟩
  · have d1 : decide ((200 : Int) < (s.size : Int)) = false := decide_eq_false (by omega)
    have d2 : decide (200 < s.size) = false := decide_eq_false (by omega)
    have d3 : decide ((30 : Int) < (n : Int)) = true := decide_eq_true (by omega)
    have d4 : decide (30 < n) = true := decide_eq_true h2
    go_enter Try.func3, Try.ntmps3
    go_wp2_with fail
    refine (c0 _).mono ?_
    rintro r w1 ⟨rfl, hb1⟩
    have B1 := B.trans (hb1.mono B.size)
    clear hb1 c0 B
    go_wp2
    go_ret
    exact ⟨rfl, B1⟩
set_option maxRecDepth 100000 in
set_option maxHeartbeats 1000000 in
theorem tells_core (s : ByteArray) (i : Int) (v : Bool) (th ts : List UInt8) (a : Option Addr) (cap : Nat) (hs : HL) (w : World) (hs1 : s.size ≤ 200) (hs2 : hs.length ≤ 30) (hi0 : -9223372036854775808 ≤ i) (hi1 : i ≤ 9223372036854775807)
    (hth : th.length ≤ 140737488355328) (hts : ts.length ≤ 140737488355328) (hok : HsOk hs) (hin : InH w a hs) :
    Calls Try.prog 3 #[.string s, .int .i64 i, tV v (bA th) (bA ts), .slice a hs.length cap] w fun e w' => e = .returned (.bool true) ∧ Below w.heap.size w w' := by
  have c0 := fun W => known_any W
  have cW := fun W => within_any i 20 W hi0 hi1 (by omega)
  have K := Blk.made w v (bA th) (bA ts)
  have B := bexp w v (bA th) (bA ts)
  have d1 : decide ((200 : Int) < (s.size : Int)) = false := decide_eq_false (by omega)
  have d2 : decide (200 < s.size) = false := decide_eq_false (by omega)
  have d3 : decide ((30 : Int) < (hs.length : Int)) = false := decide_eq_false (by omega)
  have d4 : decide (30 < hs.length) = false := decide_eq_false (by omega)
  go_enter Try.func3, Try.ntmps3
  go_wp2_with fail
  refine (c0 _).mono ?_
  rintro r w1 ⟨rfl, hb1⟩
  replace K := K.next hb1
  replace B := B.trans (hb1.mono B.size)
  clear hb1 c0
  go_wp2_with fail
  refine (cW _).mono ?_
  rintro r w2 ⟨⟨q, hq, rfl⟩, rfl⟩
  clear cW
  have N0 := heap_alloc_new w2 (.cells #[.int .i64 i, .int .i64 0, .int .i64 (q : Int)] 3)
  have hlt : w2.heap.size < (w2.alloc (.cells #[.int .i64 i, .int .i64 0, .int .i64 (q : Int)] 3)).heap.size := by show _ < (w2.heap.push _).size; simp
  have hg0 : w.heap.size < w2.heap.size := K.lt
  replace K := K.next ((Below.refl _ _).alloc (Nat.le_refl _) (.cells #[.int .i64 i, .int .i64 0, .int .i64 (q : Int)] 3))
  replace B := B.alloc B.size (.cells #[.int .i64 i, .int .i64 0, .int .i64 (q : Int)] 3)
  obtain ⟨W0, hW0⟩ : ∃ W0, w2.alloc (.cells #[.int .i64 i, .int .i64 0, .int .i64 (q : Int)] 3) = W0 := ⟨_, rfl⟩
  rw [hW0] at N0 K B hlt
  have HI := Lib.hid (fun W (hb : Below W0.heap.size W0 W) => And.intro (hin.next (B.trans (hb.mono B.size))) (And.intro (K.next hb) (And.intro ((hb.block _ hlt).trans N0) (B.trans (hb.mono B.size)))))
  have HW := Lib.hid hW0
  clear hW0 N0 K B hin
  go_wp2_with fail
  rw [HW.out]
  go_loopw [40] (fun x wr => ∃ j : Nat, x = .int .i64 j ∧ j ≤ 3 ∧ Below W0.heap.size W0 wr) (fun x _ => 3 - (intOf x).toNat)
  case atStart => exact ⟨0, rfl, by omega, Below.refl _ _⟩
  case round =>
    obtain ⟨j, rfl, hj, hb⟩ := hrel
    obtain ⟨hin, K, hrow, hbw⟩ := HI.out wr hb
    by_cases hj3 : j < 3
    · have hjd : decide (j < 3) = true := decide_eq_true hj3
      have hjd2 : decide ((j : Int) < 3) = true := decide_eq_true (by omega)
      obtain ⟨z, hz⟩ : ∃ z : Int, wr.cell? ⟨w2.heap.size, j, none⟩ = some (.int .i64 z) := by
        simp only [World.cell?, hrow]
        match j, hj3 with
        | 0, _ => exact ⟨_, rfl⟩
        | 1, _ => exact ⟨_, rfl⟩
        | 2, _ => exact ⟨_, rfl⟩
      clear hrow K hbw hin
      have c1 := fun W => rd_any s z W (by omega)
      have c2 := fun W => rrd_any s z W (by omega)
      have hT := rdI_len s.data.toList z
      rw [← sz_list] at hT
      generalize M.rdI s.data.toList z = T at *
      obtain ⟨⟨tv, t1, t2⟩, n, b⟩ := T
      dsimp only at hT
      have c3 := fun W hW => exp_any ⟨tv, t1, t2⟩ a cap hs W (by omega) hok hW (by show t1.length ≤ _; omega) (by show t2.length ≤ _; omega)
      have c4 := fun W hW => rexp_any ⟨tv, t1, t2⟩ a cap hs W (by omega) hok hW (by show t2.length ≤ _; omega)
      generalize M.ex ⟨tv, t1, t2⟩ hs = E at *
      obtain ⟨ep, eb⟩ := E
      rw [rdV_mk] at c1 c2
      dsimp only [exV, tgV] at c1 c2 c3 c4
      generalize bA t1 = TH at *
      generalize bA t2 = TS at *
      generalize bA ep = EP at *
      have hne := neT tv TH TS
      have hng := eqG .neq
      go_wp2_with fail
      refine (c1 _).mono ?_
      rintro r w3 ⟨rfl, hb3⟩
      replace hb := (hb.trans (hb3.mono hb.size)).alloc (Nat.le_trans hb.size hb3.size) (.cells #[.bool tv, .string TH, .string TS] 23)
      have KA := Blk.made w3 tv TH TS
      clear hb3 c1
      go_wp2_with fail
      refine (c2 _).mono ?_
      rintro r w4 ⟨rfl, hb4⟩
      replace KA := (KA.next hb4).next (atG w4 tv TH TS)
      have KB := Blk.made w4 tv TH TS
      replace hb := (hb.trans (hb4.mono hb.size)).alloc (Nat.le_trans hb.size hb4.size) (.cells #[.bool tv, .string TH, .string TS] 23)
      clear hb4 c2 hz
      obtain ⟨p0, p1, p2⟩ := KA.cells
      obtain ⟨q0, q1, q2⟩ := KB.cells
      go_wp2_with fail
      refine (c3 _ (HI.out _ hb).1).mono ?_
      rintro r w5 ⟨rfl, hb5⟩
      replace KB := KB.next hb5
      replace hb := hb.trans (hb5.mono hb.size)
      clear hb5 c3 p0 p1 p2 q0 q1 q2 KA
      obtain ⟨q0, q1, q2⟩ := KB.cells
      go_wp2_with fail
      refine (c4 _ (HI.out _ hb).1).mono ?_
      rintro r w6 ⟨rfl, hb6⟩
      replace hb := hb.trans (hb6.mono hb.size)
      clear hb6 c4 q0 q1 q2 KB
      go_wp2
      go_roundw
      case rel => exact ⟨j + 1, by go_num, by omega, hb⟩
      case measure => simp [intOf]; omega
    · obtain rfl : j = 3 := by omega
      clear hrow hin
      obtain ⟨k0, k1, k2⟩ := K.cells
      have c3 := fun W hW => exp_any ⟨v, th, ts⟩ a cap hs W (by omega) hok hW hth hts
      have c4 := fun W hW => rexp_any ⟨v, th, ts⟩ a cap hs W (by omega) hok hW hts
      generalize M.ex ⟨v, th, ts⟩ hs = E at *
      obtain ⟨ep, eb⟩ := E
      dsimp only [exV, tgV] at c3 c4
      generalize bA ep = EP at *
      have c5 := fun W => good_any s W (by omega)
      have c6 := fun W => rgood_any s W (by omega)
      have c7 := fun W => wr_any s W (by omega)
      have c8 := fun W => rwr_any s W (by omega)
      generalize M.good s.data.toList = G at *
      generalize bA (M.wr s.data.toList) = X at *
      go_wp2_with fail
      refine (c3 _ (HI.out _ hb).1).mono ?_
      rintro r w5 ⟨rfl, hb5⟩
      replace K := K.next hb5
      replace hb := hb.trans (hb5.mono hb.size)
      clear hb5 c3 k0 k1 k2
      obtain ⟨k0, k1, k2⟩ := K.cells
      go_wp2_with fail
      refine (c4 _ (HI.out _ hb).1).mono ?_
      rintro r w6 ⟨rfl, hb6⟩
      replace hb := hb.trans (hb6.mono hb.size)
      clear hb6 c4 k0 k1 k2 K
      go_wp2_with fail
      refine (c5 _).mono ?_
      rintro r w' ⟨rfl, rfl⟩
      go_wp2_with fail
      refine (c6 _).mono ?_
      rintro r w' ⟨rfl, rfl⟩
      go_wp2_with fail
      refine (c7 _).mono ?_
      rintro r w' ⟨rfl, rfl⟩
      go_wp2_with fail
      refine (c8 _).mono ?_
      rintro r w' ⟨rfl, rfl⟩
      go_wp2
      go_ret
      exact ⟨rfl, (HI.out _ hb).2.2.2⟩
theorem tells_any (s : ByteArray) (i : Int) (v : Bool) (th ts : List UInt8) (a : Option Addr) (cap : Nat) (hs : HL) (w : World) (hi0 : -9223372036854775808 ≤ i) (hi1 : i ≤ 9223372036854775807) (hss : s.size ≤ 281474976710656) (hsl : hs.length ≤ 281474976710656)
    (hth : th.length ≤ 140737488355328) (hts : ts.length ≤ 140737488355328) (hok : HsOk hs) (hin : InH w a hs) :
    Calls Try.prog 3 #[.string s, .int .i64 i, tV v (bA th) (bA ts), .slice a hs.length cap] w fun e w' => e = .returned (.bool true) ∧ Below w.heap.size w w' := by
  by_cases h1 : s.size ≤ 200
  · by_cases h2 : hs.length ≤ 30
    · exact tells_core s i v th ts a cap hs w h1 h2 hi0 hi1 hth hts hok hin
    · exact tells_long s i v _ _ a _ cap w hss hsl (Or.inr ⟨h1, by omega⟩)
  · exact tells_long s i v _ _ a _ cap w hss hsl (Or.inl (by omega))
end Go.Proofs.Ytcahleaaicebbaa
