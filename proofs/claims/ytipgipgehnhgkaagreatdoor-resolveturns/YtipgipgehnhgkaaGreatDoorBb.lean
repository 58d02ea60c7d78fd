/- Walks: strconv.Itoa off the shelf, big.less. Walk: big.Add. Walk of big.joined. Walks of big.Base, MulAdd. Walks: TrimRight. Walks: dec.Make. -/
import Derived.Test.YtipgipgehnhgkaaGreatDoorBa
import Derived.Test.YtipgipgehnhgkaaGreatDoorShelf
import Derived.Lib.SmallJoins
set_option linter.unusedVariables false
namespace Go.Proofs.YtipgipgehnhgkaaGreatDoor
open Go.RowKit

/-- The table of powers of ten lies there. -/
def Tab (w : World) : Prop := Lib.TabIs Tryz.prog w "internal/strconv.uint64pow10" .u64 Lib.pow10Tab
theorem tabG : Tryz.prog.globalNamed "internal/strconv.uint64pow10" = some 3 := by kernel_rfl
theorem Tab.below {w w' : World} {B : Nat} (h : Tab w) (hb : Below B w w') (hB : w.heap.size ≤ B) : Tab w' := Joins.tab_stays tabG h hb hB
theorem Tab.next {w w' : World} (h : Tab w) (hb : Below w.heap.size w w') : Tab w' := h.below hb (Nat.le_refl _)
theorem below_grow (w : World) (k : Nat) (os : Array Obj) : Below w.heap.size w (Sort.grow (w.drewN k) os) := by
  refine ⟨rfl, rfl, rfl, ?_, ?_⟩
  · show w.heap.size ≤ (w.heap ++ os).size
    simp
  · intro j hj
    show (w.heap ++ os)[j]? = w.heap[j]?
    rw [Array.getElem?_append_left hj]
theorem itoa_any (n : Nat) (w : World) (ht : Tab w) (hn : n ≤ 9223372036854775807) :
    Calls Tryz.prog 155 #[.int .i64 n] w fun e w' => e = .returned (.string (bA (M.dg n))) ∧ Below w.heap.size w w' := by
  have h := Any.strconv_Itoa Tryz.laysM171 (n : Int) (by omega) (by omega) w ht
  rw [Lib.itoa_nonneg] at h
  refine h.mono ?_
  rintro e w' ⟨rfl, k, os, rfl⟩
  exact ⟨rfl, below_grow w k os⟩

set_option maxRecDepth 100000 in
set_option maxHeartbeats 1000000 in
theorem less_yes (a n : Nat) (w : World) (ht : Tab w) (h : a < n) (hn : n ≤ 1099511627776) :
    Calls Tryz.prog 151 #[.string (bA (M.dg a)), .int .i64 n] w fun e w' => e = .returned (.tuple #[.string (bA (M.dg (n - a))), .bool true]) ∧ Below w.heap.size w w' := by
  have hla : (M.dg a).length ≤ 13 := M.dg_len_le a 13 (by omega) (by omega)
  have hln : (M.dg n).length ≤ 13 := M.dg_len_le n 13 (by omega) (by omega)
  have c1 := itoa_any n w ht (by omega)
  have c2 := fun W => cmpD_any a n W (by rw [bA_size]; omega) (by rw [bA_size]; omega)
  rw [show M.cmpZ (a : Int) (n : Int) = -1 by unfold M.cmpZ; rw [if_pos (by omega)]] at c2
  have hs : (bA (M.dg a)).size = (M.dg a).length := bA_size _
  have hl : (bA (M.dg a)).data.toList = M.dg a := bA_toList _
  have hv := M.dg_val a
  have hall := M.dg_all a
  rw [← hl] at hv hall
  obtain ⟨D, hD⟩ : ∃ D, bA (M.dg a) = D := ⟨_, rfl⟩
  rw [hD] at c2 hs hv hall ⊢
  have hDs : D.size ≤ 13 := by omega
  have HV := Lib.hid hv
  have HALL := Lib.hid hall
  have c3 := fun W (hW : Tab W) => itoa_any (n - a) W hW (by omega)
  generalize bA (M.dg n) = E at *
  generalize bA (M.dg (n - a)) = R at *
  clear hv hall hl hD hs hla hln
  go_enter Tryz.func151, Tryz.ntmps151
  go_wp2_with fail
  refine c1.mono ?_
  rintro r w1 ⟨rfl, hb1⟩
  go_wp2_with fail
  refine (c2 _).mono ?_
  rintro r w2 ⟨rfl, hb2⟩
  clear c1 c2
  have ht2 : Tab w2 := (ht.next hb1).next hb2
  have hb3 : Below w.heap.size w w2 := hb1.trans (hb2.mono hb1.size)
  clear hb1 hb2
  go_wp2
  go_loop [6, 18] (fun v i => ∃ k x : Nat, v = .int .i64 x ∧ i = .int .i64 k ∧ k ≤ D.size ∧ Hid (M.val 10 (D.data.toList.take k) = x)) (fun _ i => D.size - (intOf i).toNat)
  case atStart => exact ⟨0, 0, rfl, rfl, Nat.zero_le _, rfl⟩
  case round =>
    obtain ⟨k, x, rfl, rfl, hk, hst⟩ := hrel
    have hxa : x ≤ a := by rw [← hst.out, ← HV.out]; exact M.val_take_le 10 (by omega) _ _
    by_cases hlt : k < D.size
    · have hltd : decide (k < D.size) = true := by simpa using hlt
      have c1 := digitAt_any D k w2 hlt
      have hd : M.dv D[k] < 10 := (M.allD_iff _ _).1 HALL.out _ (List.mem_of_getElem? (get_list D k hlt))
      have hvs := M.val_snoc 10 (D.data.toList.take k) D[k]
      rw [← take_snoc D k hlt, hst.out] at hvs
      obtain ⟨d, hdd⟩ : ∃ d, M.dv D[k] = d := ⟨_, rfl⟩
      rw [hdd] at c1 hd hvs
      have HVS := Lib.hid hvs
      clear hdd hvs hst
      go_wp2_with (go_at_call 161; refine c1.mono ?_; rintro r w' ⟨rfl, rfl⟩)
      go_round
      case rel => exact ⟨k + 1, x * 10 + d, by go_num, by go_num, by omega, HVS.out⟩
      case measure => simp [intOf]; omega
    · obtain rfl : k = D.size := by omega
      have hltd : decide (D.size < D.size) = false := by simp
      have h1 := hst.out
      rw [take_all, HV.out] at h1
      subst h1
      have e : ((n - a : Nat) : Int) = (n : Int) - (a : Int) := by omega
      rw [e] at c3
      clear e hst
      go_wp2_with fail
      refine (c3 _ ht2).mono ?_
      rintro r w3 ⟨rfl, hb4⟩
      clear c3
      go_wp2
      go_ret2
      exact ⟨rfl, hb3.trans (hb4.mono hb3.size)⟩

theorem less_mem (w w1 : World) (D : ByteArray) (B : Nat) (ho : w1.ownsRow w.heap.size 5 1 (.slice (some ⟨w.heap.size, 0, none⟩) D.size D.size) D.size (madeCells (Value.int .u8 0).cells (D.size * 1)).toList) (hg : w.grownBy w1 none) (h0 : 0 < D.size) :
    ∃ W3, (∀ ty, (Builtin.copy_ #[22, 9] ty #[.slice (some ⟨w.heap.size, 0, none⟩) D.size D.size, .string D]).run Tryz.prog w1 = .ok (goInt D.size) W3) ∧ Row W3 w.heap.size D.data.toList ∧ Below w.heap.size w W3 := by
  have hr := Row.made ho
  have hb : Below w.heap.size w w1 := (Below.refl _ _).grown hg (Nat.le_refl _) (fun k hk => by cases hk)
  refine ⟨_, fun ty => Lib.run_copy_row_string _ 22 9 ty 5 w.heap.size 0 D.size D.size D _ 5 Tryz.underlying22 Tryz.info5s hr (Nat.le_refl _) (by simp [Lib.byteCells]), ?_⟩
  have hR3 : Row _ w.heap.size D.data.toList := hr.setRow D.data.toList
  have e : (List.take 0 (Lib.byteCells (List.replicate D.size 0)).toArray.toList ++ Lib.byteCells D.data.toList ++ List.drop (0 + D.size) (Lib.byteCells (List.replicate D.size 0)).toArray.toList) = Lib.byteCells D.data.toList := by
    rw [List.drop_of_length_le (by simp [Lib.byteCells]), List.append_nil]
    simp
  rw [e]
  exact ⟨hR3, below_setRow hb (Nat.le_refl _) _⟩
theorem set_at (p r : List UInt8) (c d : UInt8) (j : Nat) (h : p.length = j) : (p ++ c :: r).set j d = p ++ d :: r := by
  subst h
  rw [List.set_append]
  simp
theorem dig_u8 (k : Nat) (h : k < 10) : ((UInt8.ofNat (48 + k)).toNat : Int) = 48 + (k : Int) := by
  have : (UInt8.ofNat (48 + k)).toNat = 48 + k := by simp; omega
  rw [this]; omega
/-- What is left of the digits. -/
def LessPost (n a k : Nat) (e : Ending) : Prop := ∃ l : List UInt8, e = .returned (.tuple #[.string (bA l), .bool false]) ∧ l.length = k ∧ M.allD 10 l = true ∧ M.val 10 l + n = a
set_option maxRecDepth 100000 in
set_option maxHeartbeats 1000000 in
theorem less_no (a n : Nat) (w : World) (ht : Tab w) (h : n ≤ a) (hn : n ≤ 1099511627776) (hla : (M.dg a).length ≤ 10000) :
    Calls Tryz.prog 151 #[.string (bA (M.dg a)), .int .i64 n] w fun e w' => LessPost n a (M.dg a).length e ∧ Below w.heap.size w w' := by
  have hln : (M.dg n).length ≤ 13 := M.dg_len_le n 13 (by omega) (by omega)
  have c1 := itoa_any n w ht (by omega)
  have c2 := fun W => cmpD_any a n W (by rw [bA_size]; omega) (by rw [bA_size]; omega)
  obtain ⟨z, hz, hz0⟩ : ∃ z, M.cmpZ (a : Int) (n : Int) = z ∧ 0 ≤ z := ⟨_, rfl, by unfold M.cmpZ; rw [if_neg (by omega)]; split <;> omega⟩
  rw [hz] at c2
  have hzd : decide (z < 0) = false := by simp; omega
  have hs : (bA (M.dg a)).size = (M.dg a).length := bA_size _
  have hl : (bA (M.dg a)).data.toList = M.dg a := bA_toList _
  have hv := M.dg_val a
  have hall := M.dg_all a
  have hpos := M.dg_len_pos a
  rw [← hl] at hv hall
  obtain ⟨D, hD⟩ : ∃ D, bA (M.dg a) = D := ⟨_, rfl⟩
  rw [hD] at c2 hs hv hall ⊢
  rw [← hs] at hpos hla ⊢
  have HV := Lib.hid hv
  have HALL := Lib.hid hall
  generalize bA (M.dg n) = E at *
  clear hv hall hl hD hs hln hz hz0
  obtain ⟨i0, hi, hz0, hz1, hz2⟩ := info_parts Tryz.info5
  go_enter Tryz.func151, Tryz.ntmps151
  go_wp2_with fail
  refine c1.mono ?_
  rintro r w1 ⟨rfl, hb1⟩
  go_wp2_with fail
  refine (c2 _).mono ?_
  rintro r w2 ⟨rfl, hb2⟩
  clear c1 c2
  have hb3 : Below w.heap.size w w2 := hb1.trans (hb2.mono hb1.size)
  clear hb1 hb2
  go_wp2_with (first | (at_make; refine wpList_make_full w2 rfl (.tmp 34) (.tmp 34) 22 rfl w2.heap.size 5 i0 (.int .u8 0) 1 Tryz.underlying22 hi hz0 hz1 .i64 .i64 _ _ D.size rfl rfl (by simp) (by simp) (by rw [hz2]; omega) (by unfold maxLen; omega) (Nat.le_refl _) ?_; intro w3 ho1 hg1; obtain ⟨W3, hcp, hR3, hB3⟩ := less_mem w2 w3 D 0 ho1 hg1 hpos; clear ho1 hg1) | fail)
  have HR3 := Lib.hid hR3
  clear hR3 hcp
  go_loopw [1, 9] (fun nv iv wr => ∃ (m i : Nat) (z : Int) (r : List UInt8), nv = .int .i64 m ∧ iv = .int .i64 z ∧ z + 1 = i ∧ m ≤ 1099511627776 ∧ i ≤ D.size ∧ Hid (r.length + i = D.size) ∧ Hid (M.allD 10 r = true) ∧ Hid (M.val 10 (D.data.toList.take i ++ r) + n = a + m * 10 ^ r.length) ∧ Hid (Row wr w2.heap.size (D.data.toList.take i ++ r)) ∧ Below w2.heap.size w2 wr) (fun _ iv _ => (intOf iv + 1).toNat)
  case atStart => exact ⟨n, D.size, (D.size : Int) - 1, [], rfl, by go_num, by omega, hn, Nat.le_refl _, by show _ = _; simp, rfl, by show _ = _; rw [List.append_nil, take_all, HV.out]; simp, by show Row _ _ _; rw [List.append_nil, take_all]; exact HR3.out, hB3⟩
  case round =>
    obtain ⟨m, i, z, r, rfl, rfl, hz, hm, hi, hrl, hra, hst, hrow, hbw⟩ := hrel
    by_cases hgo : 0 < i ∧ 0 < m
    · obtain ⟨hi0, hm0⟩ := hgo
      obtain ⟨j, rfl⟩ : ∃ j, i = j + 1 := ⟨i - 1, by omega⟩
      obtain rfl : z = (j : Int) := by omega
      have hmd : decide (0 < m) = true := by simpa using hm0
      have hjl : j < D.size := by omega
      have c1 := digitAt_any D j wr hjl
      have hd : M.dv D[j] < 10 := (M.allD_iff _ _).1 HALL.out _ (List.mem_of_getElem? (get_list D j hjl))
      have hts := take_snoc D j hjl
      have hst1 := hst.out
      have hrow1 := hrow.out
      rw [hts, List.append_assoc] at hst1 hrow1
      have hstep := M.sub_step (D.data.toList.take j) r D[j] m n a hd hst1
      have htl : (D.data.toList.take j).length = j := by rw [List.length_take, ← sz_list]; omega
      have hfr := hrow1.frozen j
      obtain ⟨x, hx⟩ : ∃ x, wr.cell? ⟨w2.heap.size, j, none⟩ = some (.int .u8 x) := ⟨_, hrow1.cell j (by simp; omega)⟩
      have hset := hrow1.set j (UInt8.ofNat (48 + M.subD (M.dv D[j]) m))
      rw [List.singleton_append, set_at _ _ _ _ _ htl] at hset
      obtain ⟨d, hdd⟩ : ∃ d, M.dv D[j] = d := ⟨_, rfl⟩
      rw [hdd] at c1 hd hstep hset
      have HSET := Lib.hid hset
      have HSTEP := Lib.hid hstep
      clear hset hstep htl hrow hrow1 hst hst1 hts hdd
      by_cases hdm : d < m % 10
      · have hq : decide ((d : Int) - (m : Int) % 10 < 0) = true := by simp; omega
        go_wp2_with (go_at_call 161; refine c1.mono ?_; rintro r w' ⟨rfl, rfl⟩)
        go_roundw
        case rel =>
          have e2 : M.subN d m = m / 10 + 1 := by unfold M.subN; rw [if_pos hdm]
          have e3 : M.subD d m = d + 10 - m % 10 := by unfold M.subD; rw [if_pos hdm]
          have e1 : ((UInt8.ofNat (48 + M.subD d m)).toNat : Int) = 48 + ((d : Int) - (m : Int) % 10 + 10) := by rw [dig_u8 _ (by omega), e3]; omega
          have h1 := HSET.out
          rw [e1] at h1
          exact ⟨M.subN d m, j, (j : Int) - 1, UInt8.ofNat (48 + M.subD d m) :: r, by rw [e2]; exact congrArg _ (by omega), rfl, by omega, by omega, by omega, by show _ = _; rw [List.length_cons]; have := hrl.out; omega, allD_cons (M.dv_dig _ (by omega)) (by omega) hra.out, HSTEP.out, h1, hbw.setCell (Nat.le_refl _) _⟩
        case measure => simp [intOf]
      · have hq : decide ((d : Int) - (m : Int) % 10 < 0) = false := by simp; omega
        go_wp2_with (go_at_call 161; refine c1.mono ?_; rintro r w' ⟨rfl, rfl⟩)
        go_roundw
        case rel =>
          have e2 : M.subN d m = m / 10 := by unfold M.subN; rw [if_neg hdm]
          have e3 : M.subD d m = d - m % 10 := by unfold M.subD; rw [if_neg hdm]
          have e1 : ((UInt8.ofNat (48 + M.subD d m)).toNat : Int) = 48 + ((d : Int) - (m : Int) % 10) := by rw [dig_u8 _ (by omega), e3]; omega
          have h1 := HSET.out
          rw [e1] at h1
          exact ⟨M.subN d m, j, (j : Int) - 1, UInt8.ofNat (48 + M.subD d m) :: r, by rw [e2]; exact congrArg _ (by omega), rfl, by omega, by omega, by omega, by show _ = _; rw [List.length_cons]; have := hrl.out; omega, allD_cons (M.dv_dig _ (by omega)) (by omega) hra.out, HSTEP.out, h1, hbw.setCell (Nat.le_refl _) _⟩
        case measure => simp [intOf]
    · have hm0 : m = 0 := by
        rcases Nat.eq_zero_or_pos i with h0 | h0
        · have h1 := M.sub_room (D.data.toList.take i) r m n a hra.out h hst.out
          rw [h0, List.take_zero] at h1
          rw [show M.val 10 [] = 0 from rfl] at h1
          omega
        · omega
      subst hm0
      have hL : (D.data.toList.take i ++ r).length = D.size := by
        rw [List.length_append, List.length_take, ← sz_list]; have := hrl.out; omega
      have hLa : M.allD 10 (D.data.toList.take i ++ r) = true := by
        rw [M.allD_append, hra.out, Bool.and_true]
        have := HALL.out
        rw [← List.take_append_drop i D.data.toList, M.allD_append, Bool.and_eq_true] at this
        exact this.1
      have hLv : M.val 10 (D.data.toList.take i ++ r) + n = a := by have := hst.out; rwa [Nat.zero_mul, Nat.add_zero] at this
      have hcv := Row.conv0 hrow.out D.size
      rw [hL] at hcv
      obtain ⟨L, hLL⟩ : ∃ L, D.data.toList.take i ++ r = L := ⟨_, rfl⟩
      rw [hLL] at hL hLa hLv hcv
      have HL := Lib.hid hL
      have HLa := Lib.hid hLa
      have HLv := Lib.hid hLv
      clear hrow hst hL hLa hLv hLL hra hrl
      rcases Nat.eq_zero_or_pos i with h0 | h0
      · obtain rfl : z = -1 := by omega
        clear hz hgo h0 hi
        go_wp2
        go_ret2
        exact ⟨⟨L, rfl, HL.out, HLa.out, HLv.out⟩, hb3.trans (hbw.mono hb3.size)⟩
      · obtain ⟨j, rfl⟩ : ∃ j, i = j + 1 := ⟨i - 1, by omega⟩
        obtain rfl : z = (j : Int) := by omega
        clear hz hgo h0 hi
        go_wp2
        go_ret2
        exact ⟨⟨L, rfl, HL.out, HLa.out, HLv.out⟩, hb3.trans (hbw.mono hb3.size)⟩
end Go.Proofs.YtipgipgehnhgkaaGreatDoor

namespace Go.Proofs.YtipgipgehnhgkaaGreatDoor
open Go.RowKit

theorem dg_bA (a : Nat) : (bA (M.dg a)).size = (M.dg a).length ∧ M.allD 10 (bA (M.dg a)).data.toList = true ∧ M.val 10 (bA (M.dg a)).data.toList = a := by
  rw [bA_size, bA_toList]; exact ⟨rfl, M.dg_all a, M.dg_val a⟩
theorem read_dg (a : Nat) (w : World) (h : (bA (M.dg a)).size ≤ 100000) :
    Calls Tryz.prog 146 #[.string (bA (M.dg a))] w fun r w' => (∃ v ps, r = .returned v ∧ Own w' w.heap.size v ps ∧ M.Small ps ∧ M.pv ps = a ∧ ps.length ≤ (bA (M.dg a)).size) ∧ Below w.heap.size w w' := by
  have := read_any (bA (M.dg a)) w h (dg_bA a).2.1
  unfold ReadPost at this
  rwa [(dg_bA a).2.2] at this
theorem whole_list (neg : Bool) (l : List UInt8) (w : World) (hs : l.length ≤ 100000) (hd : M.allD 10 l = true) :
    Calls Tryz.prog 89 #[.bool neg, .string (bA l)] w fun e w' => e = .returned (.string (tx (M.sgn neg (M.val 10 l)))) ∧ Below w.heap.size w w' := by
  have := whole_any neg (bA l) w (by rw [bA_size]; exact hs) (by rw [bA_toList]; exact hd)
  rwa [bA_toList] at this

set_option maxRecDepth 100000 in
set_option maxHeartbeats 1000000 in
theorem add_nn (z : Int) (p : Nat) (w : World) (hz : z < 0) (hs : (tx z).size ≤ 6000) (hp : p ≤ 1099511627776) :
    Calls Tryz.prog 99 #[.string (tx z), .int .i64 (-(p : Int))] w fun e w' => e = .returned (.string (tx (z - p))) ∧ Below w.heap.size w w' := by
  have c1 := good_any (tx z) w (by omega)
  rw [tx_good] at c1
  have c2 := split_tx z w (by omega)
  rw [decide_eq_true hz] at c2
  have hds := dg_tx_size z
  have c3 := read_dg z.natAbs w (by omega)
  have hres : z - p = M.sgn true (z.natAbs * 1 + p) := by unfold M.sgn; simp; omega
  rw [hres]
  generalize z.natAbs = a at *
  generalize bA (M.dg a) = D at *
  generalize tx z = A at *
  clear hres hz
  have q1 : decide ((-(p : Int)) < (-1099511627776 : Int)) = false := decide_eq_false (by omega)
  have q2 : decide ((1099511627776 : Int) < (-(p : Int))) = false := decide_eq_false (by omega)
  have q3 : decide ((0 : Int) ≤ (p : Int)) = true := decide_eq_true (by omega)
  go_enter Tryz.func99, Tryz.ntmps99
  go_wp2_with fail
  refine c1.mono ?_
  rintro r w' ⟨rfl, rfl⟩
  go_wp2_with fail
  refine c2.mono ?_
  rintro r w' ⟨rfl, rfl⟩
  go_wp2_with fail
  refine c3.mono ?_
  rintro r w1 ⟨⟨v, ps, rfl, ho, hsm, hpv, hl⟩, hb1⟩
  subst hpv
  clear c1 c2 c3
  go_wp2_with fail
  refine (mulAdd_any v ps 1 p w.heap.size _ ho hsm hb1.size (by omega) (by omega) hp).mono ?_
  rintro r w2 ⟨⟨v2, ps2, rfl, ho2, hsm2, hpv2, hl2⟩, hb2⟩
  have HPV2 := Lib.hid hpv2
  clear hpv2 ho
  go_wp2_with fail
  refine (written_any v2 ps2 w.heap.size _ ho2 hsm2 (by omega)).mono ?_
  rintro r w3 ⟨rfl, hb3⟩
  go_wp2_with fail
  refine (ends_any true ps2 _ hsm2 (by omega)).mono ?_
  rintro r w4 ⟨rfl, hb4⟩
  clear ho2
  go_wp2
  go_ret
  have hz : w.heap.size ≤ w2.heap.size := Nat.le_trans hb1.size hb2.size
  exact ⟨by rw [HPV2.out]; rfl, ((hb1.trans hb2).trans (hb3.mono hz)).trans (hb4.mono (Nat.le_trans hz hb3.size))⟩

set_option maxRecDepth 100000 in
set_option maxHeartbeats 1000000 in
theorem add_pp (z : Int) (p : Nat) (w : World) (hz : ¬ z < 0) (hs : (tx z).size ≤ 6000) (hp : p ≤ 1099511627776) :
    Calls Tryz.prog 99 #[.string (tx z), .int .i64 ((p : Int))] w fun e w' => e = .returned (.string (tx (z + p))) ∧ Below w.heap.size w w' := by
  have c1 := good_any (tx z) w (by omega)
  rw [tx_good] at c1
  have c2 := split_tx z w (by omega)
  rw [decide_eq_false hz] at c2
  have hds := dg_tx_size z
  have c3 := read_dg z.natAbs w (by omega)
  have hres : z + p = M.sgn false (z.natAbs * 1 + p) := by unfold M.sgn; simp; omega
  rw [hres]
  generalize z.natAbs = a at *
  generalize bA (M.dg a) = D at *
  generalize tx z = A at *
  clear hres hz
  have q1 : decide (((p : Int)) < (-1099511627776 : Int)) = false := decide_eq_false (by omega)
  have q2 : decide ((1099511627776 : Int) < ((p : Int))) = false := decide_eq_false (by omega)
  have q3 : decide ((0 : Int) ≤ (p : Int)) = true := decide_eq_true (by omega)
  go_enter Tryz.func99, Tryz.ntmps99
  go_wp2_with fail
  refine c1.mono ?_
  rintro r w' ⟨rfl, rfl⟩
  go_wp2_with fail
  refine c2.mono ?_
  rintro r w' ⟨rfl, rfl⟩
  go_wp2_with fail
  refine c3.mono ?_
  rintro r w1 ⟨⟨v, ps, rfl, ho, hsm, hpv, hl⟩, hb1⟩
  subst hpv
  clear c1 c2 c3
  go_wp2_with fail
  refine (mulAdd_any v ps 1 p w.heap.size _ ho hsm hb1.size (by omega) (by omega) hp).mono ?_
  rintro r w2 ⟨⟨v2, ps2, rfl, ho2, hsm2, hpv2, hl2⟩, hb2⟩
  have HPV2 := Lib.hid hpv2
  clear hpv2 ho
  go_wp2_with fail
  refine (written_any v2 ps2 w.heap.size _ ho2 hsm2 (by omega)).mono ?_
  rintro r w3 ⟨rfl, hb3⟩
  go_wp2_with fail
  refine (ends_any false ps2 _ hsm2 (by omega)).mono ?_
  rintro r w4 ⟨rfl, hb4⟩
  clear ho2
  go_wp2
  go_ret
  have hz : w.heap.size ≤ w2.heap.size := Nat.le_trans hb1.size hb2.size
  exact ⟨by rw [HPV2.out]; rfl, ((hb1.trans hb2).trans (hb3.mono hz)).trans (hb4.mono (Nat.le_trans hz hb3.size))⟩

set_option maxRecDepth 100000 in
set_option maxHeartbeats 1000000 in
theorem add_np_yes (z : Int) (p : Nat) (w : World) (ht : Tab w) (hz : z < 0) (hs : (tx z).size ≤ 6000) (hp : p ≤ 1099511627776) (hp0 : 0 < p) (hlt : z.natAbs < p) :
    Calls Tryz.prog 99 #[.string (tx z), .int .i64 ((p : Int))] w fun e w' => e = .returned (.string (tx (z + p))) ∧ Below w.heap.size w w' := by
  have c1 := good_any (tx z) w (by omega)
  rw [tx_good] at c1
  have c2 := split_tx z w (by omega)
  rw [decide_eq_true hz] at c2
  have hds := dg_tx_size z
  rw [bA_size] at hds
  have c3 := less_yes z.natAbs p w ht hlt hp
  have hln : (M.dg (p - z.natAbs)).length ≤ 13 := M.dg_len_le _ 13 (by omega) (by omega)
  have c4 := fun W => whole_list false (M.dg (p - z.natAbs)) W (by omega) (M.dg_all _)
  have hres : z + p = M.sgn false (p - z.natAbs) := by unfold M.sgn; simp; omega
  rw [M.dg_val, ← hres] at c4
  generalize tx (z + p) = R at *
  generalize bA (M.dg (p - z.natAbs)) = E at *
  generalize bA (M.dg z.natAbs) = D at *
  generalize tx z = A at *
  clear hres hz hln hds hlt
  have q1 : decide (((p : Int)) < (-1099511627776 : Int)) = false := decide_eq_false (by omega)
  have q2 : decide ((1099511627776 : Int) < ((p : Int))) = false := decide_eq_false (by omega)
  have q3 : decide ((0 : Int) ≤ -(p : Int)) = false := decide_eq_false (by omega)
  go_enter Tryz.func99, Tryz.ntmps99
  go_wp2_with fail
  refine c1.mono ?_
  rintro r w' ⟨rfl, rfl⟩
  go_wp2_with fail
  refine c2.mono ?_
  rintro r w' ⟨rfl, rfl⟩
  go_wp2_with fail
  refine c3.mono ?_
  rintro r w1 ⟨rfl, hb1⟩
  clear c1 c2 c3
  go_wp2_with fail
  refine (c4 _).mono ?_
  rintro r w2 ⟨rfl, hb2⟩
  clear c4
  go_wp2
  go_ret
  exact ⟨rfl, hb1.trans (hb2.mono hb1.size)⟩
set_option maxRecDepth 100000 in
set_option maxHeartbeats 1000000 in
theorem add_np_no (z : Int) (p : Nat) (w : World) (ht : Tab w) (hz : z < 0) (hs : (tx z).size ≤ 6000) (hp : p ≤ 1099511627776) (hp0 : 0 < p) (hlt : p ≤ z.natAbs) :
    Calls Tryz.prog 99 #[.string (tx z), .int .i64 ((p : Int))] w fun e w' => e = .returned (.string (tx (z + p))) ∧ Below w.heap.size w w' := by
  have c1 := good_any (tx z) w (by omega)
  rw [tx_good] at c1
  have c2 := split_tx z w (by omega)
  rw [decide_eq_true hz] at c2
  have hds := dg_tx_size z
  rw [bA_size] at hds
  have c3 := less_no z.natAbs p w ht hlt hp (by omega)
  have hres : ∀ V : Nat, V + p = z.natAbs → z + p = M.sgn true V := by intro V hV; unfold M.sgn; simp; omega
  have HRES := Lib.hid hres
  generalize bA (M.dg z.natAbs) = D at *
  generalize tx z = A at *
  clear hres hz
  have q1 : decide (((p : Int)) < (-1099511627776 : Int)) = false := decide_eq_false (by omega)
  have q2 : decide ((1099511627776 : Int) < ((p : Int))) = false := decide_eq_false (by omega)
  have q3 : decide ((0 : Int) ≤ -(p : Int)) = false := decide_eq_false (by omega)
  go_enter Tryz.func99, Tryz.ntmps99
  go_wp2_with fail
  refine c1.mono ?_
  rintro r w' ⟨rfl, rfl⟩
  go_wp2_with fail
  refine c2.mono ?_
  rintro r w' ⟨rfl, rfl⟩
  go_wp2_with fail
  refine c3.mono ?_
  rintro r w1 ⟨⟨l, rfl, hll, hla, hlv⟩, hb1⟩
  clear c1 c2 c3
  have c4 := fun W => whole_list true l W (by omega) hla
  rw [← HRES.out _ hlv] at c4
  clear hla hlv
  go_wp2_with fail
  refine (c4 _).mono ?_
  rintro r w2 ⟨rfl, hb2⟩
  clear c4
  go_wp2
  go_ret
  exact ⟨rfl, hb1.trans (hb2.mono hb1.size)⟩

set_option maxRecDepth 100000 in
set_option maxHeartbeats 1000000 in
theorem add_pn_yes (z : Int) (p : Nat) (w : World) (ht : Tab w) (hz : ¬ z < 0) (hs : (tx z).size ≤ 6000) (hp : p ≤ 1099511627776) (hp0 : 0 < p) (hlt : z.natAbs < p) :
    Calls Tryz.prog 99 #[.string (tx z), .int .i64 (-(p : Int))] w fun e w' => e = .returned (.string (tx (z - p))) ∧ Below w.heap.size w w' := by
  have c1 := good_any (tx z) w (by omega)
  rw [tx_good] at c1
  have c2 := split_tx z w (by omega)
  rw [decide_eq_false hz] at c2
  have hds := dg_tx_size z
  rw [bA_size] at hds
  have c3 := less_yes z.natAbs p w ht hlt hp
  have hln : (M.dg (p - z.natAbs)).length ≤ 13 := M.dg_len_le _ 13 (by omega) (by omega)
  have c4 := fun W => whole_list true (M.dg (p - z.natAbs)) W (by omega) (M.dg_all _)
  have hres : z - p = M.sgn true (p - z.natAbs) := by unfold M.sgn; simp; omega
  rw [M.dg_val, ← hres] at c4
  generalize tx (z - p) = R at *
  generalize bA (M.dg (p - z.natAbs)) = E at *
  generalize bA (M.dg z.natAbs) = D at *
  generalize tx z = A at *
  clear hres hz hln hds hlt
  have q1 : decide ((-(p : Int)) < (-1099511627776 : Int)) = false := decide_eq_false (by omega)
  have q2 : decide ((1099511627776 : Int) < (-(p : Int))) = false := decide_eq_false (by omega)
  have q3 : decide ((0 : Int) ≤ -(p : Int)) = false := decide_eq_false (by omega)
  go_enter Tryz.func99, Tryz.ntmps99
  go_wp2_with fail
  refine c1.mono ?_
  rintro r w' ⟨rfl, rfl⟩
  go_wp2_with fail
  refine c2.mono ?_
  rintro r w' ⟨rfl, rfl⟩
  go_wp2_with fail
  refine c3.mono ?_
  rintro r w1 ⟨rfl, hb1⟩
  clear c1 c2 c3
  go_wp2_with fail
  refine (c4 _).mono ?_
  rintro r w2 ⟨rfl, hb2⟩
  clear c4
  go_wp2
  go_ret
  exact ⟨rfl, hb1.trans (hb2.mono hb1.size)⟩
set_option maxRecDepth 100000 in
set_option maxHeartbeats 1000000 in
theorem add_pn_no (z : Int) (p : Nat) (w : World) (ht : Tab w) (hz : ¬ z < 0) (hs : (tx z).size ≤ 6000) (hp : p ≤ 1099511627776) (hp0 : 0 < p) (hlt : p ≤ z.natAbs) :
    Calls Tryz.prog 99 #[.string (tx z), .int .i64 (-(p : Int))] w fun e w' => e = .returned (.string (tx (z - p))) ∧ Below w.heap.size w w' := by
  have c1 := good_any (tx z) w (by omega)
  rw [tx_good] at c1
  have c2 := split_tx z w (by omega)
  rw [decide_eq_false hz] at c2
  have hds := dg_tx_size z
  rw [bA_size] at hds
  have c3 := less_no z.natAbs p w ht hlt hp (by omega)
  have hres : ∀ V : Nat, V + p = z.natAbs → z - p = M.sgn false V := by intro V hV; unfold M.sgn; simp; omega
  have HRES := Lib.hid hres
  generalize bA (M.dg z.natAbs) = D at *
  generalize tx z = A at *
  clear hres hz
  have q1 : decide ((-(p : Int)) < (-1099511627776 : Int)) = false := decide_eq_false (by omega)
  have q2 : decide ((1099511627776 : Int) < (-(p : Int))) = false := decide_eq_false (by omega)
  have q3 : decide ((0 : Int) ≤ -(p : Int)) = false := decide_eq_false (by omega)
  go_enter Tryz.func99, Tryz.ntmps99
  go_wp2_with fail
  refine c1.mono ?_
  rintro r w' ⟨rfl, rfl⟩
  go_wp2_with fail
  refine c2.mono ?_
  rintro r w' ⟨rfl, rfl⟩
  go_wp2_with fail
  refine c3.mono ?_
  rintro r w1 ⟨⟨l, rfl, hll, hla, hlv⟩, hb1⟩
  clear c1 c2 c3
  have c4 := fun W => whole_list false l W (by omega) hla
  rw [← HRES.out _ hlv] at c4
  clear hla hlv
  go_wp2_with fail
  refine (c4 _).mono ?_
  rintro r w2 ⟨rfl, hb2⟩
  clear c4
  go_wp2
  go_ret
  exact ⟨rfl, hb1.trans (hb2.mono hb1.size)⟩

theorem add_yes (z n : Int) (w : World) (ht : Tab w) (hs : (tx z).size ≤ 6000) (h1 : -1099511627776 ≤ n) (h2 : n ≤ 1099511627776) :
    Calls Tryz.prog 99 #[.string (tx z), .int .i64 n] w fun e w' => e = .returned (.string (tx (z + n))) ∧ Below w.heap.size w w' := by
  by_cases hz : z < 0
  · by_cases hn : n ≤ 0
    · obtain ⟨p, rfl⟩ : ∃ p : Nat, n = -(p : Int) := ⟨n.natAbs, by omega⟩
      have := add_nn z p w hz hs (by omega)
      rwa [show z - (p : Int) = z + -(p : Int) by omega] at this
    · obtain ⟨p, rfl⟩ : ∃ p : Nat, n = (p : Int) := ⟨n.natAbs, by omega⟩
      by_cases hlt : z.natAbs < p
      · exact add_np_yes z p w ht hz hs (by omega) (by omega) hlt
      · exact add_np_no z p w ht hz hs (by omega) (by omega) (by omega)
  · by_cases hn : 0 ≤ n
    · obtain ⟨p, rfl⟩ : ∃ p : Nat, n = (p : Int) := ⟨n.natAbs, by omega⟩
      exact add_pp z p w hz hs (by omega)
    · obtain ⟨p, rfl⟩ : ∃ p : Nat, n = -(p : Int) := ⟨n.natAbs, by omega⟩
      rw [show z + -(p : Int) = z - (p : Int) by omega]
      by_cases hlt : z.natAbs < p
      · exact add_pn_yes z p w ht hz hs (by omega) (by omega) hlt
      · exact add_pn_no z p w ht hz hs (by omega) (by omega) (by omega)
set_option maxRecDepth 100000 in
theorem add_no (A : ByteArray) (n : Int) (w : World) (hA : A.size ≤ 6000) (h : M.goodB A.data.toList = false ∨ n < -1099511627776 ∨ 1099511627776 < n) :
    Calls Tryz.prog 99 #[.string A, .int .i64 n] w fun e w' => e = .returned (.string ⟨#[]⟩) ∧ w = w' := by
  have c1 := good_any A w (by omega)
  by_cases hg : M.goodB A.data.toList = true
  · rw [hg] at c1
    by_cases h1 : n < -1099511627776
    · have q1 : decide (n < (-1099511627776 : Int)) = true := decide_eq_true h1
      clear h h1 hg
      go_enter Tryz.func99, Tryz.ntmps99
      go_wp2_with fail
      refine c1.mono ?_
      rintro r w' ⟨rfl, rfl⟩
      go_wp2
      go_ret
      exact ⟨rfl, rfl⟩
    · have h2 : 1099511627776 < n := by
        rcases h with h | h | h
        · rw [hg] at h; cases h
        · exact absurd h h1
        · exact h
      have q1 : decide (n < (-1099511627776 : Int)) = false := decide_eq_false h1
      have q2 : decide ((1099511627776 : Int) < n) = true := decide_eq_true h2
      clear h h1 hg h2
      go_enter Tryz.func99, Tryz.ntmps99
      go_wp2_with fail
      refine c1.mono ?_
      rintro r w' ⟨rfl, rfl⟩
      go_wp2
      go_ret
      exact ⟨rfl, rfl⟩
  · rw [show M.goodB A.data.toList = false by simpa using hg] at c1
    clear hg h
    go_enter Tryz.func99, Tryz.ntmps99
    go_wp2_with fail
    refine c1.mono ?_
    rintro r w' ⟨rfl, rfl⟩
    go_wp2
    go_ret
    exact ⟨rfl, rfl⟩
end Go.Proofs.YtipgipgehnhgkaaGreatDoor

namespace Go.Proofs.YtipgipgehnhgkaaGreatDoor
open Go.RowKit

def JoinPost (B T n : Nat) (r : Ending) (w' : World) : Prop := ∃ v ps, r = .returned v ∧ Own w' B v ps ∧ M.Small ps ∧ M.pv ps = T ∧ ps.length ≤ n
theorem join_step (P m k b d v : Nat) (h : P * m + k = v) : P * (m * b) + (k * b + d) = v * b + d := by
  rw [← h, Nat.add_mul, Nat.mul_assoc, Nat.add_assoc]
def JRel (s : ByteArray) (b : Nat) (w : World) (sv : Value) (m k i : Nat) (wr : World) : Prop :=
  ∃ ds : List Nat, 1 ≤ m ∧ m * b ≤ 1099511627776 ∧ k < m ∧ i ≤ s.size ∧ ds.length ≤ 2 * i ∧ M.Small ds ∧ M.pv ds * m + k = M.val b (s.data.toList.take i) ∧ Own wr w.heap.size sv ds ∧ Below w.heap.size w wr

set_option maxRecDepth 100000 in
set_option maxHeartbeats 4000000 in
theorem joined_any (s : ByteArray) (b : Nat) (w : World) (hb : b = 2 ∨ b = 8 ∨ b = 16) (hs : s.size ≤ 10000) (hd : M.allD b s.data.toList = true) :
    Calls Tryz.prog 113 #[.string s, .int .u64 b] w fun r w' => JoinPost w.heap.size (M.val b s.data.toList) (2 * s.size + 2) r w' ∧ Below w.heap.size w w' := by
  have HD := Lib.hid hd
  clear hd
  have hb2 : 2 ≤ b ∧ b ≤ 16 := by omega
  have hbz : (b : Int) = 2 ∨ (b : Int) = 8 ∨ (b : Int) = 16 := by omega
  have HBZ := Lib.hid hb
  clear hb hbz
  go_enter Tryz.func113, Tryz.ntmps113
  go_wp2_with fail
  go_loopw [5, 6, 7, 11] (fun sv mv kv iv wr => ∃ (m k i : Nat), mv = .int .u64 (m : Int) ∧ kv = .int .u64 (k : Int) ∧ iv = .int .i64 (i : Int) ∧ JRel s b w sv m k i wr) (fun _ _ _ iv _ => s.size - (intOf iv).toNat)
  case atStart => exact ⟨1, 0, 0, rfl, rfl, rfl, [], by omega, by omega, by omega, by omega, by simp, M.Small.nil, by simp [M.val, M.pv], Own.nil _ _, Below.refl _ _⟩
  case round =>
    obtain ⟨m, k, i, rfl, rfl, rfl, ds, hm1, hmb, hkm, hi, hdl, hsd, hst, hown, hbw⟩ := hrel
    have hwsz : w.heap.size ≤ wr.heap.size := hbw.size
    by_cases hlt : i < s.size
    · have hltd : decide (i < s.size) = true := by simpa using hlt
      have c1 := digitAt_any s i wr hlt
      have hdv : M.dv s[i] < b := (M.allD_iff _ _).1 HD.out _ (List.mem_of_getElem? (get_list s i hlt))
      have hvs := M.val_snoc b (s.data.toList.take i) s[i]
      rw [← take_snoc s i hlt] at hvs
      obtain ⟨d, hdd⟩ : ∃ d, M.dv s[i] = d := ⟨_, rfl⟩
      rw [hdd] at c1 hdv hvs
      have hjs := join_step (M.pv ds) m k b d _ hst
      rw [← hvs] at hjs
      have hkb : k * b + d < m * b := by
        have : (k + 1) * b ≤ m * b := Nat.mul_le_mul_right _ hkm
        rw [Nat.add_mul] at this; omega
      have hm1' : 1 ≤ m * b := by have := Nat.mul_le_mul hm1 hb2.1; omega
      have hmbb : m * b * b ≤ 17592186044416 := by have := Nat.mul_le_mul hmb hb2.2; omega
      obtain ⟨m', hm'⟩ : ∃ m', m * b = m' := ⟨_, rfl⟩
      obtain ⟨k', hk'⟩ : ∃ k', k * b = k' := ⟨_, rfl⟩
      obtain ⟨m2, hm2⟩ : ∃ m2, m' * b = m2 := ⟨_, rfl⟩
      rw [hm'] at hjs hkb hm1' hmbb hmb
      rw [hk'] at hjs hkb
      rw [hm2] at hmbb
      have e1 : (m : Int) * (b : Int) = (m' : Int) := by rw [← Int.natCast_mul, hm']
      have e2 : (k : Int) * (b : Int) = (k' : Int) := by rw [← Int.natCast_mul, hk']
      have e3 : (m' : Int) * (b : Int) = (m2 : Int) := by rw [← Int.natCast_mul, hm2]
      have HJS := Lib.hid hjs
      have HM2 := Lib.hid hm2
      clear hm' hk' hm2 hjs hvs hdd hst
      by_cases hgt : 1099511627776 < m2
      · have hgd : decide ((1099511627776 : Int) < (m2 : Int)) = true := by simp; omega
        have c2 := fun W (h : Own W w.heap.size u5 ds) (hW : w.heap.size ≤ W.heap.size) => mulAdd_any u5 ds m' (k' + d) w.heap.size W h hsd hW (by omega) (by omega) (by omega)
        have e4 : ((k' + d : Nat) : Int) = (k' : Int) + (d : Int) := by omega
        rw [e4] at c2
        clear e4
        go_wp2_with (go_at_call 161; refine c1.mono ?_; rintro r w' ⟨rfl, rfl⟩)
        refine (c2 _ hown hwsz).mono ?_
        rintro r w5 ⟨⟨v5, ds5, rfl, ho5, hs5, hp5, hl5⟩, hb5⟩
        have HP5 := Lib.hid hp5
        have HO5 := Lib.hid ho5
        clear c2 c1 e1 e2 e3 hown hp5 ho5 HM2
        go_wp2
        go_roundw
        case rel => exact ⟨1, 0, i + 1, rfl, rfl, by go_num, ds5, by omega, by omega, by omega, by omega, by omega, hs5, by rw [HP5.out, ← HJS.out]; omega, HO5.out, hbw.trans hb5⟩
        case measure => simp [intOf]; omega
      · have hgd : decide ((1099511627776 : Int) < (m2 : Int)) = false := by simp; omega
        go_wp2_with (go_at_call 161; refine c1.mono ?_; rintro r w' ⟨rfl, rfl⟩)
        go_roundw
        case rel => exact ⟨m', k' + d, i + 1, rfl, by go_num, by go_num, ds, hm1', by rw [HM2.out]; omega, by omega, by omega, by omega, hsd, HJS.out, hown, hbw⟩
        case measure => simp [intOf]; omega
    · obtain rfl : i = s.size := by omega
      have hltd : decide (s.size < s.size) = false := by simp
      rw [take_all] at hst
      have hmS : m ≤ 1099511627776 := Nat.le_trans (Nat.le_mul_of_pos_right _ (by omega)) hmb
      have HST := Lib.hid hst
      have HMB := Lib.hid hmb
      clear hst hmb
      have c2 := mulAdd_any u5 ds m k w.heap.size wr hown hsd hwsz (by omega) hmS (by omega)
      go_wp2_with fail
      refine c2.mono ?_
      rintro r w5 ⟨⟨v5, ds5, rfl, ho5, hs5, hp5, hl5⟩, hb5⟩
      have HP5 := Lib.hid hp5
      have HO5 := Lib.hid ho5
      clear c2 hown hp5 ho5
      go_wp2
      go_ret
      exact ⟨⟨v5, ds5, rfl, HO5.out, hs5, by rw [HP5.out, HST.out], by omega⟩, hbw.trans hb5⟩
end Go.Proofs.YtipgipgehnhgkaaGreatDoor

namespace Go.Proofs.YtipgipgehnhgkaaGreatDoor
open Go.RowKit

set_option maxRecDepth 100000 in
set_option maxHeartbeats 1000000 in
theorem base_yes (s : ByteArray) (b : Nat) (w : World) (hb : b = 2 ∨ b = 8 ∨ b = 16) (hs : s.size ≤ 6000) (hd : M.okD b s.data.toList = true) :
    Calls Tryz.prog 61 #[.string s, .int .i64 b] w fun r w' => r = .returned (.string (tx (M.val b s.data.toList : Nat))) ∧ Below w.heap.size w w' := by
  have c1 := digitsOf_any s b w (by omega) (by omega)
  rw [hd] at c1
  have c2 := joined_any s b w hb (by omega) ((M.okD_iff _ _).1 hd).2
  obtain ⟨T, hT⟩ : ∃ T, M.val b s.data.toList = T := ⟨_, rfl⟩
  rw [hT] at c2 ⊢
  clear hd hT
  rcases hb with rfl | rfl | rfl
  all_goals
    go_enter Tryz.func61, Tryz.ntmps61
    go_wp2_with fail
    refine c1.mono ?_
    rintro r w' ⟨rfl, rfl⟩
    go_wp2_with fail
    refine c2.mono ?_
    rintro r w2 ⟨⟨v, ps, rfl, ho, hsm, hpv, hl⟩, hb2⟩
    subst hpv
    clear c1 c2
    go_wp2_with fail
    refine (written_any v ps w.heap.size _ ho hsm (by omega)).mono ?_
    rintro r w3 ⟨rfl, hb3⟩
    go_wp2_with fail
    refine (ends_any false ps _ hsm (by omega)).mono ?_
    rintro r w4 ⟨rfl, hb4⟩
    clear ho
    go_wp2
    go_ret
    exact ⟨rfl, (hb2.trans (hb3.mono hb2.size)).trans (hb4.mono (Nat.le_trans hb2.size hb3.size))⟩
set_option maxRecDepth 100000 in
theorem base_no (s : ByteArray) (b : Nat) (w : World) (hb : b = 2 ∨ b = 8 ∨ b = 16) (hs : s.size ≤ 6000) (hd : M.okD b s.data.toList = false) :
    Calls Tryz.prog 61 #[.string s, .int .i64 b] w fun r w' => r = .returned (.string ⟨#[]⟩) ∧ w = w' := by
  have c1 := digitsOf_any s b w (by omega) (by omega)
  rw [hd] at c1
  clear hd
  rcases hb with rfl | rfl | rfl
  all_goals
    go_enter Tryz.func61, Tryz.ntmps61
    go_wp2_with fail
    refine c1.mono ?_
    rintro r w' ⟨rfl, rfl⟩
    go_wp2
    go_ret
    exact ⟨rfl, rfl⟩
theorem base_other (s : ByteArray) (b : Int) (w : World) (hb : ¬ (b = 2 ∨ b = 8 ∨ b = 16)) :
    Calls Tryz.prog 61 #[.string s, .int .i64 b] w fun r w' => r = .returned (.string ⟨#[]⟩) ∧ w = w' := by
  have h1 : (b == 2) = false := by simp; omega
  have h2 : (b == 8) = false := by simp; omega
  have h3 : (b == 16) = false := by simp; omega
  clear hb
  go_enter Tryz.func61, Tryz.ntmps61
  go_wp2
  go_ret
  exact ⟨rfl, rfl⟩

end Go.Proofs.YtipgipgehnhgkaaGreatDoor

namespace Go.Proofs.YtipgipgehnhgkaaGreatDoor
open Go.RowKit

/-- A text that does not end with a nought. -/
def EndsWell (l : List UInt8) : Prop := l.getLast? ≠ some 48
theorem last_list (t : ByteArray) (h : 0 < t.size) : t.data.toList = t.data.toList.take (t.size - 1) ++ [t[t.size - 1]'(by omega)] := by
  have := take_snoc t (t.size - 1) (by omega)
  rw [show t.size - 1 + 1 = t.size by omega, take_all] at this
  exact this
theorem extract_take (t : ByteArray) (n : Nat) : (t.extract 0 n).data.toList = t.data.toList.take n := by
  simp only [ByteArray.data_extract, Array.toList_extract, List.extract_eq_take_drop, List.drop_zero, Nat.sub_zero]

set_option maxRecDepth 100000 in
set_option maxHeartbeats 1000000 in
theorem trimRByte_any (l : List UInt8) (z : Nat) (s : ByteArray) (w : World) (hs : s.size ≤ 1000000) (hl : EndsWell l) (he : s.data.toList = l ++ M.zs z) :
    Calls Tryz.prog 148 #[.string s, .int .u8 48] w fun e w' => e = .returned (.string (bA l)) ∧ w = w' := by
  have HE := Lib.hid he
  have HL := Lib.hid hl
  clear he hl
  go_enter Tryz.func148, Tryz.ntmps148
  go_wp2
  go_loop [0] (fun v => ∃ (t : ByteArray) (k : Nat), v = .string t ∧ t.size ≤ s.size ∧ Hid (t.data.toList = l ++ M.zs k)) (fun v => match v with | .string t => t.size | _ => 0)
  case atStart => exact ⟨s, z, rfl, Nat.le_refl _, HE.out⟩
  case round =>
    obtain ⟨t, k, rfl, ht, hst⟩ := hrel
    by_cases h0 : 0 < t.size
    · have hlast := last_list t h0
      match k, hst with
      | 0, hst =>
        have e1 : t.data.toList = l := by rw [hst.out]; simp
        have h1 : ¬ (t[t.size - 1]'(by omega)).toNat = 48 := by
          intro e
          have e48 : t[t.size - 1]'(by omega) = 48 := UInt8.toNat_inj.1 e
          apply HL.out
          rw [← e1, hlast, e48]; simp
        have hb : (((t[t.size - 1]'(by omega)).toNat : Int) == 48) = false := by simp; omega
        have E1 := Lib.hid e1
        clear hlast e1 h1 hst
        go_wp2
        go_ret
        exact ⟨ret_str (eq_bA E1.out), rfl⟩
      | k + 1, hst =>
        have e0 := hst.out
        rw [← M.zs_snoc, ← List.append_assoc] at e0
        have e1 := hlast.symm.trans e0
        obtain ⟨e2, e3⟩ := List.append_inj' e1 rfl
        have h1 : (t[t.size - 1]'(by omega)).toNat = 48 := by
          have := List.head_eq_of_cons_eq e3
          rw [this]; rfl
        have E2 := Lib.hid e2
        clear hlast e0 e1 e2 e3 hst
        go_wp2
        go_round
        case rel => exact ⟨_, k, rfl, by simp; omega, by show _ = _; rw [extract_take]; exact E2.out⟩
        case measure => simp; omega
    · have hz : t.data.toList = [] := by
        have := sz_list t
        exact List.eq_nil_of_length_eq_zero (by omega)
      have hl0 : l = [] := by
        have := hst.out
        rw [hz] at this
        exact (List.append_eq_nil_iff.1 this.symm).1
      have HZ := Lib.hid hz
      clear hz hst
      go_wp2
      go_ret
      exact ⟨ret_str (eq_bA HZ.out), rfl⟩

set_option maxRecDepth 100000 in
theorem trimRight_any (l : List UInt8) (z : Nat) (s : ByteArray) (w : World) (hs : s.size ≤ 1000000) (h0 : 0 < s.size) (hl : EndsWell l) (he : s.data.toList = l ++ M.zs z) :
    Calls Tryz.prog 98 #[.string s, .string ⟨#[48]⟩] w fun e w' => e = .returned (.string (bA l)) ∧ w = w' := by
  have c1 := fun W => trimRByte_any l z s W hs hl he
  have hne : s.data.toList ≠ [] := by intro h; rw [sz_list, h] at h0; exact absurd h0 (by simp)
  have h1 : (s.toList == []) = false := by rw [ByteArray.toList_eq]; simpa using hne
  have h2 : s.toList.isEmpty = false := by rw [ByteArray.toList_eq]; simpa using hne
  clear hne he hl
  generalize bA l = R at *
  go_enter Tryz.func98, Tryz.ntmps98
  go_wp2_with fail
  refine (c1 _).mono ?_
  rintro r w' ⟨rfl, rfl⟩
  go_wp2
  go_ret
  exact ⟨rfl, rfl⟩
end Go.Proofs.YtipgipgehnhgkaaGreatDoor

namespace Go.Proofs.YtipgipgehnhgkaaGreatDoor
open Go.RowKit

theorem both_list (a b : ByteArray) : (a ++ b).data.toList = a.data.toList ++ b.data.toList := append_list a b
theorem below_new {w w1 : World} {o : Obj} (h : Below (w.alloc o).heap.size (w.alloc o) w1) : Below w.heap.size w w1 := ((Below.refl _ _).alloc (Nat.le_refl _) _).trans (h.mono (by simp))
set_option maxRecDepth 100000 in
set_option maxHeartbeats 1000000 in
theorem make_no (neg : Bool) (A F X : ByteArray) (w : World) (hA : A.size ≤ 1000) (hF : F.size ≤ 1000) (hX : X.size ≤ 1000)
    (h : M.okD 10 (A.data.toList ++ F.data.toList) = false ∨ M.goodB X.data.toList = false) :
    Calls Tryz.prog 52 #[.bool neg, .string A, .string F, .string X] w fun e w' => e = .returned (.tuple #[dZ, .bool false]) ∧ Below w.heap.size w w' := by
  have hsz : (A ++ F).size ≤ 2000 := by rw [append_sz]; omega
  by_cases h1 : M.okD 10 (A.data.toList ++ F.data.toList) = true
  · have h2 : M.goodB X.data.toList = false := by
      rcases h with h | h
      · rw [h1] at h; cases h
      · exact h
    have c1 := fun W => norm_yes false (A ++ F) W (by omega) (by rw [both_list]; exact h1)
    have c2 := fun W => good_any X W (by omega)
    rw [h2] at c2
    have hne : ((tx (M.sgn false (M.val 10 (A ++ F).data.toList))).toList == []) = false := by
      rw [ByteArray.toList_eq, tx_list]; simpa using M.txt_ne _
    have hne2 : (tx (M.sgn false (M.val 10 (A ++ F).data.toList))).toList.isEmpty = false := by
      rw [ByteArray.toList_eq, tx_list]; simpa using M.txt_ne _
    generalize tx (M.sgn false (M.val 10 (A ++ F).data.toList)) = R at *
    clear h h1 h2 hsz
    go_enter Tryz.func52, Tryz.ntmps52
    go_wp2_with fail
    refine (c1 _).mono ?_
    rintro r w1 ⟨rfl, hb1⟩
    have K1 := (Blk.made w 0 false ⟨#[]⟩ ⟨#[]⟩).next hb1
    have B1 : Below w.heap.size w w1 := below_new hb1
    clear hb1
    obtain ⟨g, hg⟩ : ∃ g, w.heap.size = g := ⟨_, rfl⟩
    rw [hg] at K1 B1 ⊢
    obtain ⟨k0, k1, k2, k3⟩ := K1.cells
    obtain ⟨f0, f1, f2, f3⟩ := K1.fro
    go_wp2_with fail
    refine (c2 _).mono ?_
    rintro r w' ⟨rfl, rfl⟩
    go_wp2
    exact bodyPost_ret (ret_dec Tryz.results52 _ rfl rfl (K1.set 0 false _ _)) rfl ⟨rfl, below_set4 (hg ▸ B1) (by omega) _ _ _ _⟩
  · have h1' : M.okD 10 (A.data.toList ++ F.data.toList) = false := by simpa using h1
    have c1 := fun W => norm_no false (A ++ F) W (by omega) (by rw [both_list]; exact h1')
    clear h h1 h1' hsz
    go_enter Tryz.func52, Tryz.ntmps52
    go_wp2_with fail
    refine (c1 _).mono ?_
    rintro r w' ⟨rfl, rfl⟩
    go_wp2
    exact bodyPost_ret (ret_dec Tryz.results52 _ rfl rfl (Blk.made w 0 false ⟨#[]⟩ ⟨#[]⟩)) rfl ⟨rfl, (Below.refl _ _).alloc (Nat.le_refl _) _⟩
theorem dg_ends (c : Nat) (hc : c % 10 ≠ 0) : EndsWell (M.dg c) := M.dg_core_last c hc
set_option maxRecDepth 100000 in
set_option maxHeartbeats 1000000 in
theorem make_zero (neg : Bool) (A F : ByteArray) (z : Int) (w : World) (hA : A.size ≤ 1000) (hF : F.size ≤ 1000) (hX : (tx z).size ≤ 1000)
    (h : M.okD 10 (A.data.toList ++ F.data.toList) = true) (hv : M.val 10 (A.data.toList ++ F.data.toList) = 0) :
    Calls Tryz.prog 52 #[.bool neg, .string A, .string F, .string (tx z)] w fun e w' => e = .returned (.tuple #[dV 0 neg ⟨#[48]⟩ ⟨#[48]⟩, .bool true]) ∧ Below w.heap.size w w' := by
  have hsz : (A ++ F).size ≤ 2000 := by rw [append_sz]; omega
  have c1 := fun W => norm_yes false (A ++ F) W (by omega) (by rw [both_list]; exact h)
  rw [both_list, hv, M.sgn_zero, tx0] at c1
  have c2 := fun W => good_any (tx z) W (by omega)
  rw [tx_good] at c2
  generalize tx z = X at *
  clear h hv hsz
  go_enter Tryz.func52, Tryz.ntmps52
  go_wp2_with fail
  refine (c1 _).mono ?_
  rintro r w1 ⟨rfl, hb1⟩
  have K1 := (Blk.made w 0 false ⟨#[]⟩ ⟨#[]⟩).next hb1
  have B1 : Below w.heap.size w w1 := below_new hb1
  clear hb1
  obtain ⟨g, hg⟩ : ∃ g, w.heap.size = g := ⟨_, rfl⟩
  rw [hg] at K1 B1 ⊢
  obtain ⟨k0, k1, k2, k3⟩ := K1.cells
  obtain ⟨f0, f1, f2, f3⟩ := K1.fro
  go_wp2_with fail
  refine (c2 _).mono ?_
  rintro r w' ⟨rfl, rfl⟩
  go_wp2
  exact bodyPost_ret (ret_dec Tryz.results52 _ rfl rfl (K1.set 0 neg _ _)) rfl ⟨rfl, below_set4 (hg ▸ B1) (by omega) _ _ _ _⟩
set_option maxRecDepth 100000 in
set_option maxHeartbeats 1000000 in
theorem make_yes (neg : Bool) (A F : ByteArray) (z : Int) (c t : Nat) (w : World) (ht : Tab w) (hA : A.size ≤ 1000) (hF : F.size ≤ 1000) (hX : (tx z).size ≤ 1000)
    (h : M.okD 10 (A.data.toList ++ F.data.toList) = true) (hc : c % 10 ≠ 0) (hv : M.val 10 (A.data.toList ++ F.data.toList) = c * 10 ^ t) :
    Calls Tryz.prog 52 #[.bool neg, .string A, .string F, .string (tx z)] w fun e w' => e = .returned (.tuple #[dV 0 neg (bA (M.dg c)) (tx (z + ((t : Int) - F.size))), .bool true]) ∧ Below w.heap.size w w' := by
  have hsz : (A ++ F).size ≤ 2000 := by rw [append_sz]; omega
  have c1 := fun W => norm_yes false (A ++ F) W (by omega) (by rw [both_list]; exact h)
  have hall := ((M.okD_iff _ _).1 h).2
  have hlt := M.val_lt 10 _ hall
  rw [hv, List.length_append, ← sz_list, ← sz_list] at hlt
  have hdl : (M.dg (c * 10 ^ t)).length ≤ A.size + F.size := M.dg_len_le _ _ (by
    have := ((M.okD_iff _ _).1 h).1
    have h2 := List.length_pos_iff.2 this
    rw [List.length_append, ← sz_list, ← sz_list] at h2; exact h2) hlt
  rw [M.dg_pow c t (M.c_pos hc), List.length_append, List.length_replicate] at hdl
  rw [both_list, hv, show M.sgn false (c * 10 ^ t) = ((c * 10 ^ t : Nat) : Int) from rfl] at c1
  have htl : (tx ((c * 10 ^ t : Nat) : Int)).data.toList = M.dg c ++ M.zs t := by rw [tx_list, M.txt_nat, M.dg_pow c t (M.c_pos hc)]
  have c2 := fun W => good_any (tx z) W (by omega)
  rw [tx_good] at c2
  have hTs : (tx ((c * 10 ^ t : Nat) : Int)).size = (M.dg c).length + t := by rw [sz_list, htl, List.length_append, List.length_replicate]
  have hcl := M.dg_len_pos c
  have hne : ((tx ((c * 10 ^ t : Nat) : Int)).toList == []) = false := by rw [ByteArray.toList_eq, tx_list]; simpa using M.txt_ne _
  have hne2 : (tx ((c * 10 ^ t : Nat) : Int)).toList.isEmpty = false := by rw [ByteArray.toList_eq, tx_list]; simpa using M.txt_ne _
  have hne3 : ((tx ((c * 10 ^ t : Nat) : Int)).toList == [48]) = false := by
    rw [ByteArray.toList_eq, tx_list, M.txt_nat]
    have := M.ct_pos t hc
    simp
    intro e
    have h2 := congrArg (M.val 10) e
    rw [M.dg_val] at h2
    rw [h2] at this
    exact absurd this (by decide)
  have c3 := fun W => trimRight_any (M.dg c) t (tx ((c * 10 ^ t : Nat) : Int)) W (by omega) (by omega) (dg_ends c hc) htl
  have c4 := fun W (hW : Tab W) => add_yes z ((t : Int) - F.size) W hW (by omega) (by omega) (by omega)
  have hds : (bA (M.dg c)).size = (M.dg c).length := bA_size _
  rw [← hds] at hTs hdl hcl
  generalize tx (z + ((t : Int) - F.size)) = R at *
  generalize tx ((c * 10 ^ t : Nat) : Int) = V at *
  generalize bA (M.dg c) = D at *
  generalize tx z = X at *
  rw [show (t : Int) - F.size = (V.size : Int) - D.size - F.size by omega] at c4
  have v1 : D.size ≤ V.size := by omega
  have v2 : V.size ≤ 2000 := by omega
  clear h hv hsz hall hlt htl hds hc hTs hdl hcl
  go_enter Tryz.func52, Tryz.ntmps52
  go_wp2_with fail
  refine (c1 _).mono ?_
  rintro r w1 ⟨rfl, hb1⟩
  have K1 := (Blk.made w 0 false ⟨#[]⟩ ⟨#[]⟩).next hb1
  have B1 : Below w.heap.size w w1 := below_new hb1
  have T1 := ht.next B1
  clear hb1
  obtain ⟨g, hg⟩ : ∃ g, w.heap.size = g := ⟨_, rfl⟩
  rw [hg] at K1 B1 ⊢
  go_wp2_with fail
  refine (c2 _).mono ?_
  rintro r w' ⟨rfl, rfl⟩
  go_wp2_with fail
  refine (c3 _).mono ?_
  rintro r w' ⟨rfl, rfl⟩
  go_wp2_with fail
  refine (c4 _ T1).mono ?_
  rintro r w2 ⟨rfl, hb2⟩
  have K2 := K1.next hb2
  have B2 : Below w.heap.size w w2 := (hg ▸ B1).trans (hb2.mono (hg ▸ B1).size)
  obtain ⟨k0, k1, k2, k3⟩ := K2.cells
  obtain ⟨f0, f1, f2, f3⟩ := K2.fro
  clear K1 B1 hb2
  go_wp2
  exact bodyPost_ret (ret_dec Tryz.results52 _ rfl rfl (K2.set 0 neg _ _)) rfl ⟨rfl, below_set4 B2 (by omega) _ _ _ _⟩
end Go.Proofs.YtipgipgehnhgkaaGreatDoor
