/- Walks: strconv.Itoa off the shelf, big.less. -/
import Derived.Test.YtocegiffbgnogaaDoorWi
import Derived.Test.YtocegiffbgnogaaDoorShelf
import Derived.Lib.SmallJoins
set_option linter.unusedVariables false
namespace Go.Proofs.YtocegiffbgnogaaDoor
open Go.RowKit

/-- The table of powers of ten lies there. -/
def Tab (w : World) : Prop := Lib.TabIs Tryd.prog w "internal/strconv.uint64pow10" .u64 Lib.pow10Tab
theorem tabG : Tryd.prog.globalNamed "internal/strconv.uint64pow10" = some 3 := by kernel_rfl
theorem Tab.below {w w' : World} {B : Nat} (h : Tab w) (hb : Below B w w') (hB : w.heap.size ≤ B) : Tab w' := Joins.tab_stays tabG h hb hB
theorem Tab.next {w w' : World} (h : Tab w) (hb : Below w.heap.size w w') : Tab w' := h.below hb (Nat.le_refl _)
theorem below_grow (w : World) (k : Nat) (os : Array Obj) : Below w.heap.size w (Sort.grow (w.drewN k) os) := by
  refine ⟨rfl, rfl, rfl, ?_, ?_⟩
  · show w.heap.size ≤ (w.heap ++ os).size
    simp
  · intro j hj
    show (w.heap ++ os)[j]? = w.heap[j]?
    rw [Array.getElem?_append_left hj]
theorem itoa_any (n : Nat) (w : World) (ht : Tab w) (hn : n ≤ 9223372036854775807) :
    Calls Tryd.prog 84 #[.int .i64 n] w fun e w' => e = .returned (.string (bA (M.dg n))) ∧ Below w.heap.size w w' := by
  have h := Any.strconv_Itoa Tryd.laysM171 (n : Int) (by omega) (by omega) w ht
  rw [Lib.itoa_nonneg] at h
  refine h.mono ?_
  rintro e w' ⟨rfl, k, os, rfl⟩
  exact ⟨rfl, below_grow w k os⟩

set_option maxRecDepth 100000 in
set_option maxHeartbeats 1000000 in
theorem less_yes (a n : Nat) (w : World) (ht : Tab w) (h : a < n) (hn : n ≤ 1099511627776) :
    Calls Tryd.prog 71 #[.string (bA (M.dg a)), .int .i64 n] w fun e w' => e = .returned (.tuple #[.string (bA (M.dg (n - a))), .bool true]) ∧ Below w.heap.size w w' := by
  have hla : (M.dg a).length ≤ 13 := M.dg_len_le a 13 (by omega) (by omega)
  have hln : (M.dg n).length ≤ 13 := M.dg_len_le n 13 (by omega) (by omega)
  have c1 := itoa_any n w ht (by omega)
  have c2 := fun W => cmpD_any a n W (by rw [bA_size]; omega) (by rw [bA_size]; omega)
  rw [show M.cmpZ (a : Int) (n : Int) = -1 by unfold M.cmpZ; rw [if_pos (by omega)]] at c2
  have hs : (bA (M.dg a)).size = (M.dg a).length := bA_size _
  have hl : (bA (M.dg a)).data.toList = M.dg a := bA_toList _
  have hv := M.dg_val a
  have hall := M.dg_all a
  rw [← hl] at hv hall
  obtain ⟨D, hD⟩ : ∃ D, bA (M.dg a) = D := ⟨_, rfl⟩
  rw [hD] at c2 hs hv hall ⊢
  have hDs : D.size ≤ 13 := by omega
  have HV := Lib.hid hv
  have HALL := Lib.hid hall
  have c3 := fun W (hW : Tab W) => itoa_any (n - a) W hW (by omega)
  generalize bA (M.dg n) = E at *
  generalize bA (M.dg (n - a)) = R at *
  clear hv hall hl hD hs hla hln
  go_enter Tryd.func71, Tryd.ntmps71
  go_wp2_with fail
  refine c1.mono ?_
  rintro r w1 ⟨rfl, hb1⟩
  go_wp2_with fail
  refine (c2 _).mono ?_
  rintro r w2 ⟨rfl, hb2⟩
  clear c1 c2
  have ht2 : Tab w2 := (ht.next hb1).next hb2
  have hb3 : Below w.heap.size w w2 := hb1.trans (hb2.mono hb1.size)
  clear hb1 hb2
  go_wp2
  go_loop [6, 18] (fun v i => ∃ k x : Nat, v = .int .i64 x ∧ i = .int .i64 k ∧ k ≤ D.size ∧ Hid (M.val 10 (D.data.toList.take k) = x)) (fun _ i => D.size - (intOf i).toNat)
  case atStart => exact ⟨0, 0, rfl, rfl, Nat.zero_le _, rfl⟩
  case round =>
    obtain ⟨k, x, rfl, rfl, hk, hst⟩ := hrel
    have hxa : x ≤ a := by rw [← hst.out, ← HV.out]; exact M.val_take_le 10 (by omega) _ _
    by_cases hlt : k < D.size
    · have hltd : decide (k < D.size) = true := by simpa using hlt
      have c1 := digitAt_any D k w2 hlt
      have hd : M.dv D[k] < 10 := (M.allD_iff _ _).1 HALL.out _ (List.mem_of_getElem? (get_list D k hlt))
      have hvs := M.val_snoc 10 (D.data.toList.take k) D[k]
      rw [← take_snoc D k hlt, hst.out] at hvs
      obtain ⟨d, hdd⟩ : ∃ d, M.dv D[k] = d := ⟨_, rfl⟩
      rw [hdd] at c1 hd hvs
      have HVS := Lib.hid hvs
      clear hdd hvs hst
      go_wp2_with (go_at_call 56; refine c1.mono ?_; rintro r w' ⟨rfl, rfl⟩)
      go_round
      case rel => exact ⟨k + 1, x * 10 + d, by go_num, by go_num, by omega, HVS.out⟩
      case measure => simp [intOf]; omega
    · obtain rfl : k = D.size := by omega
      have hltd : decide (D.size < D.size) = false := by simp
      have h1 := hst.out
      rw [take_all, HV.out] at h1
      subst h1
      have e : ((n - a : Nat) : Int) = (n : Int) - (a : Int) := by omega
      rw [e] at c3
      clear e hst
      go_wp2_with fail
      refine (c3 _ ht2).mono ?_
      rintro r w3 ⟨rfl, hb4⟩
      clear c3
      go_wp2
      go_ret2
      exact ⟨rfl, hb3.trans (hb4.mono hb3.size)⟩

theorem less_mem (w w1 : World) (D : ByteArray) (B : Nat) (ho : w1.ownsRow w.heap.size 5 1 (.slice (some ⟨w.heap.size, 0, none⟩) D.size D.size) D.size (madeCells (Value.int .u8 0).cells (D.size * 1)).toList) (hg : w.grownBy w1 none) (h0 : 0 < D.size) :
    ∃ W3, (∀ ty, (Builtin.copy_ #[22, 9] ty #[.slice (some ⟨w.heap.size, 0, none⟩) D.size D.size, .string D]).run Tryd.prog w1 = .ok (goInt D.size) W3) ∧ Row W3 w.heap.size D.data.toList ∧ Below w.heap.size w W3 := by
  have hr := Row.made ho
  have hb : Below w.heap.size w w1 := (Below.refl _ _).grown hg (Nat.le_refl _) (fun k hk => by cases hk)
  refine ⟨_, fun ty => Lib.run_copy_row_string _ 22 9 ty 5 w.heap.size 0 D.size D.size D _ 5 Tryd.underlying22 Tryd.info5s hr (Nat.le_refl _) (by simp [Lib.byteCells]), ?_⟩
  have hR3 : Row _ w.heap.size D.data.toList := hr.setRow D.data.toList
  have e : (List.take 0 (Lib.byteCells (List.replicate D.size 0)).toArray.toList ++ Lib.byteCells D.data.toList ++ List.drop (0 + D.size) (Lib.byteCells (List.replicate D.size 0)).toArray.toList) = Lib.byteCells D.data.toList := by
    rw [List.drop_of_length_le (by simp [Lib.byteCells]), List.append_nil]
    simp
  rw [e]
  exact ⟨hR3, below_setRow hb (Nat.le_refl _) _⟩
theorem set_at (p r : List UInt8) (c d : UInt8) (j : Nat) (h : p.length = j) : (p ++ c :: r).set j d = p ++ d :: r := by
  subst h
  rw [List.set_append]
  simp
theorem dig_u8 (k : Nat) (h : k < 10) : ((UInt8.ofNat (48 + k)).toNat : Int) = 48 + (k : Int) := by
  have : (UInt8.ofNat (48 + k)).toNat = 48 + k := by simp; omega
  rw [this]; omega
/-- What is left of the digits. -/
def LessPost (n a k : Nat) (e : Ending) : Prop := ∃ l : List UInt8, e = .returned (.tuple #[.string (bA l), .bool false]) ∧ l.length = k ∧ M.allD 10 l = true ∧ M.val 10 l + n = a
set_option maxRecDepth 100000 in
set_option maxHeartbeats 1000000 in
theorem less_no (a n : Nat) (w : World) (ht : Tab w) (h : n ≤ a) (hn : n ≤ 1099511627776) (hla : (M.dg a).length ≤ 10000) :
    Calls Tryd.prog 71 #[.string (bA (M.dg a)), .int .i64 n] w fun e w' => LessPost n a (M.dg a).length e ∧ Below w.heap.size w w' := by
  have hln : (M.dg n).length ≤ 13 := M.dg_len_le n 13 (by omega) (by omega)
  have c1 := itoa_any n w ht (by omega)
  have c2 := fun W => cmpD_any a n W (by rw [bA_size]; omega) (by rw [bA_size]; omega)
  obtain ⟨z, hz, hz0⟩ : ∃ z, M.cmpZ (a : Int) (n : Int) = z ∧ 0 ≤ z := ⟨_, rfl, by unfold M.cmpZ; rw [if_neg (by omega)]; split <;> omega⟩
  rw [hz] at c2
  have hzd : decide (z < 0) = false := by simp; omega
  have hs : (bA (M.dg a)).size = (M.dg a).length := bA_size _
  have hl : (bA (M.dg a)).data.toList = M.dg a := bA_toList _
  have hv := M.dg_val a
  have hall := M.dg_all a
  have hpos := M.dg_len_pos a
  rw [← hl] at hv hall
  obtain ⟨D, hD⟩ : ∃ D, bA (M.dg a) = D := ⟨_, rfl⟩
  rw [hD] at c2 hs hv hall ⊢
  rw [← hs] at hpos hla ⊢
  have HV := Lib.hid hv
  have HALL := Lib.hid hall
  generalize bA (M.dg n) = E at *
  clear hv hall hl hD hs hln hz hz0
  obtain ⟨i0, hi, hz0, hz1, hz2⟩ := info_parts Tryd.info5
  go_enter Tryd.func71, Tryd.ntmps71
  go_wp2_with fail
  refine c1.mono ?_
  rintro r w1 ⟨rfl, hb1⟩
  go_wp2_with fail
  refine (c2 _).mono ?_
  rintro r w2 ⟨rfl, hb2⟩
  clear c1 c2
  have hb3 : Below w.heap.size w w2 := hb1.trans (hb2.mono hb1.size)
  clear hb1 hb2
  go_wp2_with (first | (at_make; refine wpList_make_full w2 rfl (.tmp 34) (.tmp 34) 22 rfl w2.heap.size 5 i0 (.int .u8 0) 1 Tryd.underlying22 hi hz0 hz1 .i64 .i64 _ _ D.size rfl rfl (by simp) (by simp) (by rw [hz2]; omega) (by unfold maxLen; omega) (Nat.le_refl _) ?_; intro w3 ho1 hg1; obtain ⟨W3, hcp, hR3, hB3⟩ := less_mem w2 w3 D 0 ho1 hg1 hpos; clear ho1 hg1) | fail)
  have HR3 := Lib.hid hR3
  clear hR3 hcp
  go_loopw [1, 9] (fun nv iv wr => ∃ (m i : Nat) (z : Int) (r : List UInt8), nv = .int .i64 m ∧ iv = .int .i64 z ∧ z + 1 = i ∧ m ≤ 1099511627776 ∧ i ≤ D.size ∧ Hid (r.length + i = D.size) ∧ Hid (M.allD 10 r = true) ∧ Hid (M.val 10 (D.data.toList.take i ++ r) + n = a + m * 10 ^ r.length) ∧ Hid (Row wr w2.heap.size (D.data.toList.take i ++ r)) ∧ Below w2.heap.size w2 wr) (fun _ iv _ => (intOf iv + 1).toNat)
  case atStart => exact ⟨n, D.size, (D.size : Int) - 1, [], rfl, by go_num, by omega, hn, Nat.le_refl _, by show _ = _; simp, rfl, by show _ = _; rw [List.append_nil, take_all, HV.out]; simp, by show Row _ _ _; rw [List.append_nil, take_all]; exact HR3.out, hB3⟩
  case round =>
    obtain ⟨m, i, z, r, rfl, rfl, hz, hm, hi, hrl, hra, hst, hrow, hbw⟩ := hrel
    by_cases hgo : 0 < i ∧ 0 < m
    · obtain ⟨hi0, hm0⟩ := hgo
      obtain ⟨j, rfl⟩ : ∃ j, i = j + 1 := ⟨i - 1, by omega⟩
      obtain rfl : z = (j : Int) := by omega
      have hmd : decide (0 < m) = true := by simpa using hm0
      have hjl : j < D.size := by omega
      have c1 := digitAt_any D j wr hjl
      have hd : M.dv D[j] < 10 := (M.allD_iff _ _).1 HALL.out _ (List.mem_of_getElem? (get_list D j hjl))
      have hts := take_snoc D j hjl
      have hst1 := hst.out
      have hrow1 := hrow.out
      rw [hts, List.append_assoc] at hst1 hrow1
      have hstep := M.sub_step (D.data.toList.take j) r D[j] m n a hd hst1
      have htl : (D.data.toList.take j).length = j := by rw [List.length_take, ← sz_list]; omega
      have hfr := hrow1.frozen j
      obtain ⟨x, hx⟩ : ∃ x, wr.cell? ⟨w2.heap.size, j, none⟩ = some (.int .u8 x) := ⟨_, hrow1.cell j (by simp; omega)⟩
      have hset := hrow1.set j (UInt8.ofNat (48 + M.subD (M.dv D[j]) m))
      rw [List.singleton_append, set_at _ _ _ _ _ htl] at hset
      obtain ⟨d, hdd⟩ : ∃ d, M.dv D[j] = d := ⟨_, rfl⟩
      rw [hdd] at c1 hd hstep hset
      have HSET := Lib.hid hset
      have HSTEP := Lib.hid hstep
      clear hset hstep htl hrow hrow1 hst hst1 hts hdd
      by_cases hdm : d < m % 10
      · have hq : decide ((d : Int) - (m : Int) % 10 < 0) = true := by simp; omega
        go_wp2_with (go_at_call 56; refine c1.mono ?_; rintro r w' ⟨rfl, rfl⟩)
        go_roundw
        case rel =>
          have e2 : M.subN d m = m / 10 + 1 := by unfold M.subN; rw [if_pos hdm]
          have e3 : M.subD d m = d + 10 - m % 10 := by unfold M.subD; rw [if_pos hdm]
          have e1 : ((UInt8.ofNat (48 + M.subD d m)).toNat : Int) = 48 + ((d : Int) - (m : Int) % 10 + 10) := by rw [dig_u8 _ (by omega), e3]; omega
          have h1 := HSET.out
          rw [e1] at h1
          exact ⟨M.subN d m, j, (j : Int) - 1, UInt8.ofNat (48 + M.subD d m) :: r, by rw [e2]; exact congrArg _ (by omega), rfl, by omega, by omega, by omega, by show _ = _; rw [List.length_cons]; have := hrl.out; omega, allD_cons (M.dv_dig _ (by omega)) (by omega) hra.out, HSTEP.out, h1, hbw.setCell (Nat.le_refl _) _⟩
        case measure => simp [intOf]
      · have hq : decide ((d : Int) - (m : Int) % 10 < 0) = false := by simp; omega
        go_wp2_with (go_at_call 56; refine c1.mono ?_; rintro r w' ⟨rfl, rfl⟩)
        go_roundw
        case rel =>
          have e2 : M.subN d m = m / 10 := by unfold M.subN; rw [if_neg hdm]
          have e3 : M.subD d m = d - m % 10 := by unfold M.subD; rw [if_neg hdm]
          have e1 : ((UInt8.ofNat (48 + M.subD d m)).toNat : Int) = 48 + ((d : Int) - (m : Int) % 10) := by rw [dig_u8 _ (by omega), e3]; omega
          have h1 := HSET.out
          rw [e1] at h1
          exact ⟨M.subN d m, j, (j : Int) - 1, UInt8.ofNat (48 + M.subD d m) :: r, by rw [e2]; exact congrArg _ (by omega), rfl, by omega, by omega, by omega, by show _ = _; rw [List.length_cons]; have := hrl.out; omega, allD_cons (M.dv_dig _ (by omega)) (by omega) hra.out, HSTEP.out, h1, hbw.setCell (Nat.le_refl _) _⟩
        case measure => simp [intOf]
    · have hm0 : m = 0 := by
        rcases Nat.eq_zero_or_pos i with h0 | h0
        · have h1 := M.sub_room (D.data.toList.take i) r m n a hra.out h hst.out
          rw [h0, List.take_zero] at h1
          rw [show M.val 10 [] = 0 from rfl] at h1
          omega
        · omega
      subst hm0
      have hL : (D.data.toList.take i ++ r).length = D.size := by
        rw [List.length_append, List.length_take, ← sz_list]; have := hrl.out; omega
      have hLa : M.allD 10 (D.data.toList.take i ++ r) = true := by
        rw [M.allD_append, hra.out, Bool.and_true]
        have := HALL.out
        rw [← List.take_append_drop i D.data.toList, M.allD_append, Bool.and_eq_true] at this
        exact this.1
      have hLv : M.val 10 (D.data.toList.take i ++ r) + n = a := by have := hst.out; rwa [Nat.zero_mul, Nat.add_zero] at this
      have hcv := Row.conv0 hrow.out D.size
      rw [hL] at hcv
      obtain ⟨L, hLL⟩ : ∃ L, D.data.toList.take i ++ r = L := ⟨_, rfl⟩
      rw [hLL] at hL hLa hLv hcv
      have HL := Lib.hid hL
      have HLa := Lib.hid hLa
      have HLv := Lib.hid hLv
      clear hrow hst hL hLa hLv hLL hra hrl
      rcases Nat.eq_zero_or_pos i with h0 | h0
      · obtain rfl : z = -1 := by omega
        clear hz hgo h0 hi
        go_wp2
        go_ret2
        exact ⟨⟨L, rfl, HL.out, HLa.out, HLv.out⟩, hb3.trans (hbw.mono hb3.size)⟩
      · obtain ⟨j, rfl⟩ : ∃ j, i = j + 1 := ⟨i - 1, by omega⟩
        obtain rfl : z = (j : Int) := by omega
        clear hz hgo h0 hi
        go_wp2
        go_ret2
        exact ⟨⟨L, rfl, HL.out, HLa.out, HLv.out⟩, hb3.trans (hbw.mono hb3.size)⟩
end Go.Proofs.YtocegiffbgnogaaDoor
