/- Walks: bin's Bytes. -/
import Derived.Test.YthhhmmogefpcgaaDoorWh
import Derived.Stop.BytesEq
set_option linter.unusedVariables false
namespace Go.Proofs.YthhhmmogefpcgaaDoor
open Go.RowKit

theorem liftC {W0 w : World} {f : Nat} {args : Array Value} {e0 : Ending} {S : World → Prop} (hs : ∀ w', Below W0.heap.size W0 w' → S w') (hb : ∀ w', S w' → Below W0.heap.size W0 w') (c : Calls Tryd.prog f args w fun e w' => e = e0 ∧ Below w.heap.size w w') (h : S w) : Calls Tryd.prog f args w fun e w' => e = e0 ∧ S w' :=
  c.mono fun e w' hh => ⟨hh.1, hs _ ((hb _ h).trans (hh.2.mono (hb _ h).size))⟩
theorem eql4 (s0 s1 s2 s3 a b c d : UInt8) (W : World) : (binOp .eql 38 (.agg #[.int .u8 s0.toNat, .int .u8 s1.toNat, .int .u8 s2.toNat, .int .u8 s3.toNat]) (.agg #[.int .u8 a.toNat, .int .u8 b.toNat, .int .u8 c.toNat, .int .u8 d.toNat])).run Tryd.prog W = .ok (.bool ([s0, s1, s2, s3] == [a, b, c, d])) W :=
  run_eql_bytes W 38 5 4 Tryd.underlying38 Tryd.underlying5 Tryd.sizeOf5 [s0, s1, s2, s3] [a, b, c, d] rfl rfl
theorem arr4 (b off n cap : Nat) (W : World) (h : 4 ≤ n) : (Instr.arrayAt 38 (.slice (some ⟨b, off, none⟩) n cap)).run Tryd.prog W = .ok (.pointer (some ⟨b, off, none⟩)) W := by
  simp [Instr.arrayAt, run_underlying Tryd.underlying38, Result.andThen, show ¬ n < 4 by omega]
/-- A block of 256 cells laid: what each byte says. -/
theorem VB.of_row {w : World} {g : Nat} (h : w.heap[g]? = some (.cells (rowN 256 (vk 64)) 36 (0, 0))) : VB w g := by
  intro c
  have hc := c.toNat_lt
  simp [World.cell?, h, rowN_get _ _ _ hc, vk_vl]
def byV (L : List UInt8) (O : Option (List UInt8)) : List UInt8 × Bool := (O.getD [], O.isSome)
set_option maxRecDepth 100000 in
set_option maxHeartbeats 4000000 in
theorem bytes_any (s : ByteArray) (w : World) (ht : Tab w) (hs : s.size ≤ 10000) :
    Calls Tryd.prog 8 #[.string s] w fun e w' => ∃ a cap, e = .returned (.tuple #[.slice a (M.by_ s.data.toList).length cap, .bool (M.ok s.data.toList)]) ∧ InS w' a (M.by_ s.data.toList) cap ∧ Below w.heap.size w w' := by
  obtain ⟨i0, hi, hz0, hz1, hz2⟩ := info_parts info_b
  have c1 := bare_any s w (by omega)
  have hble := bare_le s.data.toList
  rw [← sz_list] at hble
  obtain ⟨O, hO⟩ : ∃ O, M.dec (M.bare s.data.toList) = O := ⟨_, rfl⟩
  obtain ⟨Y, hY⟩ : ∃ Y, M.by_ s.data.toList = Y := ⟨_, rfl⟩
  obtain ⟨K, hK⟩ : ∃ K, M.ok s.data.toList = K := ⟨_, rfl⟩
  have hy : O.getD [] = Y := by rw [← hO, ← hY]; rfl
  have hk : O.isSome = K := by rw [← hO, ← hK]; rfl
  rw [hY, hK]
  have HY := Lib.hid (And.intro hy hk)
  clear hy hk hY hK
  generalize M.bare s.data.toList = T0 at *
  have hv := fun w => zero256 w
  obtain ⟨Z, hZ⟩ : ∃ Z, rowN 256 (fun _ => 0) = Z := ⟨_, rfl⟩
  rw [hZ] at hv
  have hZs : Z.size = 256 := by rw [← hZ]; exact rowN_size _ _
  clear hZ
  have HT := Lib.hid ht
  clear ht
  go_enter Tryd.func8, Tryd.ntmps8
  go_wp2_with fail
  refine c1.mono ?_
  rintro e w1 ⟨v1, rfl, hown1, hb1⟩
  clear c1
  obtain ⟨ad0, cp0, rfl, hin0⟩ := hown1.ins
  have c2 := values_any w1 (HT.out.next hb1)
  clear hown1
  go_wp2_with fail
  refine c2.mono ?_
  rintro e w2 ⟨rfl, hb2⟩
  clear c2
  have hn := heap_alloc_new w2 (.cells Z 36)
  obtain ⟨W3, hsc, hrow3, hb3⟩ : ∃ W3, (storeCells ⟨w2.heap.size, 0, none⟩ (rowN 256 (vk 64)).toList).run Tryd.prog (w2.alloc (.cells Z 36)) = .ok () W3 ∧ W3.heap[w2.heap.size]? = some (.cells (rowN 256 (vk 64)) 36 (0, 0)) ∧ Below w2.heap.size w2 W3 :=
    ⟨_, run_storeCells_row _ w2.heap.size 36 Z _ hn (by rw [hZs, rowN_size]) (rowN_one _ _), setRow_heap _ _ _ _ _ _ hn, below_setRow ((Below.refl w2.heap.size w2).alloc (Nat.le_refl _) _) (Nat.le_refl _) _⟩
  have hvb := VB.of_row hrow3
  have hg5 : w2.heap.size < W3.heap.size := (Array.getElem?_eq_some_iff.1 hrow3).1
  have hin3 := (hin0.next hb2).next hb3
  have hB3 : Below w.heap.size w W3 := (hb1.trans (hb2.mono hb1.size)).trans (hb3.mono (by have := hb1.size; have := hb2.size; omega))
  have HB3 := Lib.hid (And.intro hvb (And.intro hin3 hB3))
  clear hn hrow3 hb3 hvb hin3 hB3 hin0 hb2 hb1
  have hRs := rowN_size 256 (vk 64)
  generalize rowN 256 (vk 64) = R at *
  by_cases h4 : T0.length % 4 = 0
  · have hm : ((T0.length : Int) % 4 != 0) = false := bne_eq_false_iff_eq.2 (by omega)
    go_wp2_with (first | (refine wpList_make rfl (.tmp 21) rfl (T0.length / 4 * 3) _ rfl (by omega) (by omega) ?_; intro v4 W4 hown4 hb4) | fail)
    have HB4 := Lib.hid hb4
    clear hb4
    go_wp2_with fail
    go_loopw [4, 6] (fun tv bv wr => ∃ (T D : List UInt8) (ad : Option Addr) (cp : Nat), tv = .slice ad T.length cp ∧ Hid (InS W3 ad T cp) ∧ T.length % 4 = 0 ∧ Hid ((M.dec T).map (fun r => D ++ r) = O) ∧ D.length + T.length ≤ 10000 ∧ Hid (OwnB wr W3.heap.size bv D) ∧ Below W3.heap.size W3 wr) (fun tv _ _ => match tv with | .slice _ n _ => n | _ => 0)
    case atStart =>
      refine ⟨T0, [], ad0, cp0, rfl, HB3.out.2.1, h4, ?_, by simp; omega, hown4, HB4.out⟩
      show (M.dec T0).map _ = O
      rw [hO]; cases O <;> rfl
    case round =>
      obtain ⟨T, D, ad, cp, rfl, HI, hT4, HD, hDl, HOW, hbw⟩ := hrel
      have hsz := hbw.size
      match T, HI, hT4, HD, hDl with
      | [], HI, hT4, HD, hDl =>
        have hd := HD.out
        rw [show M.dec [] = some [] from rfl, Option.map_some, List.append_nil] at hd
        obtain ⟨e1, e2⟩ := HY.out
        rw [← hd] at e1 e2
        have hc := HOW.out
        obtain ⟨a5, cp5, hv5, hin5⟩ := hc.ins
        subst hv5
        have l1 : decide ((0 : Int) < ((([] : List UInt8).length : Nat) : Int)) = false := by decide
        have HQ := Lib.hid (And.intro e1 (And.intro e2 hin5))
        clear e1 e2 hin5 hc HOW hd
        go_wp2
        go_ret2
        have e1 : D = Y := HQ.out.1
        refine ⟨a5, cp5, ?_, by rw [← e1]; exact HQ.out.2.2, HB3.out.2.2.trans (hbw.mono HB3.out.2.2.size)⟩
        rw [← e1, ← HQ.out.2.1]; rfl
      | [x], HI, hT4, HD, hDl => simp at hT4
      | [x, y], HI, hT4, HD, hDl => simp at hT4
      | [x, y, z], HI, hT4, HD, hDl => simp at hT4
      | a :: b :: c :: d :: r, HI, hT4, HD, hDl =>
        obtain ⟨gb, off, rfl, hc, hblt⟩ := HI.out.at_ (by simp)
        have hcw : ∀ j, (h : j < (a :: b :: c :: d :: r).length) → wr.cell? ⟨gb, off + j, none⟩ = some (.int .u8 ((a :: b :: c :: d :: r)[j].toNat : Int)) := fun j hj => (Below.cell hbw (p := ⟨gb, off + j, none⟩) hblt).trans (hc j hj)
        have c0 : wr.cell? ⟨gb, off, none⟩ = some (.int .u8 a.toNat) := hcw 0 (Nat.zero_lt_succ _)
        have c1 : wr.cell? ⟨gb, off + 1, none⟩ = some (.int .u8 b.toNat) := hcw 1 (by simp)
        have c2 : wr.cell? ⟨gb, off + 2, none⟩ = some (.int .u8 c.toNat) := hcw 2 (by simp)
        have c3 : wr.cell? ⟨gb, off + 3, none⟩ = some (.int .u8 d.toNat) := hcw 3 (by simp)
        have l1 : decide ((0 : Int) < (((a :: b :: c :: d :: r).length : Nat) : Int)) = true := decide_eq_true (Int.ofNat_lt.2 (Nat.zero_lt_succ _))
        have l2 : decide (0 < (a :: b :: c :: d :: r).length) = true := decide_eq_true (Nat.zero_lt_succ _)
        have hlen : (a :: b :: c :: d :: r).length = r.length + 4 := rfl
        have hTr : r.length % 4 = 0 := by rw [hlen] at hT4; omega
        have hDl' : D.length + r.length + 4 ≤ 10000 := by rw [hlen] at hDl; omega
        have hdec : M.dec (a :: b :: c :: d :: r) = if M.wellB a b c d r = true then (M.dec r).map fun s => [M.x0 a b c d, M.x1 a b c d, M.x2 a b c d].take (M.cnt c d) ++ s else none := by rw [M.dec]
        have HDE := Lib.hid hdec
        clear hcw hc hdec hT4 hDl
        generalize hX : a :: b :: c :: d :: r = X at *
        have hX4 : 4 ≤ X.length := by rw [hlen]; omega
        have harr := arr4 gb off X.length cp wr hX4
        have HL := Lib.hid hlen
        clear hlen
        have hn4 := heap_alloc_new wr (.cells #[.int .u8 a.toNat, .int .u8 b.toNat, .int .u8 c.toNat, .int .u8 d.toNat] 38)
        have hb5 : Below wr.heap.size wr (wr.alloc (.cells #[.int .u8 a.toNat, .int .u8 b.toNat, .int .u8 c.toNat, .int .u8 d.toNat] 38)) := (Below.refl _ _).alloc (Nat.le_refl _) _
        have hz5 : wr.heap.size < (wr.alloc (.cells #[.int .u8 a.toNat, .int .u8 b.toNat, .int .u8 c.toNat, .int .u8 d.toNat] 38)).heap.size := (Array.getElem?_eq_some_iff.1 hn4).1
        have cB := bytes_of_any a b c d w2.heap.size _ ((HB3.out.1.below hbw hg5).below hb5 (Nat.lt_of_lt_of_le hg5 hsz)) (show w2.heap.size < (wr.alloc (.cells #[.int .u8 a.toNat, .int .u8 b.toNat, .int .u8 c.toNat, .int .u8 d.toNat] 38)).heap.size by omega)
        have hcnt := M.cnt_lt c d
        obtain ⟨wl, hwl⟩ : ∃ wl : Bool, decide (M.S4 (M.x0 a b c d) (M.x1 a b c d) (M.x2 a b c d) (M.cnt c d) = [a, b, c, d]) = wl := ⟨_, rfl⟩
        have hwB : M.wellB a b c d r = (wl && (decide (M.cnt c d = 3) || r.isEmpty)) := by unfold M.wellB; rw [hwl]
        have HWB := Lib.hid hwB
        clear hwB
        generalize M.x0 a b c d = x0 at *
        generalize M.x1 a b c d = x1 at *
        generalize M.x2 a b c d = x2 at *
        generalize M.cnt c d = nn at *
        obtain ⟨s0, s1, s2, s3, hS⟩ : ∃ s0 s1 s2 s3, M.S4 x0 x1 x2 nn = [s0, s1, s2, s3] := ⟨_, _, _, _, rfl⟩
        have heq : ∀ W, (binOp .eql 38 (.agg #[.int .u8 s0.toNat, .int .u8 s1.toNat, .int .u8 s2.toNat, .int .u8 s3.toNat]) (.agg #[.int .u8 a.toNat, .int .u8 b.toNat, .int .u8 c.toNat, .int .u8 d.toNat])).run Tryd.prog W = .ok (.bool wl) W := by
          intro W
          rw [eql4, ← hwl, hS]
          congr 2
          rw [Bool.eq_iff_iff]; simp
        have HB5 := Lib.hid (And.intro hn4 (And.intro hb5 hz5))
        have HH := Lib.hid heq
        clear hn4 hb5 hz5 hwl heq
        go_wp2_with fail
        refine cB.mono ?_
        rintro e w6 ⟨rfl, hb6⟩
        clear cB c0 c1 c2 c3 harr
        have hn7 := heap_alloc_new w6 (.cells #[.int .u8 x0.toNat, .int .u8 x1.toNat, .int .u8 x2.toNat] 39)
        have hb67 : Below w6.heap.size w6 (w6.alloc (.cells #[.int .u8 x0.toNat, .int .u8 x1.toNat, .int .u8 x2.toNat] 39)) := (Below.refl _ _).alloc (Nat.le_refl _) _
        have hlt7 : w6.heap.size < (w6.alloc (.cells #[.int .u8 x0.toNat, .int .u8 x1.toNat, .int .u8 x2.toNat] 39)).heap.size := (Array.getElem?_eq_some_iff.1 hn7).1
        have h46 := hb6.size
        have hz56 := HB5.out.2.2
        have hbr7 : Below wr.heap.size wr (w6.alloc (.cells #[.int .u8 x0.toNat, .int .u8 x1.toNat, .int .u8 x2.toNat] 39)) := (HB5.out.2.1.trans (hb6.mono (by omega))).trans (hb67.mono (by omega))
        have hr4 := ((hb67.block wr.heap.size (by omega)).trans (hb6.block wr.heap.size (by omega))).trans HB5.out.1
        obtain ⟨W7, hW7⟩ : ∃ W, w6.alloc (.cells #[.int .u8 x0.toNat, .int .u8 x1.toNat, .int .u8 x2.toNat] 39) = W := ⟨_, rfl⟩
        rw [hW7] at hn7 hlt7 hbr7 hr4
        have hz7 : wr.heap.size < W7.heap.size := (Array.getElem?_eq_some_iff.1 hr4).1
        have q0 : W7.cell? ⟨w6.heap.size, 0, none⟩ = some (.int .u8 x0.toNat) := by simp [World.cell?, hn7]
        have q1 : W7.cell? ⟨w6.heap.size, 1, none⟩ = some (.int .u8 x1.toNat) := by simp [World.cell?, hn7]
        have q2 : W7.cell? ⟨w6.heap.size, 2, none⟩ = some (.int .u8 x2.toNat) := by simp [World.cell?, hn7]
        have q3 : W7.cell? ⟨wr.heap.size, 0, none⟩ = some (.int .u8 a.toNat) := by simp [World.cell?, hr4]
        have q4 : W7.cell? ⟨wr.heap.size, 1, none⟩ = some (.int .u8 b.toNat) := by simp [World.cell?, hr4]
        have q5 : W7.cell? ⟨wr.heap.size, 2, none⟩ = some (.int .u8 c.toNat) := by simp [World.cell?, hr4]
        have q6 : W7.cell? ⟨wr.heap.size, 3, none⟩ = some (.int .u8 d.toNat) := by simp [World.cell?, hr4]
        have hS1 : ∀ wx, Below W7.heap.size W7 wx → (wx.cell? ⟨w6.heap.size, 0, none⟩ = some (.int .u8 x0.toNat) ∧ wx.cell? ⟨w6.heap.size, 1, none⟩ = some (.int .u8 x1.toNat) ∧ wx.cell? ⟨w6.heap.size, 2, none⟩ = some (.int .u8 x2.toNat) ∧ wx.cell? ⟨wr.heap.size, 0, none⟩ = some (.int .u8 a.toNat) ∧ wx.cell? ⟨wr.heap.size, 1, none⟩ = some (.int .u8 b.toNat) ∧ wx.cell? ⟨wr.heap.size, 2, none⟩ = some (.int .u8 c.toNat) ∧ wx.cell? ⟨wr.heap.size, 3, none⟩ = some (.int .u8 d.toNat) ∧ Below W7.heap.size W7 wx) := fun wx h =>
          ⟨(h.cell (p := ⟨w6.heap.size, 0, none⟩) hlt7).trans q0, (h.cell (p := ⟨w6.heap.size, 1, none⟩) hlt7).trans q1, (h.cell (p := ⟨w6.heap.size, 2, none⟩) hlt7).trans q2, (h.cell (p := ⟨wr.heap.size, 0, none⟩) hz7).trans q3, (h.cell (p := ⟨wr.heap.size, 1, none⟩) hz7).trans q4, (h.cell (p := ⟨wr.heap.size, 2, none⟩) hz7).trans q5, (h.cell (p := ⟨wr.heap.size, 3, none⟩) hz7).trans q6, h⟩
        have hS2 : ∀ wx, (wx.cell? ⟨w6.heap.size, 0, none⟩ = some (.int .u8 x0.toNat) ∧ wx.cell? ⟨w6.heap.size, 1, none⟩ = some (.int .u8 x1.toNat) ∧ wx.cell? ⟨w6.heap.size, 2, none⟩ = some (.int .u8 x2.toNat) ∧ wx.cell? ⟨wr.heap.size, 0, none⟩ = some (.int .u8 a.toNat) ∧ wx.cell? ⟨wr.heap.size, 1, none⟩ = some (.int .u8 b.toNat) ∧ wx.cell? ⟨wr.heap.size, 2, none⟩ = some (.int .u8 c.toNat) ∧ wx.cell? ⟨wr.heap.size, 3, none⟩ = some (.int .u8 d.toNat) ∧ Below W7.heap.size W7 wx) → Below W7.heap.size W7 wx := fun wx h => h.2.2.2.2.2.2.2
        have HS1 := Lib.hid hS1
        have HS2 := Lib.hid hS2
        have hB7 : Below W3.heap.size W3 W7 := hbw.trans (hbr7.mono hsz)
        have HT7 := Lib.hid (fun W (h : Below W7.heap.size W7 W) => ((HT.out.next HB3.out.2.2).next hB7).next h)
        have HO7' := Lib.hid (HOW.out.next hbr7)
        have HB7 := Lib.hid hB7
        have cS := fun W h => signs4 x0 x1 x2 nn s0 s1 s2 s3 hS W (HT7.out W h) hcnt.1 hcnt.2
        have heq := HH.out
        clear hS1 hS2 hn7 hb67 hbr7 hr4 q0 q1 q2 q3 q4 q5 q6 hB7 HOW hb6
        go_wp2_with fail
        go_region_held3 (fun wx => wx.cell? ⟨w6.heap.size, 0, none⟩ = some (.int .u8 x0.toNat) ∧ wx.cell? ⟨w6.heap.size, 1, none⟩ = some (.int .u8 x1.toNat) ∧ wx.cell? ⟨w6.heap.size, 2, none⟩ = some (.int .u8 x2.toNat) ∧ wx.cell? ⟨wr.heap.size, 0, none⟩ = some (.int .u8 a.toNat) ∧ wx.cell? ⟨wr.heap.size, 1, none⟩ = some (.int .u8 b.toNat) ∧ wx.cell? ⟨wr.heap.size, 2, none⟩ = some (.int .u8 c.toNat) ∧ wx.cell? ⟨wr.heap.size, 3, none⟩ = some (.int .u8 d.toNat) ∧ Below W7.heap.size W7 wx)
          (first | exact hS | exact HS1.out _ (Below.refl _ _).drew)
          (first | (go_at_call 16; (with_reducible refine (liftC HS1.out HS2.out (cS _ (HS2.out _ (‹_ ∧ _ ∧ _ ∧ _ ∧ _ ∧ _ ∧ _ ∧ Below _ _ _›))) ?_).mono ?_); (exact ‹_ ∧ _ ∧ _ ∧ _ ∧ _ ∧ _ ∧ _ ∧ Below _ _ _›); rintro r wq ⟨rfl, hS⟩))
        have hQ := HS2.out _ hS
        have HBQ := Lib.hid (HB7.out.trans (hQ.mono HB7.out.size))
        have HO7 := Lib.hid (HO7'.out.next hQ)
        have HS := Lib.hid hS
        clear hS hQ HS1 HS2 HO7' HT7 HB7 cS heq HH HB5 hW7 hz56 h46 hlt7 hz7
        cases wl with
        | false =>
          have hdn : M.dec X = none := by rw [HDE.out, HWB.out]; rfl
          have HDN := Lib.hid hdn
          clear hdn
          have hO2 : O = none := by rw [← HD.out, HDN.out]; rfl
          subst hO2
          obtain ⟨e1, e2⟩ := HY.out
          have e1' : Y = [] := e1.symm
          have e2' : K = false := e2.symm
          clear HI HD HL hX
          go_wp2_with fail
          go_ret2
          subst e1' e2'
          exact ⟨none, 0, rfl, InS.nil _, HB3.out.2.2.trans (HBQ.out.mono HB3.out.2.2.size)⟩
        | true =>
          obtain rfl | rfl | rfl : nn = 1 ∨ nn = 2 ∨ nn = 3 := by omega
          · have d3 : decide (((1 : Nat) : Int) < 3) = true := by decide
            match r, hX, HL, HDE, HWB, hTr, hDl' with
            | [], hX, HL, HDE, HWB, hTr, hDl' =>
              have l4 : decide ((4 : Int) < (X.length : Int)) = false := decide_eq_false (by rw [HL.out]; decide)
              have l5 : decide (4 < X.length) = false := decide_eq_false (by rw [HL.out]; decide)
              have hN : (M.dec []).map (fun t => (D ++ [x0]) ++ t) = O := by
                rw [← HD.out, HDE.out, if_pos (by rw [HWB.out]; rfl), Option.map_map]
                cases M.dec [] <;> simp
              have HN := Lib.hid hN
              clear hN
              have hcq : ∀ (j : Nat) (u : Value), ([.int .u8 x0.toNat] : List Value)[j]? = some u → wq.cell? ((⟨w6.heap.size, 0, none⟩ : Addr).add j) = some u := by
                intro j u hj
                rw [Addr.add_lit]
                match j, hj with
                | 0, hj => exact (HS.out.1).trans hj
                | k + 1, hj => exact absurd hj (by simp)
              have hone : ∀ u ∈ ([.int .u8 x0.toNat] : List Value), u.oneCell' = true := by simp [Value.oneCell']
              have hown := HO7.out
              unfold OwnB at hown
              have hszq : W3.heap.size ≤ wq.heap.size := HBQ.out.size
              go_wp2_with (at_builtin; refine wpList_append_own _ rfl (.tmp 52) (.tmp 54) 22 rfl W3.heap.size 5 i0 (.int .u8 0) 1 1 Tryd.underlying22 hi hz0 hz1 hz2 rfl (by decide) _ D.length (D.map bc) rfl hown ⟨w6.heap.size, 0, none⟩ 1 3 [.int .u8 x0.toNat] rfl rfl hcq hone (by unfold maxLen; omega) (by omega) hszq ?_)
              intro v8 w8 hown8 hgrow8 _
              have hb8 : Below W3.heap.size W3 w8 := HBQ.out.grown hgrow8 hszq (fun k hk => (World.ownsRow.lt hown k hk).1)
              have HO8 := Lib.hid hown8
              clear hgrow8 hown8 hown hcq hone
              go_wp2_with (first | (refine wpList_cutL rfl (.tmp 26) (.const (.int .i64 4)) rfl (some ⟨gb, off, none⟩) X cp 4 rfl rfl (by rw [HL.out]; omega) HI.out ?_; intro ad' hcut) | fail)
              have hdr : X.drop 4 = [] := by rw [← hX]; rfl
              have hxl := HL.out
              rw [hdr] at hcut
              go_roundw
              case rel => exact ⟨[], D ++ [x0], ad', cp - 4, by rw [hxl]; rfl, hcut, rfl, HN.out, by simp only [List.length_append, List.length_cons, List.length_nil]; omega, OwnB.app HO8.out, hb8⟩
              case measure => show X.length - 4 < X.length; omega
            | rx :: rs, hX, HL, HDE, HWB, hTr, hDl' =>
              have l4 : decide ((4 : Int) < (X.length : Int)) = true := decide_eq_true (by rw [HL.out]; simp only [List.length_cons]; omega)
              have l5 : decide (4 < X.length) = true := decide_eq_true (by rw [HL.out]; simp only [List.length_cons]; omega)
              have hdn : M.dec X = none := by rw [HDE.out, HWB.out]; rfl
              have HDN := Lib.hid hdn
              clear hdn
              have hO2 : O = none := by rw [← HD.out, HDN.out]; rfl
              subst hO2
              obtain ⟨e1, e2⟩ := HY.out
              have e1' : Y = [] := e1.symm
              have e2' : K = false := e2.symm
              clear HI HD HL hX
              go_wp2_with fail
              go_ret2
              subst e1' e2'
              exact ⟨none, 0, rfl, InS.nil _, HB3.out.2.2.trans (HBQ.out.mono HB3.out.2.2.size)⟩
          · have d3 : decide (((2 : Nat) : Int) < 3) = true := by decide
            match r, hX, HL, HDE, HWB, hTr, hDl' with
            | [], hX, HL, HDE, HWB, hTr, hDl' =>
              have l4 : decide ((4 : Int) < (X.length : Int)) = false := decide_eq_false (by rw [HL.out]; decide)
              have l5 : decide (4 < X.length) = false := decide_eq_false (by rw [HL.out]; decide)
              have hN : (M.dec []).map (fun t => (D ++ [x0, x1]) ++ t) = O := by
                rw [← HD.out, HDE.out, if_pos (by rw [HWB.out]; rfl), Option.map_map]
                cases M.dec [] <;> simp
              have HN := Lib.hid hN
              clear hN
              have hcq : ∀ (j : Nat) (u : Value), ([.int .u8 x0.toNat, .int .u8 x1.toNat] : List Value)[j]? = some u → wq.cell? ((⟨w6.heap.size, 0, none⟩ : Addr).add j) = some u := by
                intro j u hj
                rw [Addr.add_lit]
                match j, hj with
                | 0, hj => exact (HS.out.1).trans hj
                | 1, hj => exact (HS.out.2.1).trans hj
                | k + 2, hj => exact absurd hj (by simp)
              have hone : ∀ u ∈ ([.int .u8 x0.toNat, .int .u8 x1.toNat] : List Value), u.oneCell' = true := by simp [Value.oneCell']
              have hown := HO7.out
              unfold OwnB at hown
              have hszq : W3.heap.size ≤ wq.heap.size := HBQ.out.size
              go_wp2_with (at_builtin; refine wpList_append_own _ rfl (.tmp 52) (.tmp 54) 22 rfl W3.heap.size 5 i0 (.int .u8 0) 1 1 Tryd.underlying22 hi hz0 hz1 hz2 rfl (by decide) _ D.length (D.map bc) rfl hown ⟨w6.heap.size, 0, none⟩ 2 3 [.int .u8 x0.toNat, .int .u8 x1.toNat] rfl rfl hcq hone (by unfold maxLen; omega) (by omega) hszq ?_)
              intro v8 w8 hown8 hgrow8 _
              have hb8 : Below W3.heap.size W3 w8 := HBQ.out.grown hgrow8 hszq (fun k hk => (World.ownsRow.lt hown k hk).1)
              have HO8 := Lib.hid hown8
              clear hgrow8 hown8 hown hcq hone
              go_wp2_with (first | (refine wpList_cutL rfl (.tmp 26) (.const (.int .i64 4)) rfl (some ⟨gb, off, none⟩) X cp 4 rfl rfl (by rw [HL.out]; omega) HI.out ?_; intro ad' hcut) | fail)
              have hdr : X.drop 4 = [] := by rw [← hX]; rfl
              have hxl := HL.out
              rw [hdr] at hcut
              go_roundw
              case rel => exact ⟨[], D ++ [x0, x1], ad', cp - 4, by rw [hxl]; rfl, hcut, rfl, HN.out, by simp only [List.length_append, List.length_cons, List.length_nil]; omega, OwnB.app HO8.out, hb8⟩
              case measure => show X.length - 4 < X.length; omega
            | rx :: rs, hX, HL, HDE, HWB, hTr, hDl' =>
              have l4 : decide ((4 : Int) < (X.length : Int)) = true := decide_eq_true (by rw [HL.out]; simp only [List.length_cons]; omega)
              have l5 : decide (4 < X.length) = true := decide_eq_true (by rw [HL.out]; simp only [List.length_cons]; omega)
              have hdn : M.dec X = none := by rw [HDE.out, HWB.out]; rfl
              have HDN := Lib.hid hdn
              clear hdn
              have hO2 : O = none := by rw [← HD.out, HDN.out]; rfl
              subst hO2
              obtain ⟨e1, e2⟩ := HY.out
              have e1' : Y = [] := e1.symm
              have e2' : K = false := e2.symm
              clear HI HD HL hX
              go_wp2_with fail
              go_ret2
              subst e1' e2'
              exact ⟨none, 0, rfl, InS.nil _, HB3.out.2.2.trans (HBQ.out.mono HB3.out.2.2.size)⟩
          · have d3 : decide (((3 : Nat) : Int) < 3) = false := by decide
            have hN : (M.dec r).map (fun t => (D ++ [x0, x1, x2]) ++ t) = O := by
              rw [← HD.out, HDE.out, if_pos (by rw [HWB.out]; rfl), Option.map_map]
              cases M.dec r <;> simp
            have HN := Lib.hid hN
            clear hN
            have hcq : ∀ (j : Nat) (u : Value), ([.int .u8 x0.toNat, .int .u8 x1.toNat, .int .u8 x2.toNat] : List Value)[j]? = some u → wq.cell? ((⟨w6.heap.size, 0, none⟩ : Addr).add j) = some u := by
              intro j u hj
              rw [Addr.add_lit]
              match j, hj with
              | 0, hj => exact (HS.out.1).trans hj
              | 1, hj => exact (HS.out.2.1).trans hj
              | 2, hj => exact (HS.out.2.2.1).trans hj
              | k + 3, hj => exact absurd hj (by simp)
            have hone : ∀ u ∈ ([.int .u8 x0.toNat, .int .u8 x1.toNat, .int .u8 x2.toNat] : List Value), u.oneCell' = true := by simp [Value.oneCell']
            have hown := HO7.out
            unfold OwnB at hown
            have hszq : W3.heap.size ≤ wq.heap.size := HBQ.out.size
            go_wp2_with (at_builtin; refine wpList_append_own _ rfl (.tmp 52) (.tmp 54) 22 rfl W3.heap.size 5 i0 (.int .u8 0) 1 1 Tryd.underlying22 hi hz0 hz1 hz2 rfl (by decide) _ D.length (D.map bc) rfl hown ⟨w6.heap.size, 0, none⟩ 3 3 [.int .u8 x0.toNat, .int .u8 x1.toNat, .int .u8 x2.toNat] rfl rfl hcq hone (by unfold maxLen; omega) (by omega) hszq ?_)
            intro v8 w8 hown8 hgrow8 _
            have hb8 : Below W3.heap.size W3 w8 := HBQ.out.grown hgrow8 hszq (fun k hk => (World.ownsRow.lt hown k hk).1)
            have HO8 := Lib.hid hown8
            clear hgrow8 hown8 hown hcq hone
            go_wp2_with (first | (refine wpList_cutL rfl (.tmp 26) (.const (.int .i64 4)) rfl (some ⟨gb, off, none⟩) X cp 4 rfl rfl (by rw [HL.out]; omega) HI.out ?_; intro ad' hcut) | fail)
            have hdr : X.drop 4 = r := by rw [← hX]; rfl
            have hxl := HL.out
            rw [hdr] at hcut
            go_roundw
            case rel => exact ⟨r, D ++ [x0, x1, x2], ad', cp - 4, by rw [hxl]; rfl, hcut, hTr, HN.out, by simp only [List.length_append, List.length_cons, List.length_nil]; omega, OwnB.app HO8.out, hb8⟩
            case measure => show X.length - 4 < X.length; omega
  · have hm : ((T0.length : Int) % 4 != 0) = true := bne_iff_ne.2 (by omega)
    have hd := M.dec_len T0 h4
    rw [hO] at hd
    subst hd
    have hy := HY.out
    clear hO
    go_wp2
    go_ret2
    obtain ⟨e1, e2⟩ := hy
    have e1' : Y = [] := e1.symm
    have e2' : K = false := e2.symm
    subst e1' e2'
    exact ⟨none, 0, rfl, InS.nil _, HB3.out.2.2⟩
end Go.Proofs.YthhhmmogefpcgaaDoor
