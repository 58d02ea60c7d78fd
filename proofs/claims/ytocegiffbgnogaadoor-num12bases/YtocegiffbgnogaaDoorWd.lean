/- Walk of big.mulAdd: pieces times m, and k. Walk of big.written: the digits of pieces. -/
import Derived.Test.YtocegiffbgnogaaDoorWa
set_option linter.unusedVariables false
namespace Go.Proofs.YtocegiffbgnogaaDoor
open Go.RowKit

def uc (p : Nat) : Value := .int .u64 (p : Int)
/-- A row of pieces that the call has made. -/
def Own (w : World) (B : Nat) (v : Value) (ps : List Nat) : Prop := w.ownsRow B 63 1 v ps.length (ps.map uc)
theorem Own.form {w : World} {B : Nat} {v : Value} {ps : List Nat} (h : Own w B v ps) : ∃ ao cap g, v = .slice ao ps.length cap ∧ (0 < ps.length → ao = some ⟨g, 0, none⟩ ∧ B ≤ g) := by
  rcases h.2 with ⟨h1, h2⟩ | ⟨g, cap, cur, h1, hb, _⟩
  · exact ⟨none, 0, 0, by rw [h1, h2], fun h => by omega⟩
  · exact ⟨_, cap, g, h1, fun _ => ⟨rfl, hb⟩⟩
theorem Own.cell {w : World} {B g cap : Nat} {ps : List Nat} (h : Own w B (.slice (some ⟨g, 0, none⟩) ps.length cap) ps) (i : Nat) (hi : i < ps.length) : w.cell? ⟨g, i, none⟩ = some (.int .u64 (ps[i] : Nat)) := by
  have := World.ownsRow.cellAt h i (by omega)
  rw [this, List.getElem?_map, List.getElem?_eq_getElem hi]; rfl
theorem Own.frozen {w : World} {B g cap : Nat} {ps : List Nat} (h : Own w B (.slice (some ⟨g, 0, none⟩) ps.length cap) ps) (i : Nat) : w.frozen? ⟨g, i, none⟩ = false := World.ownsRow.frozenAt h i
theorem Own.set {w : World} {B g cap : Nat} {ps : List Nat} (h : Own w B (.slice (some ⟨g, 0, none⟩) ps.length cap) ps) (i p : Nat) :
    Own (w.setCell ⟨g, i, none⟩ (.int .u64 (p : Int))) B (.slice (some ⟨g, 0, none⟩) ps.length cap) (ps.set i p) := by
  have := (World.ownsRow.stored h i (.int .u64 (p : Int))).1
  unfold Own
  rw [List.length_set, List.map_set]; exact this
theorem Own.nil (w : World) (B : Nat) : Own w B (.slice none 0 0) [] := World.ownsRow_nil _ _ _ _
theorem uc_one (p : Nat) : ∀ u ∈ [Value.int .u64 (p : Int)], u.oneCell' = true := by intro u hu; rw [List.mem_singleton.1 hu]; rfl
theorem uc_news (w : World) (p : Nat) (t : TypeId) : ∀ (j : Nat) (u : Value), [Value.int .u64 (p : Int)][j]? = some u → (w.alloc (.cells #[.int .u64 (p : Int)] t)).cell? ((⟨w.heap.size, 0, none⟩ : Addr).add j) = some u := by
  intro j u hj
  match j, hj with
  | 0, hj => simp at hj; subst hj; simp [Addr.add]
  | n + 1, hj => simp at hj
theorem Own.snoc {w : World} {B : Nat} {v : Value} {ps : List Nat} {p : Nat} (h : w.ownsRow B 63 1 v (ps.length + 1) (ps.map uc ++ [.int .u64 (p : Int)])) : Own w B v (ps ++ [p]) := by
  unfold Own; rw [List.length_append, List.map_append]; exact h
theorem set_mid (done rest : List Nat) (p q : Nat) : (done ++ p :: rest).set done.length q = (done ++ [q]) ++ rest := by
  rw [List.set_append]; simp

theorem cast_mod (k p m : Nat) : (((k + p * m) % 10000000 : Nat) : Int) = ((k : Int) + (p : Int) * (m : Int)) % 10000000 := by
  rw [Int.natCast_emod, Int.natCast_add, Int.natCast_mul]; rfl
theorem cast_div (k p m : Nat) : (((k + p * m) / 10000000 : Nat) : Int) = ((k : Int) + (p : Int) * (m : Int)) / 10000000 := by
  rw [Int.natCast_ediv, Int.natCast_add, Int.natCast_mul]; rfl
theorem cast_mod1 (k : Nat) : ((k % 10000000 : Nat) : Int) = (k : Int) % 10000000 := by rw [Int.natCast_emod]; rfl
theorem cast_div1 (k : Nat) : ((k / 10000000 : Nat) : Int) = (k : Int) / 10000000 := by rw [Int.natCast_ediv]; rfl
/-- What mulAdd hands back. -/
def MulPost (B T n : Nat) (r : Ending) (w' : World) : Prop := ∃ v ps, r = .returned v ∧ Own w' B v ps ∧ M.Small ps ∧ M.pv ps = T ∧ ps.length ≤ n + 2

set_option maxRecDepth 100000 in
set_option maxHeartbeats 4000000 in
theorem mulAdd_any (v : Value) (ps : List Nat) (m k0 B : Nat) (w : World) (ho : Own w B v ps) (hsm : M.Small ps) (hB : B ≤ w.heap.size) (hn : ps.length ≤ 100000) (hm : m ≤ 1099511627776) (hk0 : k0 ≤ 1099511627776) :
    Calls Tryd.prog 58 #[v, .int .u64 m, .int .u64 k0] w fun r w' => MulPost B (M.pv ps * m + k0) ps.length r w' ∧ Below B w w' := by
  obtain ⟨ao, cap, g, rfl, hao⟩ := ho.form
  obtain ⟨T, hT⟩ : ∃ T, M.pv ps * m + k0 = T := ⟨_, rfl⟩
  have hT0 : M.pv [] + 10000000 ^ ([] : List Nat).length * (k0 + m * M.pv (ps.drop 0)) = T := by
    rw [← hT]; simp [M.pv, Nat.mul_comm, Nat.add_comm]
  rw [hT]
  have HT0 := Lib.hid hT0
  have HSM := Lib.hid hsm
  have HAO := Lib.hid hao
  clear hT hT0 hsm hao
  obtain ⟨i0, hi, hz0, hz1, hz2⟩ := info_parts Tryd.info63
  go_enter Tryd.func58, Tryd.ntmps58
  go_wp2
  go_loopw [2, 11] (fun kv iv wr => ∃ (k : Nat) (done : List Nat), kv = .int .u64 k ∧ iv = .int .i64 done.length ∧ k ≤ 1099511627776 ∧ done.length ≤ ps.length ∧ Hid (M.Small done) ∧ Hid (M.pv done + 10000000 ^ done.length * (k + m * M.pv (ps.drop done.length)) = T) ∧ Own wr B (.slice ao ps.length cap) (done ++ ps.drop done.length) ∧ Below B w wr) (fun _ iv _ => ps.length - (intOf iv).toNat)
  case atStart => exact ⟨k0, [], rfl, rfl, hk0, Nat.zero_le _, M.Small.nil, HT0.out, by simpa using ho, Below.refl _ _⟩
  case round =>
    obtain ⟨k, done, rfl, rfl, hk, hd, hsd, hst, hown, hbw⟩ := hrel
    by_cases hlt : done.length < ps.length
    · have hltd : decide (done.length < ps.length) = true := by simpa using hlt
      obtain ⟨rfl, hBg⟩ := HAO.out (by omega)
      have hlen : (done ++ ps.drop done.length).length = ps.length := by simp; omega
      rw [← hlen] at hown
      have hc := hown.cell done.length (by omega)
      have hf := hown.frozen done.length
      have hp : (done ++ ps.drop done.length)[done.length]'(by omega) = ps[done.length] := by simp
      rw [hp] at hc
      have hset := fun q => hown.set done.length q
      have hdc : ps.drop done.length = ps[done.length] :: ps.drop (done.length + 1) := List.drop_eq_getElem_cons hlt
      obtain ⟨p, hpp⟩ : ∃ p, ps[done.length] = p := ⟨_, rfl⟩
      have hps : p < 10000000 := by rw [← hpp]; exact HSM.out _ (List.getElem_mem _)
      rw [hpp] at hc hdc
      have hcl := M.carry_le hk hps hm
      have hstep := M.mul_step done k m p (M.pv (ps.drop (done.length + 1))) T (by have := hst.out; rw [hdc] at this; exact this)
      have hset' := hset ((k + p * m) % 10000000)
      rw [hlen] at hset'
      rw [hdc, set_mid] at hset'
      have HSET := Lib.hid hset'
      have HSTEP := Lib.hid hstep
      have hcz := Int.natCast_mul p m
      have hcz1 : (k : Int) + (p : Int) * (m : Int) ≤ 10995116277760000000 := by have := hcl.1; omega
      have hcz0 : (0 : Int) ≤ (p : Int) * (m : Int) := by omega
      clear hcz
      have HCL := Lib.hid hcl
      clear hset hset' hstep hcl hdc hpp hp hlen hown hst
      go_wp2
      go_roundw
      case rel =>
        refine ⟨(k + p * m) / 10000000, done ++ [(k + p * m) % 10000000], by rw [cast_div], by rw [List.length_append]; go_num, HCL.out.2, by rw [List.length_append]; simp; omega, hsd.out.snoc (by omega), ?_, ?_, ?_⟩
        · show _ = T
          rw [← HSTEP.out, List.length_append]; rfl
        · have h := HSET.out
          rw [cast_mod] at h
          rw [show (done ++ [(k + p * m) % 10000000]).length = done.length + 1 by simp]
          exact h
        · exact hbw.setCell hBg _
      case measure => simp [intOf]; omega
    · have hde : done.length = ps.length := by omega
      have hltd : decide (done.length < ps.length) = false := by simpa using hlt
      have hst1 := hst.out
      rw [List.drop_of_length_le (by omega)] at hst1 hown
      rw [List.append_nil] at hown
      rw [show M.pv [] = 0 from rfl, Nat.mul_zero, Nat.add_zero] at hst1
      have HST := Lib.hid hst1
      have hown' : Own wr B (.slice ao done.length cap) done := by rw [hde]; exact hown
      have HDE := Lib.hid hde
      clear hst1 hst hown hde hlt hd
      go_wp2
      go_loopw [0, 2] (fun sv kv wr2 => ∃ (j : Nat) (ds : List Nat) (e : Nat), kv = .int .u64 j ∧ ds.length = ps.length + e ∧ e ≤ 2 ∧ j ≤ 1099511627776 ∧ Hid (10000000 ^ e * j ≤ 1099511627776) ∧ Hid (M.Small ds) ∧ Hid (M.pv ds + 10000000 ^ ds.length * j = T) ∧ Own wr2 B sv ds ∧ Below B w wr2) (fun _ kv _ => (intOf kv).toNat)
      case atStart => exact ⟨k, done, 0, rfl, by rw [HDE.out, Nat.add_zero], by omega, hk, by show _ ≤ _; simpa using hk, hsd, HST.out, by rw [← HDE.out]; exact hown', hbw⟩
      case round =>
        obtain ⟨j, ds, e, rfl, hlen, he, hj, hr, hsd2, hst2, hown2, hbw2⟩ := hrel
        have hdl : ds.length ≤ 100002 := by omega
        have HLEN := Lib.hid hlen
        clear hlen
        have hwsz : B ≤ wr.heap.size := Nat.le_trans hB hbw2.size
        by_cases hj0 : 0 < j
        · have hjd : decide (0 < j) = true := by simpa using hj0
          have hroom := M.carry_room hr.out hj0
          have hcs := M.carry_step ds j T hst2.out
          have hdm : j / 10000000 ≤ j := Nat.div_le_self _ _
          have HROOM := Lib.hid hroom
          have HCS := Lib.hid hcs
          clear hroom hcs hr hst2
          go_wp2_with (first | (at_builtin; refine wpList_append_own _ rfl (.tmp 33) (.tmp 36) 61 rfl B 63 i0 (.int .u64 0) 1 8 Tryd.underlying61 hi hz0 hz1 hz2 rfl (by decide) u0 ds.length (ds.map uc) rfl (World.ownsRow.alloc hown2 _) ⟨wr.heap.size, 0, none⟩ 1 1 [.int .u64 ((j % 10000000 : Nat) : Int)] rfl rfl (by rw [← cast_mod1]; exact uc_news _ _ _) (uc_one _) (by unfold maxLen; omega) (by omega) (by simp; omega) ?_; intro v5 w5 hown5 hgrow5 _; have hb5 : Below B w w5 := (hbw2.alloc hwsz _).grown hgrow5 (by simp; omega) (fun k hk => (World.ownsRow.lt hown2 k hk).1); have HO5 := Lib.hid (Own.snoc hown5); clear hgrow5 hown5 hown2) | fail)
          go_roundw
          case rel => exact ⟨j / 10000000, ds ++ [j % 10000000], e + 1, by rw [cast_div1], by rw [List.length_append, HLEN.out]; rfl, by have := HROOM.out.1; omega, by omega, HROOM.out.2, hsd2.out.snoc (by omega), HCS.out, HO5.out, hb5⟩
          case measure => simp [intOf]; omega
        · obtain rfl : j = 0 := by omega
          have hst3 := hst2.out
          rw [Nat.mul_zero, Nat.add_zero] at hst3
          have HST3 := Lib.hid hst3
          have HR := Lib.hid hr
          clear hst3 hst2 hr
          go_wp2
          go_ret
          exact ⟨⟨_, ds, rfl, hown2, hsd2.out, HST3.out, by rw [HLEN.out]; omega⟩, hbw2⟩
end Go.Proofs.YtocegiffbgnogaaDoor

namespace Go.Proofs.YtocegiffbgnogaaDoor
open Go.RowKit

theorem dig_cast (p : Nat) : ((UInt8.ofNat (48 + p % 10)).toNat : Int) = 48 + (p : Int) % 10 := by
  have : (UInt8.ofNat (48 + p % 10)).toNat = 48 + p % 10 := by simp; omega
  rw [this]; omega
theorem cast_div10 (k : Nat) : ((k / 10 : Nat) : Int) = (k : Int) / 10 := by rw [Int.natCast_ediv]; rfl
theorem made_mem (w w1 : World) (n : Nat) (ho : w1.ownsRow w.heap.size 5 1 (.slice (some ⟨w.heap.size, 0, none⟩) n n) n (madeCells (Value.int .u8 0).cells (n * 1)).toList) (hg : w.grownBy w1 none) :
    Row w1 w.heap.size (List.replicate n 0) ∧ Below w.heap.size w w1 :=
  ⟨Row.made ho, (Below.refl _ _).grown hg (Nat.le_refl _) (fun k hk => by cases hk)⟩

set_option maxRecDepth 100000 in
set_option maxHeartbeats 4000000 in
theorem written_any (v : Value) (ps : List Nat) (B : Nat) (w : World) (ho : Own w B v ps) (hsm : M.Small ps) (hn : ps.length ≤ 100000) :
    Calls Tryd.prog 41 #[v] w fun r w' => r = .returned (.string (bA (M.wr ps))) ∧ Below w.heap.size w w' := by
  obtain ⟨ao, cap, g, rfl, hao⟩ := ho.form
  have HAO := Lib.hid hao
  have hglt : 0 < ps.length → g < w.heap.size := by
    intro h
    obtain ⟨rfl, _⟩ := hao h
    exact (World.ownsRow.lt ho g rfl).2
  have HG := Lib.hid hglt
  have HSM := Lib.hid hsm
  clear hao hglt hsm
  obtain ⟨i0, hi, hz0, hz1, hz2⟩ := info_parts Tryd.info5
  go_enter Tryd.func41, Tryd.ntmps41
  go_wp2_with (first | (at_make; refine wpList_make_full w rfl (.tmp 9) (.tmp 9) 22 rfl w.heap.size 5 i0 (.int .u8 0) 1 Tryd.underlying22 hi hz0 hz1 .i64 .i64 _ _ (7 * ps.length) rfl rfl (by simp) (by simp) (by rw [hz2]; omega) (by unfold maxLen; omega) (Nat.le_refl _) ?_; intro w1 ho1 hg1; obtain ⟨hR1, hB1⟩ := made_mem w w1 _ ho1 hg1; have HR1 := Lib.hid hR1; clear ho1 hg1 hR1) | fail)
  go_loopw [4, 15] (fun av iv wr => ∃ (i a : Nat), iv = .int .i64 i ∧ i ≤ ps.length ∧ av = .int .i64 (a : Int) ∧ a + 7 * i ≤ 7 * ps.length ∧ 7 * ps.length ≤ a + 7 * i ∧ Hid (Row wr w.heap.size (List.replicate a 0 ++ M.wr (ps.take i))) ∧ Below w.heap.size w wr) (fun _ iv _ => ps.length - (intOf iv).toNat)
  case atStart => exact ⟨0, 7 * ps.length, rfl, Nat.zero_le _, by go_num, by omega, by omega, by show Row _ _ _; simpa [M.wr] using HR1.out, hB1⟩
  case round =>
    obtain ⟨i, a, rfl, hik, rfl, ha1, ha2, hrow, hbw⟩ := hrel
    by_cases hlt : i < ps.length
    · have hltd : decide (i < ps.length) = true := by simpa using hlt
      obtain ⟨rfl, _⟩ := HAO.out (by omega)
      have hg := HG.out (by omega)
      have hc : wr.cell? ⟨g, i, none⟩ = some (.int .u64 (ps[i] : Nat)) := (hbw.cell (p := ⟨g, i, none⟩) hg).trans (ho.cell i hlt)
      have htk : ps.take (i + 1) = ps.take i ++ [ps[i]] := by rw [List.take_succ_eq_append_getElem hlt]
      obtain ⟨p, hp⟩ : ∃ p, ps[i] = p := ⟨_, rfl⟩
      have hpl : p < 10000000 := by rw [← hp]; exact HSM.out _ (List.getElem_mem _)
      rw [hp] at hc htk
      have hwr : M.wr (ps.take (i + 1)) = M.lastD 7 p (M.wr (ps.take i)) := by rw [htk, M.wr_snoc, M.lastD_append 7 p (M.wr _)]
      have HWR := Lib.hid hwr
      have hwl := M.wr_length (ps.take i)
      rw [List.length_take, Nat.min_eq_left hik] at hwl
      obtain ⟨r0, hr0⟩ : ∃ r0, M.wr (ps.take i) = r0 := ⟨_, rfl⟩
      rw [hr0] at hrow HWR hwl
      have HWL := Lib.hid hwl
      clear hwr hwl hr0 hp htk ho
      go_wp2
      go_loopw [4, 6, 19] (fun av pv cv wr2 => ∃ (c q b : Nat) (acc : List UInt8), cv = .int .i64 (c : Int) ∧ c ≤ 7 ∧ pv = .int .u64 (q : Int) ∧ q < 10000000 ∧ av = .int .i64 (b : Int) ∧ b + c ≤ a ∧ a ≤ b + c ∧ Hid (M.lastD (7 - c) q acc = M.lastD 7 p r0) ∧ Hid (Row wr2 w.heap.size (List.replicate b 0 ++ acc)) ∧ Below w.heap.size w wr2) (fun _ _ cv _ => 7 - (intOf cv).toNat)
      case atStart => exact ⟨0, p, a, r0, rfl, Nat.zero_le _, rfl, hpl, rfl, by omega, by omega, rfl, hrow, hbw⟩
      case round =>
        obtain ⟨c, q, b, acc, rfl, hc7, rfl, hq7, rfl, hb1, hb2, hL, hrow2, hbw2⟩ := hrel
        by_cases hcl : c < 7
        · have hcd : decide ((c : Int) < 7) = true := by simp; omega
          obtain ⟨b', rfl⟩ : ∃ b', b = b' + 1 := ⟨b - 1, by omega⟩
          have hfr := hrow2.out.frozen b'
          obtain ⟨x, hx⟩ : ∃ x, wr.cell? ⟨w.heap.size, b', none⟩ = some (.int .u8 x) := ⟨_, hrow2.out.cell b' (by simp; omega)⟩
          have hset := hrow2.out.set b' (UInt8.ofNat (48 + q % 10))
          rw [set_rep, dig_cast] at hset
          have hL1 := hL.out
          obtain ⟨d, hd⟩ : ∃ d, 7 - c = d + 1 := ⟨6 - c, by omega⟩
          rw [hd, M.lastD] at hL1
          have hL2 : M.lastD (7 - (c + 1)) (q / 10) (UInt8.ofNat (48 + q % 10) :: acc) = M.lastD 7 p r0 := by rw [← hL1]; congr 1; omega
          have HL := Lib.hid hL2
          have HSET := Lib.hid hset
          clear hL hL1 hL2 hd hset hrow2
          go_wp2
          go_roundw
          case rel => exact ⟨c + 1, q / 10, b', _, by go_num, by omega, by rw [cast_div10], by omega, by go_num, by omega, by omega, HL.out, HSET.out, hbw2.setCell (Nat.le_refl _) _⟩
          case measure => simp [intOf]; omega
        · obtain rfl : c = 7 := by omega
          have hcd : decide (((7 : Nat) : Int) < 7) = false := by decide
          have hL1 := hL.out
          rw [Nat.sub_self, M.lastD, ← HWR.out] at hL1
          rw [hL1] at hrow2
          clear hL hL1
          go_wp2
          go_roundw
          case rel => exact ⟨i + 1, b, by go_num, by omega, rfl, by omega, by omega, hrow2, hbw2⟩
          case measure => simp [intOf]; omega
    · obtain rfl : i = ps.length := by omega
      obtain rfl : a = 0 := by omega
      have hltd : decide (ps.length < ps.length) = false := by simp
      have hrow1 := hrow.out
      rw [List.take_of_length_le (Nat.le_refl _), List.replicate_zero, List.nil_append] at hrow1
      have hv := Row.conv0 hrow1
      rw [M.wr_length] at hv
      clear hrow1 hrow
      go_wp2
      go_ret
      exact ⟨rfl, hbw⟩
end Go.Proofs.YtocegiffbgnogaaDoor
