/- The law BrkJoined: its walk. -/
import Derived.Test.YtnmfiadljhbmiaaDoorLb
import Derived.Test.YtnmfiadljhbmiaaDoorRd
import Derived.Test.YtnmfiadljhbmiaaDoorMm
import Derived.Deep.RegionHeld3
import Derived.Deep.AppendLies
import Derived.IntWalk
set_option linter.unusedVariables false
namespace Go.Proofs.YtnmfiadljhbmiaaDoor
open Go.RowKit

/-- A slice of strings that came in. -/
def InS (w : World) (a : Option Addr) (ss : List ByteArray) : Prop := (∀ s ∈ ss, s.size ≤ maxLen) ∧ (ss ≠ [] → ∃ b off, a = some ⟨b, off, none⟩ ∧ b < w.heap.size ∧ ∀ i (h : i < ss.length), w.cell? ⟨b, off + i, none⟩ = some (.string ss[i]))
theorem six (k : Nat) (h : k < 6) : ∀ hq : k < 6, ([Value.string { data := #[10] }, Value.string { data := #[13] }, Value.string { data := #[13, 10] }, Value.string { data := #[194, 133] }, Value.string { data := #[226, 128, 168] }, Value.string { data := #[226, 128, 169] }][k]'hq) = .string (bA (M.brk6 k)) := by
  intro hq
  rcases (show k = 0 ∨ k = 1 ∨ k = 2 ∨ k = 3 ∨ k = 4 ∨ k = 5 by omega) with rfl | rfl | rfl | rfl | rfl | rfl <;> rfl
theorem brk6_le (k : Nat) : (M.brk6 k).length ≤ 3 := by unfold M.brk6; split <;> simp
def lists (ss : List ByteArray) : List (List UInt8) := ss.map fun s => s.data.toList
theorem lists_snoc (ss : List ByteArray) (k : Nat) (h : k < ss.length) : lists (ss.take (k + 1)) = lists (ss.take k) ++ [ss[k].data.toList] := by
  unfold lists; rw [List.take_succ_eq_append_getElem h, List.map_append]; rfl

set_option maxRecDepth 100000 in
set_option maxHeartbeats 2000000 in
theorem joined_any (a : Option Addr) (cap : Nat) (ss : List ByteArray) (kind : Nat) (w : World) (hT : Tabs w) (hin : InS w a ss) (hk : kind ≤ 255) (hlen : ss.length ≤ maxLen) :
    Calls Tryd.prog 6 #[.slice a ss.length cap, .int .u8 kind] w fun r w' => r = .returned (.bool true) ∧ Below w.heap.size w w' := by
  unfold maxLen at hlen
  have hlen2 : ss.length ≤ 9223372036854775807 := by omega
  clear hlen
  obtain ⟨i0, hi, hz0, hz1, hz2⟩ := info_parts Tryd.info23
  have HIN := Lib.hid hin
  have HI := Lib.hid (And.intro hi (And.intro hz0 (And.intro hz1 hz2)))
  clear hin hi hz0 hz1 hz2
  go_enter Tryd.func6, Tryd.ntmps6
  go_wp2_with fail
  refine (known_any w hT).mono ?_
  rintro r w1 ⟨rfl, b1⟩
  obtain ⟨k6, hk6⟩ : ∃ k6, kind % 6 = k6 := ⟨_, rfl⟩
  have hk6l : k6 < 6 := by omega
  go_wp2_with fail
  simp only [six k6 hk6l]
  have b0 := b1.alloc b1.size (.cells #[Value.string { data := #[10] }, Value.string { data := #[13] }, Value.string { data := #[13, 10] }, Value.string { data := #[194, 133] }, Value.string { data := #[226, 128, 168] }, Value.string { data := #[226, 128, 169] }] 39)
  generalize w1.alloc (.cells #[Value.string { data := #[10] }, Value.string { data := #[13] }, Value.string { data := #[13, 10] }, Value.string { data := #[194, 133] }, Value.string { data := #[226, 128, 168] }, Value.string { data := #[226, 128, 169] }] 39) = W0 at *
  have T0 : Tabs W0 := hT.below b0
  have hbl := bA_size (M.brk6 k6)
  have hbt := bA_toList (M.brk6 k6)
  have hb3 := brk6_le k6
  obtain ⟨bs, hbs⟩ : ∃ bs, bA (M.brk6 k6) = bs := ⟨_, rfl⟩
  rw [hbs] at hbl hbt ⊢
  have hbsz : bs.size ≤ 3 := by omega
  have HBL := Lib.hid hbl
  have HBT := Lib.hid hbt
  clear hbs hbl hbt hb3 b1 hT
  have HK := Lib.hid hk6
  clear hk6
  go_loopw [7, 8, 9] (fun sv v i wr => ∃ (k : Nat) (S : ByteArray), sv = .string S ∧ i = .int .i64 k ∧ k ≤ ss.length ∧ k ≤ 20 ∧ S.size ≤ 53 * k ∧ Hid (S.data.toList = M.joinL (M.brk6 k6) (lists (ss.take k))) ∧ Hid (∀ p ∈ lists (ss.take k), M.NoBrk p) ∧ OwnL wr W0.heap.size v (M.wantL (M.brk6 k6).length 0 (lists (ss.take k))) ∧ Below W0.heap.size W0 wr) (fun _ _ i _ => 20 - (intOf i).toNat)
  case atStart => exact ⟨0, ⟨#[]⟩, rfl, rfl, Nat.zero_le _, Nat.zero_le _, Nat.le_refl _, rfl, (fun p hp => by cases hp), World.ownsRow_nil _ _ _ _, Below.refl _ _⟩
  case round =>
    obtain ⟨k, S, rfl, rfl, hkl, hk20, hSz, HJ, HN, hown, hbw⟩ := hrel
    by_cases hlt : k < ss.length
    · by_cases hlt2 : k < 20
      · have d1 : decide (k < ss.length) = true := by simpa using hlt
        have d2 : decide (k < 20) = true := by simpa using hlt2
        obtain ⟨bb, off, rfl, hbb, hcell⟩ := HIN.out.2 (by intro h; rw [h] at hlt; simp at hlt)
        have hc := hcell k hlt
        have hc' : wr.cell? ⟨bb, off + k, none⟩ = some (.string ss[k]) := ((b0.trans (hbw.mono b0.size)).cell (p := ⟨bb, off + k, none⟩) hbb).trans hc
        obtain ⟨P, hP⟩ : ∃ P, ss[k] = P := ⟨_, rfl⟩
        have hPm : P.size ≤ maxLen := HIN.out.1 P (by rw [← hP]; exact List.getElem_mem hlt)
        unfold maxLen at hPm
        have hPm2 : P.size ≤ 9223372036854775807 := by omega
        have hls := lists_snoc ss k hlt
        rw [hP] at hc' hls
        have HLS := Lib.hid hls
        clear hc hcell hP hls hPm
        by_cases h50 : 50 < P.size
        · have d3 : decide ((50 : Int) < (P.size : Int)) = true := by simp; omega
          go_wp2
          go_ret
          exact ⟨rfl, b0.trans (hbw.mono b0.size)⟩
        · have d3 : decide ((50 : Int) < (P.size : Int)) = false := by simp; omega
          have hP50 : P.size ≤ 50 := by omega
          clear h50
          go_wp2_with fail
          refine (well_any P _ (by omega)).mono ?_
          rintro r w' ⟨rfl, rfl⟩
          cases hv : Lib.validD P.data.toList with
          | false =>
            go_wp2
            go_ret
            exact ⟨rfl, b0.trans (hbw.mono b0.size)⟩
          | true =>
            clear hv
            go_wp2_with fail
            go_loop [10] (fun v => ∃ j : Nat, v = .int .i64 j ∧ j ≤ P.size ∧ Hid (∀ m, m < j → M.brkN true (P.data.toList.drop m) = 0)) (fun v => P.size - (intOf v).toNat)
            case atStart => exact ⟨0, rfl, Nat.zero_le _, (fun m hm => absurd hm (by omega))⟩
            case round =>
              obtain ⟨j, rfl, hj, HB⟩ := hrel
              by_cases hjl : j < P.size
              · have d4 : decide (j < P.size) = true := by simpa using hjl
                have cJ := rbreak_in 11 P j wr hjl (by omega)
                rw [show isOld 11 = true from rfl] at cJ
                obtain ⟨n, hn⟩ : ∃ n, M.brkN true (P.data.toList.drop j) = n := ⟨_, rfl⟩
                rw [hn] at cJ
                by_cases hn0 : n = 0
                · subst hn0
                  have HZ := Lib.hid hn
                  clear hn
                  go_wp2_with fail
                  refine cJ.mono ?_
                  rintro r w' ⟨rfl, rfl⟩
                  go_wp2
                  go_round
                  case rel => exact ⟨j + 1, by go_num, by omega, (fun m hm => by
                    by_cases hmj : m = j
                    · rw [hmj]; exact HZ.out
                    · exact HB.out m (by omega))⟩
                  case measure => simp [intOf]; omega
                · have d5 : 0 < n := by omega
                  clear hn hn0
                  go_wp2_with fail
                  refine cJ.mono ?_
                  rintro r w' ⟨rfl, rfl⟩
                  go_wp2
                  go_ret
                  exact ⟨rfl, b0.trans (hbw.mono b0.size)⟩
              · obtain rfl : j = P.size := by omega
                have d4 : decide (P.size < P.size) = false := by simp
                clear hjl
                have q1 : IntKind.i64.wrap ((S.size : Int) + (P.size : Int)) = (S.size : Int) + (P.size : Int) := IntWalk.i64_in _ (by omega)
                have q2 : IntKind.i64.wrap ((S.size : Int) + (P.size : Int) + (bs.size : Int)) = (S.size : Int) + (P.size : Int) + (bs.size : Int) := IntWalk.i64_in _ (by omega)
                have hwl := M.wantL_length (M.brk6 k6).length 0 (lists (ss.take k))
                have hll : (lists (ss.take k)).length ≤ 20 := by unfold lists; rw [List.length_map, List.length_take]; omega
                obtain ⟨hi, hz0, hz1, hz2⟩ := HI.out
                have hsn := M.wantL_snoc (M.brk6 k6) (lists (ss.take k)) P.data.toList 0
                have hjl := congrArg List.length HJ.out
                rw [← sz_list] at hjl
                rw [← HLS.out, ← hjl, ← sz_list, ← HBL.out, Nat.zero_add] at hsn
                have HSN := Lib.hid hsn
                rw [← HBL.out] at hown hwl
                obtain ⟨ls, hls⟩ : ∃ ls, M.wantL bs.size 0 (lists (ss.take k)) = ls := ⟨_, rfl⟩
                rw [hls] at hown hwl
                have hlsl : ls.length ≤ 20 := by omega
                have HLsE := Lib.hid hls
                clear hsn hjl hls hwl hll
                have hsz2 := hbw.size
                have hszb := b0.size
                have lg : bb < wr.heap.size := by omega
                have ag : u8.ownBlock ≠ some bb := fun h => by have := (hown.lt bb h).1; omega
                have ik0 : (0 : Int) ≤ (k : Int) := Int.natCast_nonneg _
                have ik1 : (k : Int) < (ss.length : Int) := by omega
                go_wp2_with fail
                go_region_held3 (fun w' => w'.cell? ⟨bb, off + k, none⟩ = some (.string P)) (first | go_keep | (rw [hgrow.cell_far _ (by simp; omega) (Ne.symm ag)]; assumption)) ((refine step_append_lies _ (by rfl) _ _ _ (by rfl) W0.heap.size 23 i0 _ 3 24 Tryd.underlying31 hi hz0 hz1 hz2 rfl (by omega) u8 ls.length (cells3 ls) (by rfl) ((hown.alloc _).drew) ⟨wr.heap.size, 0, none⟩ 1 1 (cell3 (S.size, S.size + P.size, S.size + P.size + bs.size)) (by rfl) (by rfl) (World.news_of_block (cs := #[.int .i64 (S.size : Nat), .int .i64 (S.size + P.size : Nat), .int .i64 (S.size + P.size + bs.size : Nat)]) (t := 23) (fr := (0, 0)) (heap_alloc_new wr _)) (cell3_one _) (by omega) (by unfold maxLen; omega) (by omega) (by simp; omega) (wr.heap.size + 1) (by simp) ?_; intro gg cap5 w5 hown5 hgrow hat hlt5))
                have hb5 : Below W0.heap.size W0 w5 := ((hbw.alloc hsz2 _).drew).grown hgrow (by simp; omega) (fun k hk => (hown.lt k hk).1)
                have hc5 : w5.cell? ⟨bb, off + k, none⟩ = some (.string P) := (hb5.cell (p := ⟨bb, off + k, none⟩) (by show bb < W0.heap.size; omega)).trans ((hbw.cell (p := ⟨bb, off + k, none⟩) (by show bb < W0.heap.size; omega)).symm.trans hc')
                have HO5 := Lib.hid (OwnL.snoc hown5)
                have HS1 := Lib.hid (append_sz (S ++ P) bs)
                have HS2 := Lib.hid (append_sz S P)
                have HA1 := Lib.hid (append_list (S ++ P) bs)
                have HA2 := Lib.hid (append_list S P)
                clear hgrow hown5 hown hc' hat hlt5 q1 q2 hi hz0 hz1 hz2 ag lg
                go_wp2
                go_roundw
                case rel =>
                  refine ⟨k + 1, S ++ P ++ bs, rfl, by go_num, by omega, by omega, ?_, ?_, ?_, ?_, hb5⟩
                  · rw [HS1.out, HS2.out]; omega
                  · show (S ++ P ++ bs).data.toList = _
                    rw [HA1.out, HA2.out, HLS.out, M.joinL_snoc, HJ.out, HBT.out]
                  · intro p hp
                    rw [HLS.out] at hp
                    rcases List.mem_append.1 hp with h | h
                    · exact HN.out p h
                    · rw [List.mem_singleton.1 h]
                      intro m hm
                      exact HB.out m (by rw [sz_list]; exact hm)
                  · rw [← HBL.out, HSN.out, HLsE.out]; exact HO5.out
                case measure => simp [intOf]; omega
      · obtain rfl : k = 20 := by omega
        have d1 : decide (20 < ss.length) = true := by simpa using hlt
        have d2 : decide ((20 : Int) < 20) = false := by simp
        clear hlt2
        have hE := fun o ho => M.lines_join o k6 ho (lists (ss.take 20)) HN.out
        rw [← HJ.out] at hE
        have hwl := M.wantL_length (M.brk6 k6).length 0 (lists (ss.take 20))
        have hll : (lists (ss.take 20)).length ≤ 20 := by unfold lists; rw [List.length_map, List.length_take]; omega
        obtain ⟨ls, hls⟩ : ∃ ls, M.wantL (M.brk6 k6).length 0 (lists (ss.take 20)) = ls := ⟨_, rfl⟩
        rw [hls] at hown hwl hE
        have hlsl : ls.length ≤ 20 := by omega
        have HE := Lib.hid hE
        clear hE hls hwl hll
        go_wp2_with fail
        refine (lines_any 11 S _ (by omega)).mono ?_
        rintro r w3 ⟨⟨v3, rfl, o3⟩, b3⟩
        rw [show isOld 11 = true from rfl, HE.out true (Or.inl rfl)] at o3
        go_wp2_with fail
        refine (hlines_any v3 u8 ls ls w3 o3.sl (hown.sl.below b3) (by omega)).mono ?_
        rintro r w4 ⟨rfl, b4⟩
        rw [decide_eq_true (rfl : ls = ls)]
        have B4 : Below w.heap.size w w4 := ((b0.trans (hbw.mono b0.size)).trans (b3.mono (Nat.le_trans b0.size hbw.size))).trans (b4.mono (Nat.le_trans b0.size (Nat.le_trans hbw.size b3.size)))
        have S4 : SL w4 u8 ls := (hown.sl.below b3).below b4
        clear b3 b4 o3 hown hbw
        by_cases h2 : 2 < k6
        · have d6 : decide ((2 : Int) < (kind : Int) % 6) = true := by have := HK.out; simp; omega
          have d7 : 2 < kind % 6 := by have := HK.out; omega
          go_wp2
          go_ret
          exact ⟨rfl, B4⟩
        · have d6 : decide ((2 : Int) < (kind : Int) % 6) = false := by have := HK.out; simp; omega
          have d7 : kind % 6 ≤ 2 := by have := HK.out; omega
          go_wp2_with fail
          refine (lines_any 12 S _ (by omega)).mono ?_
          rintro r w5 ⟨⟨v5, rfl, o5⟩, b5⟩
          rw [show isOld 12 = false from rfl, HE.out false (Or.inr (by omega))] at o5
          go_wp2_with fail
          refine (hlines_any v5 u8 ls ls w5 o5.sl (S4.below b5) (by omega)).mono ?_
          rintro r w6 ⟨rfl, b6⟩
          rw [decide_eq_true (rfl : ls = ls)]
          go_wp2
          go_ret
          exact ⟨rfl, (B4.trans (b5.mono B4.size)).trans (b6.mono (Nat.le_trans B4.size b5.size))⟩
    · obtain rfl : k = ss.length := by omega
      have d1 : decide (ss.length < ss.length) = false := by simp
      clear hlt
      have hE := fun o ho => M.lines_join o k6 ho (lists (ss.take ss.length)) HN.out
      rw [← HJ.out] at hE
      have hwl := M.wantL_length (M.brk6 k6).length 0 (lists (ss.take ss.length))
      have hll : (lists (ss.take ss.length)).length ≤ 20 := by unfold lists; rw [List.length_map, List.length_take]; omega
      obtain ⟨ls, hls⟩ : ∃ ls, M.wantL (M.brk6 k6).length 0 (lists (ss.take ss.length)) = ls := ⟨_, rfl⟩
      rw [hls] at hown hwl hE
      have hlsl : ls.length ≤ 20 := by omega
      have HE := Lib.hid hE
      clear hE hls hwl hll
      go_wp2_with fail
      refine (lines_any 11 S _ (by omega)).mono ?_
      rintro r w3 ⟨⟨v3, rfl, o3⟩, b3⟩
      rw [show isOld 11 = true from rfl, HE.out true (Or.inl rfl)] at o3
      go_wp2_with fail
      refine (hlines_any v3 u8 ls ls w3 o3.sl (hown.sl.below b3) (by omega)).mono ?_
      rintro r w4 ⟨rfl, b4⟩
      rw [decide_eq_true (rfl : ls = ls)]
      have B4 : Below w.heap.size w w4 := ((b0.trans (hbw.mono b0.size)).trans (b3.mono (Nat.le_trans b0.size hbw.size))).trans (b4.mono (Nat.le_trans b0.size (Nat.le_trans hbw.size b3.size)))
      have S4 : SL w4 u8 ls := (hown.sl.below b3).below b4
      clear b3 b4 o3 hown hbw
      by_cases h2 : 2 < k6
      · have d6 : decide ((2 : Int) < (kind : Int) % 6) = true := by have := HK.out; simp; omega
        have d7 : 2 < kind % 6 := by have := HK.out; omega
        go_wp2
        go_ret
        exact ⟨rfl, B4⟩
      · have d6 : decide ((2 : Int) < (kind : Int) % 6) = false := by have := HK.out; simp; omega
        have d7 : kind % 6 ≤ 2 := by have := HK.out; omega
        go_wp2_with fail
        refine (lines_any 12 S _ (by omega)).mono ?_
        rintro r w5 ⟨⟨v5, rfl, o5⟩, b5⟩
        rw [show isOld 12 = false from rfl, HE.out false (Or.inr (by omega))] at o5
        go_wp2_with fail
        refine (hlines_any v5 u8 ls ls w5 o5.sl (S4.below b5) (by omega)).mono ?_
        rintro r w6 ⟨rfl, b6⟩
        rw [decide_eq_true (rfl : ls = ls)]
        go_wp2
        go_ret
        exact ⟨rfl, (B4.trans (b5.mono B4.size)).trans (b6.mono (Nat.le_trans B4.size b5.size))⟩

end Go.Proofs.YtnmfiadljhbmiaaDoor
