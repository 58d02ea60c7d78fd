/- The law Float11Sixty: its walk, on. -/
import Derived.Test.YtiainpdfidgcfaaGreatDoorGf
set_option linter.unusedVariables false
namespace Go.Proofs.YtiainpdfidgcfaaGreatDoor
open Go.RowKit

set_option maxRecDepth 100000 in
set_option maxHeartbeats 8000000 in
theorem sixty_core (f : Nat) (a : Option Addr) (cap : Nat) (l : List UInt8) (s : ByteArray) (neg : Bool) (w : World) (he : Env w) (hin : InB w a l) (hf2 : f < 65536) (hl1 : 1 ≤ l.length) (hl6 : l.length ≤ 6) (h30 : s.size ≤ 30) :
    Calls Tryz.prog 5 #[.int .u16 f, .slice a l.length cap, .string s, .bool neg] w fun e w' => e = .returned (.bool true) ∧ Below w.heap.size w w' := by
  have g2 : decide ((l.length : Int) < 1) = false := decide_eq_false (by omega)
  have g2' : decide (l.length < 1) = false := decide_eq_false (by omega)
  have g3 : decide ((6 : Int) < (l.length : Int)) = false := decide_eq_false (by omega)
  have g3' : decide (6 < l.length) = false := decide_eq_false (by omega)
  have g4 : decide ((30 : Int) < (s.size : Int)) = false := decide_eq_false (by omega)
  have g4' : decide (30 < s.size) = false := decide_eq_false (by omega)
  have HIN := Lib.hid hin
  have hst := M.SJ.start f hf2
  rw [← bA_toList (M.dg f)] at hst
  have hs0 : (bA (M.dg f)).size ≤ 5 + 3 * 0 := by rw [bA_size]; exact M.dg_len_le f 5 (by omega) (by omega)
  have HS0 := Lib.hid hst
  have cT0 := fun W => text_wide f W (by omega)
  have cF := fun W => digits_any s W (by omega)
  have lF : (digs s.data.toList).length = s.size := by rw [digs_length, ← sz_list]
  have aF := digs_all s.data.toList
  generalize digs s.data.toList = F at *
  have zF : (bA F).size ≤ 30 := by rw [bA_size]; omega
  have HAF := Lib.hid aF
  clear hin hst aF
  generalize bA (M.dg f) = B0 at *
  go_enter Tryz.func5, Tryz.ntmps5
  go_wp2_with fail
  refine (known_any _ he).mono ?_
  rintro r w1 ⟨rfl, hb1⟩
  go_wp2_with fail
  refine (cT0 _).mono ?_
  rintro r w2 ⟨rfl, hb2⟩
  go_wp2_with fail
  go_loopw [9, 10, 11] (fun sv nv iv wr => ∃ (i n : Nat) (S : ByteArray), sv = .string S ∧ nv = .int .i64 n ∧ iv = .int .i64 i ∧ i ≤ l.length ∧ S.size ≤ 5 + 3 * i ∧ n ≤ 3057647616000000 ∧ Hid (M.SJ f n i S.data.toList) ∧ Below w.heap.size w wr) (fun _ _ iv _ => l.length - (intOf iv).toNat)
  case atStart => exact ⟨0, f, B0, rfl, rfl, rfl, Nat.zero_le _, hs0, by omega, HS0.out, hb1.trans (hb2.mono hb1.size)⟩
  case round =>
    obtain ⟨i, n, S, rfl, rfl, rfl, hi, hSs, hnb, HS, hbw⟩ := hrel
    clear HS0 hs0 hb1 hb2 g2 g2' g3 g3' g4 g4'
    by_cases hlt : i < l.length
    · have hltd : decide ((i : Int) < (l.length : Int)) = true := by simp; omega
      have hltd2 : decide (i < l.length) = true := by simp; omega
      obtain ⟨x, off, rfl, hcl, hbh⟩ := HIN.out (by intro e; rw [e] at hlt; simp at hlt)
      have hc0 := (hbw.cell (p := ⟨x, off + i, none⟩) hbh).trans (hcl i hlt)
      have h256 := l[i].toNat_lt
      generalize l[i].toNat = v at *
      clear hcl
      obtain ⟨p, hp⟩ : ∃ p, v % 60 = p := ⟨_, rfl⟩
      have hp60 : p < 60 := by omega
      have e1 : Int.tmod (v : Int) 60 = (p : Int) := by rw [show (60 : Int) = ((60 : Nat) : Int) from rfl, ← Int.ofNat_tmod, hp]
      have e2 : (v : Int) % 60 = (p : Int) := by omega
      have hw1 : IntKind.i64.wrap (p : Int) = (p : Int) := by rw [IntWalk.i64_in _ (by omega)]
      have hst := HS.out.step hp60
      have hbd := hst.bound (by omega)
      rw [← bA_toList (S.data.toList ++ 58 :: M.dg p)] at hst
      have hPl := M.dg_two_len (p := p) (by omega)
      have e5 : S ++ ⟨#[58]⟩ ++ bA (M.dg p) = bA (S.data.toList ++ 58 :: M.dg p) := by
        apply eq_bA; rw [append_list, append_list, bA_toList]; simp
      have hSS : (bA (S.data.toList ++ 58 :: M.dg p)).size ≤ 5 + 3 * (i + 1) := by rw [bA_size, List.length_append, List.length_cons, ← sz_list]; omega
      rw [← e5] at hst hSS
      have cT := fun W => text_wide p W (by omega)
      have hz1 : (bA (M.dg p)).size ≤ 2 := by rw [bA_size]; exact hPl
      have HST := Lib.hid hst
      have HSS := Lib.hid hSS
      clear hst hSS hPl e5 HS hp60 hp cT0 cF
      generalize bA (M.dg p) = BP at *
      have ha1 : ∀ W, (Op.stringOp .add S ⟨#[58]⟩).run Tryz.prog W = .ok (.string (S ++ ⟨#[58]⟩)) W := fun W => run_string_add_sum _ _ _ (by show S.size + 1 ≤ _; omega)
      have ha2 : ∀ W, (Op.stringOp .add (S ++ ⟨#[58]⟩) BP).run Tryz.prog W = .ok (.string (S ++ ⟨#[58]⟩ ++ BP)) W := fun W => run_string_add_sum _ _ _ (by rw [append_sz]; show S.size + 1 + BP.size ≤ _; omega)
      go_wp2_with fail
      refine (cT _).mono ?_
      rintro r w3 ⟨rfl, hb3⟩
      have hc3 := (hb3.cell (p := ⟨x, off + i, none⟩) (Nat.lt_of_lt_of_le hbh hbw.size)).trans hc0
      clear cT
      go_wp2
      have hbz := hbw.trans (hb3.mono hbw.size)
      go_roundw
      case rel => exact ⟨i + 1, 60 * n + p, _, rfl, by go_num, by go_num, by omega, HSS.out, by omega, HST.out, hbz⟩
      case measure => simp [intOf]; omega
    · obtain rfl : i = l.length := by omega
      have hltd : decide ((l.length : Int) < (l.length : Int)) = false := by simp
      have hltd2 : decide (l.length < l.length) = false := by simp
      obtain ⟨⟨pP, pf, pb, pn⟩, p1, p2⟩ := HS.out.told (by omega) HAF.out
      have h46 := M.flo_no46 HS.out.no46
      have cN := fun W => text_wide n W hnb
      have lN := M.dg_len_le n 16 (by omega) (by omega)
      have hok : M.okD 10 ((bA (M.dg n)).data.toList ++ (bA F).data.toList) = true := by
        rw [bA_toList, bA_toList, M.okD_iff, M.allD_append, M.dg_all, HAF.out]
        exact ⟨fun e => M.dg_ne n (List.append_eq_nil_iff.1 e).1, rfl⟩
      obtain ⟨k, nn, D, E, _, _, g, cM⟩ := make_both neg (bA (M.dg n)) (bA F) 0 (by rw [bA_size]; omega) (by omega) (by rw [tx0]; decide) hok
      rw [tx0] at cM
      have hl0 : (S ++ ⟨#[46]⟩ ++ bA F).data.toList = S.data.toList ++ 46 :: F := by rw [append_list, append_list, bA_toList]; simp
      have hz0 : (S ++ ⟨#[46]⟩ ++ bA F).size ≤ 60 := by rw [append_sz, append_sz]; show S.size + 1 + _ ≤ 60; omega
      have cA := fun W => flo_any (S ++ ⟨#[46]⟩ ++ bA F) W (by omega)
      rw [hl0, pf] at cA
      have cI1 := fun W => fis_bad S W (by omega) h46
      have cI2 := fun W => fis_bad (S ++ ⟨#[46]⟩ ++ bA F ++ ⟨#[101, 43, 49]⟩) W (by rw [append_sz]; show _ + 3 ≤ _; omega) (by rw [append_list, hl0]; show M.flo (S.data.toList ++ 46 :: F ++ [101, 43, 49]) = 0; rw [List.append_assoc]; exact p1)
      have cI3 := fun W => fis_bad (S ++ ⟨#[58, 46]⟩ ++ bA F) W (by rw [append_sz, append_sz]; show S.size + 2 + _ ≤ _; omega) (by rw [append_list, append_list, bA_toList]; show M.flo (S.data.toList ++ [58, 46] ++ F) = 0; rw [List.append_assoc]; exact p2)
      have eG := eqG
      have e4 := eql4
      have hSz : S.size ≤ 23 := by omega
      cases neg
      · have he0 : (⟨#[]⟩ : ByteArray) ++ S = S := by rw [show (⟨#[]⟩ : ByteArray) ++ S = bA S.data.toList from eq_bA (by rw [append_list]; rfl), bA_of]
        have ha0 : ∀ W, (Op.stringOp .add ⟨#[]⟩ S).run Tryz.prog W = .ok (.string S) W := fun W => by
          have := run_string_add_sum (P := Tryz.prog) W ⟨#[]⟩ S (by show 0 + S.size ≤ _; omega)
          rwa [he0] at this
        have cO := fun W hW => of_run (S ++ ⟨#[46]⟩ ++ bA F) W hW (by omega) (M.dg n) F 0 (by rw [hl0, pb]; exact pP) k nn true D E (by rw [hl0, pn]; exact g)
        clear pP pf pb pn p1 p2 h46 g hok hl0 lN HS
        generalize bA (M.dg n) = BN at *
        generalize bA F = BF at *
        clear cT0
        go_wp2_with fail
        refine (cN _).mono ?_
        rintro r w3 ⟨rfl, hw3⟩
        have B3 : Below w.heap.size w w3 := below_on hbw hw3
        go_wp2_with fail
        refine (cF _).mono ?_
        rintro r w4 ⟨rfl, hw4⟩
        have B4 : Below w.heap.size w w4 := below_on B3 hw4
        go_wp2_with fail
        refine (cM _).mono ?_
        rintro r w5 ⟨rfl, hw5⟩
        have B5 : Below w.heap.size w w5 := below_on B4 hw5
        clear hw3 hw4 hw5 B3 B4 hbw cN cM
        go_wp2_with fail
        refine (cF _).mono ?_
        rintro r w6 ⟨rfl, hw6⟩
        have K6 := (Blk.made w5 k nn D E).next hw6
        have B6 : Below w.heap.size w w6 := below_over B5 hw6
        have E6 := he.next B6
        clear hw6
        go_wp2_with fail
        refine (cO _ E6).mono ?_
        rintro r w7 ⟨rfl, hw7⟩
        have K7 := K6.next hw7
        have B7 : Below w.heap.size w w7 := below_on B6 hw7
        clear hw7 K6 B6 E6 B5 cO
        obtain ⟨g, hg⟩ : ∃ g, w5.heap.size = g := ⟨_, rfl⟩
        rw [hg] at K7 ⊢
        clear hg
        have lg := K7.lt
        obtain ⟨p0, p1, p2, p3⟩ := K7.cells
        go_wp2_with fail
        refine (cF _).mono ?_
        rintro r w8 ⟨rfl, hw8⟩
        have B8 : Below w.heap.size w w8 := below_over B7 hw8
        clear hw8 K7 lg p0 p1 p2 p3 B7
        go_wp2_with fail
        refine (cA _).mono ?_
        rintro r w' ⟨rfl, rfl⟩
        go_wp2_with fail
        refine (cI1 _).mono ?_
        rintro r w' ⟨rfl, rfl⟩
        go_wp2_with fail
        refine (cF _).mono ?_
        rintro r w9 ⟨rfl, hw9⟩
        have B9 : Below w.heap.size w w9 := below_on B8 hw9
        clear hw9 B8
        go_wp2_with fail
        refine (cI2 _).mono ?_
        rintro r w' ⟨rfl, rfl⟩
        go_wp2_with fail
        refine (cF _).mono ?_
        rintro r w10 ⟨rfl, hw10⟩
        have B10 : Below w.heap.size w w10 := below_on B9 hw10
        clear hw10 B9
        go_wp2_with fail
        refine (cI3 _).mono ?_
        rintro r w' ⟨rfl, rfl⟩
        go_wp2
        go_ret
        exact ⟨rfl, B10⟩
      · have hl1' : (⟨#[45]⟩ ++ S ++ ⟨#[46]⟩ ++ bA F).data.toList = 45 :: (S.data.toList ++ 46 :: F) := by rw [append_list, append_list, append_list, bA_toList]; simp
        have hz1 : (⟨#[45]⟩ ++ S ++ ⟨#[46]⟩ ++ bA F).size ≤ 61 := by rw [append_sz, append_sz, append_sz]; show 1 + S.size + 1 + _ ≤ 61; omega
        obtain ⟨sb, sn⟩ := head_45 (c := 45) (r := S.data.toList ++ 46 :: F) rfl
        have cO := fun W hW => of_run (⟨#[45]⟩ ++ S ++ ⟨#[46]⟩ ++ bA F) W hW (by omega) (M.dg n) F 0 (by rw [hl1', sn]; exact pP) k nn true D E (by rw [hl1', sb]; exact g)
        clear pP pf pb pn p1 p2 h46 g hok hl0 lN HS hl1' sb sn
        generalize bA (M.dg n) = BN at *
        generalize bA F = BF at *
        clear cT0
        go_wp2_with fail
        refine (cN _).mono ?_
        rintro r w3 ⟨rfl, hw3⟩
        have B3 : Below w.heap.size w w3 := below_on hbw hw3
        go_wp2_with fail
        refine (cF _).mono ?_
        rintro r w4 ⟨rfl, hw4⟩
        have B4 : Below w.heap.size w w4 := below_on B3 hw4
        go_wp2_with fail
        refine (cM _).mono ?_
        rintro r w5 ⟨rfl, hw5⟩
        have B5 : Below w.heap.size w w5 := below_on B4 hw5
        clear hw3 hw4 hw5 B3 B4 hbw cN cM
        go_wp2_with fail
        refine (cF _).mono ?_
        rintro r w6 ⟨rfl, hw6⟩
        have K6 := (Blk.made w5 k nn D E).next hw6
        have B6 : Below w.heap.size w w6 := below_over B5 hw6
        have E6 := he.next B6
        clear hw6
        go_wp2_with fail
        refine (cO _ E6).mono ?_
        rintro r w7 ⟨rfl, hw7⟩
        have K7 := K6.next hw7
        have B7 : Below w.heap.size w w7 := below_on B6 hw7
        clear hw7 K6 B6 E6 B5 cO
        obtain ⟨g, hg⟩ : ∃ g, w5.heap.size = g := ⟨_, rfl⟩
        rw [hg] at K7 ⊢
        clear hg
        have lg := K7.lt
        obtain ⟨p0, p1, p2, p3⟩ := K7.cells
        go_wp2_with fail
        refine (cF _).mono ?_
        rintro r w8 ⟨rfl, hw8⟩
        have B8 : Below w.heap.size w w8 := below_over B7 hw8
        clear hw8 K7 lg p0 p1 p2 p3 B7
        go_wp2_with fail
        refine (cA _).mono ?_
        rintro r w' ⟨rfl, rfl⟩
        go_wp2_with fail
        refine (cI1 _).mono ?_
        rintro r w' ⟨rfl, rfl⟩
        go_wp2_with fail
        refine (cF _).mono ?_
        rintro r w9 ⟨rfl, hw9⟩
        have B9 : Below w.heap.size w w9 := below_on B8 hw9
        clear hw9 B8
        go_wp2_with fail
        refine (cI2 _).mono ?_
        rintro r w' ⟨rfl, rfl⟩
        go_wp2_with fail
        refine (cF _).mono ?_
        rintro r w10 ⟨rfl, hw10⟩
        have B10 : Below w.heap.size w w10 := below_on B9 hw10
        clear hw10 B9
        go_wp2_with fail
        refine (cI3 _).mono ?_
        rintro r w' ⟨rfl, rfl⟩
        go_wp2
        go_ret
        exact ⟨rfl, B10⟩
theorem sixty_any (f : Nat) (a : Option Addr) (cap : Nat) (l : List UInt8) (s : ByteArray) (neg : Bool) (w : World) (he : Env w) (hf : f ≤ 65535) (hin : InB w a l) (hs : s.size ≤ maxLen) :
    Calls Tryz.prog 5 #[.int .u16 f, .slice a l.length cap, .string s, .bool neg] w fun e w' => e = .returned (.bool true) ∧ Below w.heap.size w w' := by
  by_cases h : l.length < 1 ∨ 6 < l.length ∨ 30 < s.size
  · exact sixty_none f a cap l s neg w he hs h
  · exact sixty_core f a cap l s neg w he hin (by omega) (by omega) (by omega) (by omega)
end Go.Proofs.YtiainpdfidgcfaaGreatDoor
