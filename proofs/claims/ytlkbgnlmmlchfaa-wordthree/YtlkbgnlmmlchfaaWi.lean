/- The law WordThree: its walk. -/
import Derived.Test.YtlkbgnlmmlchfaaWg
import Derived.Deep.RegionHeld3
import Derived.Deep.DeepCutAuto
import Derived.Deep.RegionWith
import Derived.Laws.BitsAllLaws
set_option linter.unusedVariables false
namespace Go.Proofs.Ytlkbgnlmmlchfaa
open Go.RowKit

def sws : List (List UInt8) := [[116, 114, 117, 101], [102, 97, 108, 115, 101], [121, 101, 115], [110, 111], [111, 110], [111, 102, 102]]
/-- The law's six words. -/
def sw (q : Nat) : List UInt8 := sws.getD q []
/-- A word with one of its letters turned. -/
def od (q m k : Nat) : List UInt8 := (tu m (sw q)).set k ((tu m (sw q)).getD k 0 ^^^ 32)
theorem f_len : ∀ q, q < 6 → ∀ m, m < 3 → 2 ≤ (tu m (sw q)).length ∧ (tu m (sw q)).length ≤ 5 := by decide
theorem f_old : ∀ q, q < 6 → ∀ m, m < 3 → M.bo true (tu m (sw q)) = (decide (q % 2 = 0), true) := by decide
theorem f_new : ∀ q, q < 6 → ∀ m, m < 3 → M.bo false (tu m (sw q)) = (decide (q = 0), decide (q < 2)) := by decide
theorem f_pl : ∀ q, q < 6 → ∀ m, m < 3 → M.pl (tu m (sw q)) = false := by decide
theorem f_nu : ∀ m, m < 3 → M.nu (tu m [110, 117, 108, 108]) = true := by decide
theorem f_odd : ∀ q, q < 6 → ∀ m, m < 3 → ∀ k, k < 5 → k < (tu m (sw q)).length → (M.bo true (od q m k)).2 = (decide (od q m k = tu 0 (sw q)) || (decide (od q m k = tu 1 (sw q)) || decide (od q m k = tu 2 (sw q)))) := by decide
abbrev sixB : Obj := .cells #[.string ⟨#[116, 114, 117, 101]⟩, .string ⟨#[102, 97, 108, 115, 101]⟩, .string ⟨#[121, 101, 115]⟩, .string ⟨#[110, 111]⟩, .string ⟨#[111, 110]⟩, .string ⟨#[111, 102, 102]⟩] 30
theorem six_cell (w : World) (q : Nat) (h : q < 6) : (w.alloc sixB).cell? ⟨w.heap.size, q, none⟩ = some (.string (bA (sw q))) := by
  match q, h with
  | 0, _ => simp; rfl
  | 1, _ => simp; rfl
  | 2, _ => simp; rfl
  | 3, _ => simp; rfl
  | 4, _ => simp; rfl
  | 5, _ => simp; rfl
  | n + 6, h => exact absurd h (by omega)
theorem mods (a n k : Nat) (h : a % n = k) : Int.tmod (a : Int) (n : Int) = (k : Int) ∧ (a : Int) % (n : Int) = (k : Int) := by
  subst h
  exact ⟨(Int.ofNat_tmod a n).symm, (Int.natCast_emod a n).symm⟩
theorem wraps (a : Nat) (h : a ≤ 255) : wrap64 (a : Int) = (a : Int) ∧ IntKind.i64.wrap (a : Int) = (a : Int) := by
  refine ⟨?_, ?_⟩
  · unfold wrap64; omega
  · rw [IntWalk.i64_in _ (by omega)]
theorem xor_cast (c : UInt8) : bits .xor .u8 (c.toNat : Int) 32 = ((c ^^^ 32).toNat : Int) := by
  rw [UInt8.toNat_xor]
  exact Go.u8_xor_nat c.toNat 32 c.toNat_lt (by omega)
theorem eq_dec (l l' : List UInt8) : ((bA l).toList == (bA l').toList) = decide (l = l') := by
  rw [ByteArray.toList_eq, ByteArray.toList_eq, bA_toList, bA_toList, Bool.eq_iff_iff, beq_iff_eq, decide_eq_true_iff]
/-- An operation of a region taken next, where its result goes told by the caller. -/
theorem takeH {P : Program} {md : Region.Mode} {ops : Array Oper} {Q : Exit → Act → World → Prop} {S : World → Prop} {i : Nat} {oi : Oper} {v : Value} {fuel : Nat} {listed : Array Bool} {a : Act} {w : World} (d : Option Tmp) (hd : oi.dst = d) (hi : ops[i]? = some oi)
    (hs : Region.noSelect ops = true) (hf : Region.free md ops listed i = true) (hr : (Region.ready md ops listed).contains i = true)
    (hQ : ∀ c a w, Q (.panic c) (a.put oi.dst v) w → Q (.panic c) a w) (hy : YieldsIf P ops S oi v a) (hS : S w)
    (h : wpAnyH P md ops Q S fuel (listed.setIfInBounds i true) (a.put d v) w) : wpAnyH P md ops Q S (fuel + 1) listed a w := by
  subst hd
  exact wpAnyH_take hi hs hf hr hQ hy hS h
theorem liftB {W0 w : World} {f : Nat} {args : Array Value} {e0 : Ending} (h : Calls Try.prog f args w fun e w' => e = e0 ∧ Below w.heap.size w w') (hb : Below W0.heap.size W0 w) : Calls Try.prog f args w fun e w' => e = e0 ∧ Below W0.heap.size W0 w' :=
  h.mono fun e w' hh => ⟨hh.1, below_on hb hh.2⟩

set_option maxRecDepth 100000 in
set_option maxHeartbeats 4000000 in
theorem three_core (a b c : Nat) (w : World) (ha : a ≤ 255) (hb : b ≤ 255) (hc : c ≤ 255) : Calls Try.prog 5 #[.int .u8 a, .int .u8 b, .int .u8 c] w fun e w' => e = .returned (.bool true) ∧ Below w.heap.size w w' := by
  obtain ⟨q, hq⟩ : ∃ q, a % 6 = q := ⟨_, rfl⟩
  obtain ⟨m, hm⟩ : ∃ m, b % 3 = m := ⟨_, rfl⟩
  have a1 : Int.tmod (a : Int) 6 = (q : Int) := (mods a 6 q hq).1
  have a2 : (a : Int) % 6 = (q : Int) := (mods a 6 q hq).2
  have b1 : Int.tmod (b : Int) 3 = (m : Int) := (mods b 3 m hm).1
  have b2 : (b : Int) % 3 = (m : Int) := (mods b 3 m hm).2
  have hq6 : q < 6 := by omega
  have hm3 : m < 3 := by omega
  have hcell := six_cell w q hq6
  have B1 : Below w.heap.size w (w.alloc sixB) := (Below.refl _ _).alloc (Nat.le_refl _) _
  have hSs : (bA (sw q)).size ≤ 1000 := by rw [bA_size, ← tu_len 0]; have := (f_len q hq6 0 (by omega)).2; omega
  have t1 := fun W => turned_any (bA (sw q)) b m W hSs hm
  rw [bA_toList] at t1
  have tA : ∀ (j : Int) (W : World), 0 ≤ j → j ≤ 2 → Calls Try.prog 15 #[.string (bA (sw q)), .int .u8 j] W fun e w' => e = .returned (.string (bA (tu j.toNat (sw q)))) ∧ Below W.heap.size W w' := by
    intro j W h0 h2
    obtain ⟨n, rfl⟩ := Int.eq_ofNat_of_zero_le h0
    have := turned_any (bA (sw q)) n n W hSs (by omega)
    rw [bA_toList] at this
    exact this
  have tN := fun W => turned_any ⟨#[110, 117, 108, 108]⟩ b m W (by decide) hm
  have nN := fun W => null_any (bA (tu m [110, 117, 108, 108])) W
  rw [bA_toList, show decide (tu m [110, 117, 108, 108] ∈ M.wN) = true from f_nu m hm3] at nN
  rw [show (⟨#[110, 117, 108, 108]⟩ : ByteArray).data.toList = [110, 117, 108, 108] from rfl] at tN
  obtain ⟨V, hV⟩ : ∃ V, bA (tu m [110, 117, 108, 108]) = V := ⟨_, rfl⟩
  rw [hV] at tN nN
  clear hV
  have pT := fun W => plain_any (bA (tu m (sw q))) W (by rw [bA_size]; have := (f_len q hq6 m hm3).2; omega)
  rw [bA_toList, f_pl q hq6 m hm3] at pT
  obtain ⟨TT, hTT⟩ : ∃ TT : Int → ByteArray, ∀ j, bA (tu j.toNat (sw q)) = TT j := ⟨fun j => bA (tu j.toNat (sw q)), fun _ => rfl⟩
  simp only [hTT] at tA
  obtain ⟨S, hS⟩ : ∃ S, bA (sw q) = S := ⟨_, rfl⟩
  rw [hS] at t1 hcell tA
  obtain ⟨T, hT⟩ : ∃ T, bA (tu m (sw q)) = T := ⟨_, rfl⟩
  rw [hT] at t1 pT
  have k1 := fun W => bool_any 11 T W
  have k2 := fun W => bool_any 12 T W
  rw [← hT, bA_toList, decide_eq_true rfl, f_old q hq6 m hm3, hT] at k1
  rw [← hT, bA_toList, decide_eq_false (show ¬ (12 : Int) = 11 by decide), f_new q hq6 m hm3, hT] at k2
  dsimp only [bV] at k1 k2
  have hr2 : a % 2 = q % 2 := by omega
  obtain ⟨r2, hr⟩ : ∃ r2, a % 2 = r2 := ⟨_, rfl⟩
  have r1 : Int.tmod (a : Int) 2 = (r2 : Int) := (mods a 2 r2 hr).1
  have r3 : (a : Int) % 2 = (r2 : Int) := (mods a 2 r2 hr).2
  have hA1 : ((r2 : Int) == 0) = decide (q % 2 = 0) := by rw [Bool.eq_iff_iff, beq_iff_eq, decide_eq_true_iff]; omega
  have hI1 : decide ((q : Int) < 2) = decide (q < 2) := by rw [decide_eq_decide]; omega
  have hAZ : decide (q < 2) = true → decide (q % 2 = 0) = decide (q = 0) := by
    intro h
    have := of_decide_eq_true h
    rw [decide_eq_decide]; omega
  generalize decide (q % 2 = 0) = A at *
  generalize decide (q = 0) = Z at *
  generalize hI : decide (q < 2) = I at *
  have hTn : T.size = (tu m (sw q)).length := by rw [← hT, bA_size]
  go_enter Try.func5, Try.ntmps5
  go_wp2_with fail
  refine (known_any _).mono ?_
  rintro r w' ⟨rfl, rfl⟩
  go_wp2_with fail
  refine (t1 _).mono ?_
  rintro r w2 ⟨rfl, hb2⟩
  have B2 := below_on B1 hb2
  clear t1 hb2 B1 hcell
  go_wp2_with fail
  refine (k1 _).mono ?_
  rintro r w' ⟨rfl, rfl⟩
  obtain ⟨W3, cp, cv, hb3, hbs⟩ := bytes_made T w2
  rw [← hT, bA_toList] at hbs
  go_wp2_with fail
  refine (k2 _).mono ?_
  rintro r w' ⟨rfl, rfl⟩
  have hn2 := (f_len q hq6 m hm3).1
  have hn5 := (f_len q hq6 m hm3).2
  rw [← hTn] at hn2 hn5
  have hkn : c % T.size < T.size := Nat.mod_lt _ (by omega)
  obtain ⟨kk, hkk⟩ : ∃ kk, c % T.size = kk := ⟨_, rfl⟩
  rw [hkk] at hkn
  obtain ⟨c1, c2⟩ := mods c T.size kk hkk
  obtain ⟨c3, c4⟩ := wraps c hc
  have c5 : ((T.size : Int) == 0) = false := beq_eq_false_iff_ne.2 (by omega)
  obtain ⟨g, hg⟩ : ∃ g, w2.heap.size = g := ⟨_, rfl⟩
  rw [hg] at cv hbs
  have HBS := Lib.hid hbs
  have HT := Lib.hid hT
  have HTn := Lib.hid hTn
  have HB2 := Lib.hid B2
  have HB3 := Lib.hid hb3
  have HG := Lib.hid hg
  have HQ := Lib.hid hq
  have HM := Lib.hid hm
  have HS := Lib.hid hS
  have HTT := Lib.hid hTT
  have HAZ := Lib.hid hAZ
  clear hTT hAZ hI hr2 hr hbs hT hTn B2 hb3 hg hq hm hS k1 k2
  go_upto_region 10 with fail
  go_cut [15, 66] (fun kv v wx => ∃ (k1 : Nat) (C : Bool), kv = .int .i64 k1 ∧ k1 < T.size ∧ v = .bool C ∧ wx = W3)
  case first =>
    go_wp2
    all_goals
      go_meet
      first | exact ⟨kk, _, rfl, hkn, rfl, rfl⟩ | exact ⟨0, _, rfl, by omega, rfl, rfl⟩ | exact ⟨1, _, rfl, by omega, rfl, rfl⟩
  case rest =>
    obtain ⟨k1, C, rfl, hk1, rfl, hW⟩ := hcut
    subst wc
    clear c1 c2 hkk hkn
    go_upto_if 66 with fail
    go_cut [15] (fun v wx => ∃ k2 : Nat, v = .int .i64 k2 ∧ k2 < T.size ∧ wx = W3)
    case first =>
      cases C
      · go_wp2
        go_meet
        exact ⟨k1, rfl, hk1, rfl⟩
      · go_wp2
        go_meet
        exact ⟨T.size - 1, by go_num, by omega, rfl⟩
    case rest =>
      obtain ⟨k2, rfl, hk2, hW⟩ := hcut
      subst wc
      clear hk1
      have hkl : k2 < (tu m (sw q)).length := by rw [← HTn.out]; exact hk2
      have hset := HBS.out.set k2 hkl ((tu m (sw q))[k2] ^^^ 32)
      have hfro := HBS.out.2.1 k2 hkl
      have hcell := HBS.out.1 k2 hkl
      rw [← xor_cast] at hset
      have hod : (tu m (sw q)).set k2 ((tu m (sw q))[k2] ^^^ 32) = od q m k2 := by
        unfold od
        rw [List.getD_eq_getElem?_getD, List.getElem?_eq_getElem hkl]; rfl
      rw [hod] at hset
      generalize (tu m (sw q))[k2].toNat = x at hset hcell
      obtain ⟨W4, hW4⟩ : ∃ W4, W3.setCell ⟨g, k2, none⟩ (.int .u8 (bits .xor .u8 (x : Int) 32)) = W4 := ⟨_, rfl⟩
      have hb4 : Below w.heap.size w W4 := by
        rw [← hW4]
        exact ((HB2.out).trans (HB3.out.mono HB2.out.size)).setCell (by rw [← HG.out]; exact HB2.out.size) _
      rw [hW4] at hset
      have hol : (od q m k2).length = T.size := by unfold od; rw [List.length_set, HTn.out]
      have hcvA := fun W (hb : Below W4.heap.size W4 W) => (hset.next hb).conv T.size hol.symm cp
      obtain ⟨D, hD⟩ : ∃ D, bA (od q m k2) = D := ⟨_, rfl⟩
      rw [hD] at hcvA
      have hcv0 := hcvA W4 (Below.refl _ _)
      have k3 := fun W => bool_any 11 D W
      have hfo := f_odd q hq6 m hm3 k2 (by omega) hkl
      rw [← hD, bA_toList, decide_eq_true rfl, hD] at k3
      obtain ⟨p1, p2⟩ : ∃ p, M.bo true (od q m k2) = p := ⟨_, rfl⟩
      rw [p2] at k3 hfo
      obtain ⟨Y, N⟩ := p1
      dsimp only [bV] at k3 hfo
      have hcvd := hcvA W4.drew (Below.refl _ _).drew
      have e0 : (D.toList == (TT 0).toList) = decide (od q m k2 = tu 0 (sw q)) := by rw [← hD, ← HTT.out]; exact eq_dec _ _
      have e1 : (D.toList == (TT 1).toList) = decide (od q m k2 = tu 1 (sw q)) := by rw [← hD, ← HTT.out]; exact eq_dec _ _
      have e2 : (D.toList == (TT 2).toList) = decide (od q m k2 = tu 2 (sw q)) := by rw [← hD, ← HTT.out]; exact eq_dec _ _
      have g0 : decide (od q m k2 = tu 0 (sw q)) = true → TT 0 = D := fun h => by rw [← hD, ← HTT.out, of_decide_eq_true h]; rfl
      have g1 : decide (od q m k2 = tu 1 (sw q)) = true → TT 1 = D := fun h => by rw [← hD, ← HTT.out, of_decide_eq_true h]; rfl
      have G0 := Lib.hid g0
      have G1 := Lib.hid g1
      clear g0 g1
      generalize decide (od q m k2 = tu 0 (sw q)) = b0 at *
      generalize decide (od q m k2 = tu 1 (sw q)) = b1 at *
      generalize decide (od q m k2 = tu 2 (sw q)) = b2 at *
      have HFO := Lib.hid hfo
      have HSET := Lib.hid hset
      have hkd : decide (k2 < T.size) = true := decide_eq_true hk2
      clear hset hod hol hfo hD p2 hkl
      go_wp2_with fail
      refine (k3 _).mono ?_
      rintro r w' ⟨rfl, rfl⟩
      clear k3 hcell hfro hkd
      go_upto_region 14 with fail
      go_cut [18] (fun v wx => v = .bool N ∧ Below W4.heap.size W4 wx)
      case first =>
        clear cv
        cases b0
        · cases b1
          · go_region_held3 (fun w' => Below W4.heap.size W4 w')
              (first | exact hS | exact Below.refl _ _ | exact (Below.refl _ _).drew)
              (first
                | (go_at_call 15; refine (liftB (W0 := W4) (tA _ _ (by decide) (by decide)) ?_).mono ?_; (exact ‹Below W4.heap.size W4 _›); rintro r w5 ⟨rfl, hS⟩))
            all_goals
              go_wp2
              go_meet
              exact ⟨by rw [HFO.out]; rfl, hS⟩
          · have hd1 := G1.out rfl
            clear e1 e2
            refine wp_region_held_drew (S := fun w' => Below W4.heap.size W4 w') (by kernel_rfl) (Below.refl _ _).drew (fun hHeld => ?_)
            refine takeH (some 84) rfl (i := 0) (v := .slice (some ⟨g, 0, none⟩) T.size cp) rfl (by kernel_rfl) (by kernel_rfl) (by kernel_rfl) (fun _ _ _ h => h) (Or.inl ⟨by kernel_rfl, ?_⟩) (by assumption) ?_
            · intro w hSw
              go_simp
            simp only [Act.put, List.setIfInBounds_toArray, List.set_cons_zero, List.set_cons_succ]
            refine takeH (some 85) rfl (i := 1) (v := .string D) rfl (by kernel_rfl) (by kernel_rfl) (by kernel_rfl) (fun _ _ _ h => h) (Or.inl ⟨by kernel_rfl, ?_⟩) (by assumption) ?_
            · intro w hSw
              go_simp
            simp only [Act.put, List.setIfInBounds_toArray, List.set_cons_zero, List.set_cons_succ]
            refine takeH (some 86) rfl (i := 2) (v := .string S) rfl (by kernel_rfl) (by kernel_rfl) (by kernel_rfl) (fun _ _ _ h => h) (Or.inl ⟨by kernel_rfl, ?_⟩) (by assumption) ?_
            · intro w hSw
              go_simp
            simp only [Act.put, List.setIfInBounds_toArray, List.set_cons_zero, List.set_cons_succ]
            refine wpAnyH_ready (rs := [3]) (by kernel_rfl) (by simp) ?_
            refine AllReadyH.cons rfl (fun K hK => ?_) AllReadyH.nil
            go_simp
            refine (liftB (W0 := W4) (tA _ _ (by decide) (by decide)) ?_).mono ?_
            · assumption
            rintro r w5 ⟨rfl, hS⟩
            go_wp2_with fail
            refine hK.out _ _ ?_ (fun hHeld => ?_)
            · exact hS
            clear hK K
            refine takeH (some 88) rfl (i := 4) (v := .bool false) rfl (by kernel_rfl) (by kernel_rfl) (by kernel_rfl) (fun _ _ _ h => h) (Or.inl ⟨by kernel_rfl, ?_⟩) (by assumption) ?_
            · intro w hSw
              go_simp
            simp only [Act.put, List.setIfInBounds_toArray, List.set_cons_zero, List.set_cons_succ]
            refine takeH (some 89) rfl (i := 5) (v := .bool false) rfl (by kernel_rfl) (by kernel_rfl) (by kernel_rfl) (fun _ _ _ h => h) (Or.inl ⟨by kernel_rfl, ?_⟩) (by assumption) ?_
            · intro w hSw
              go_simp
            simp only [Act.put, List.setIfInBounds_toArray, List.set_cons_zero, List.set_cons_succ]
            refine takeH (some 90) rfl (i := 6) (v := .slice (some ⟨g, 0, none⟩) T.size cp) rfl (by kernel_rfl) (by kernel_rfl) (by kernel_rfl) (fun _ _ _ h => h) (Or.inl ⟨by kernel_rfl, ?_⟩) (by assumption) ?_
            · intro w hSw
              go_simp
            simp only [Act.put, List.setIfInBounds_toArray, List.set_cons_zero, List.set_cons_succ]
            refine takeH (some 91) rfl (i := 7) (v := .string D) rfl (by kernel_rfl) (by kernel_rfl) (by kernel_rfl) (fun _ _ _ h => h) (Or.inl ⟨by kernel_rfl, ?_⟩) (by assumption) ?_
            · intro w hSw
              go_simp
            simp only [Act.put, List.setIfInBounds_toArray, List.set_cons_zero, List.set_cons_succ]
            refine takeH (some 92) rfl (i := 8) (v := .string S) rfl (by kernel_rfl) (by kernel_rfl) (by kernel_rfl) (fun _ _ _ h => h) (Or.inl ⟨by kernel_rfl, ?_⟩) (by assumption) ?_
            · intro w hSw
              go_simp
            simp only [Act.put, List.setIfInBounds_toArray, List.set_cons_zero, List.set_cons_succ]
            refine wpAnyH_ready (rs := [9]) (by kernel_rfl) (by simp) ?_
            refine AllReadyH.cons rfl (fun K hK => ?_) AllReadyH.nil
            go_simp
            refine (liftB (W0 := W4) (tA _ _ (by decide) (by decide)) ?_).mono ?_
            · assumption
            rintro r w5 ⟨rfl, hS⟩
            go_wp2_with fail
            refine hK.out _ _ ?_ (fun hHeld => ?_)
            · exact hS
            clear hK K
            refine takeH (some 94) rfl (i := 10) (v := .bool true) rfl (by kernel_rfl) (by kernel_rfl) (by kernel_rfl) (fun _ _ _ h => h) (Or.inl ⟨by kernel_rfl, ?_⟩) (by assumption) ?_
            · intro w hSw
              go_simp
            simp only [Act.put, List.setIfInBounds_toArray, List.set_cons_zero, List.set_cons_succ]
            refine takeH (some 95) rfl (i := 11) (v := .bool true) rfl (by kernel_rfl) (by kernel_rfl) (by kernel_rfl) (fun _ _ _ h => h) (Or.inl ⟨by kernel_rfl, ?_⟩) (by assumption) ?_
            · intro w hSw
              go_simp
            simp only [Act.put, List.setIfInBounds_toArray, List.set_cons_zero, List.set_cons_succ]
            refine takeH (some 96) rfl (i := 12) (v := .bool true) rfl (by kernel_rfl) (by kernel_rfl) (by kernel_rfl) (fun _ _ _ h => h) (Or.inl ⟨by kernel_rfl, ?_⟩) (by assumption) ?_
            · intro w hSw
              go_simp
            simp only [Act.put, List.setIfInBounds_toArray, List.set_cons_zero, List.set_cons_succ]
            refine takeH (some 97) rfl (i := 13) (v := undef) rfl (by kernel_rfl) (by kernel_rfl) (by kernel_rfl) (fun _ _ _ h => h) (Or.inr ⟨by kernel_rfl, rfl⟩) (by assumption) ?_
            simp only [Act.put, List.setIfInBounds_toArray, List.set_cons_zero, List.set_cons_succ]
            refine takeH (some 98) rfl (i := 14) (v := undef) rfl (by kernel_rfl) (by kernel_rfl) (by kernel_rfl) (fun _ _ _ h => h) (Or.inr ⟨by kernel_rfl, rfl⟩) (by assumption) ?_
            simp only [Act.put, List.setIfInBounds_toArray, List.set_cons_zero, List.set_cons_succ]
            refine takeH (some 99) rfl (i := 15) (v := undef) rfl (by kernel_rfl) (by kernel_rfl) (by kernel_rfl) (fun _ _ _ h => h) (Or.inr ⟨by kernel_rfl, rfl⟩) (by assumption) ?_
            simp only [Act.put, List.setIfInBounds_toArray, List.set_cons_zero, List.set_cons_succ]
            refine takeH (some 100) rfl (i := 16) (v := undef) rfl (by kernel_rfl) (by kernel_rfl) (by kernel_rfl) (fun _ _ _ h => h) (Or.inr ⟨by kernel_rfl, rfl⟩) (by assumption) ?_
            simp only [Act.put, List.setIfInBounds_toArray, List.set_cons_zero, List.set_cons_succ]
            refine takeH (some 101) rfl (i := 17) (v := undef) rfl (by kernel_rfl) (by kernel_rfl) (by kernel_rfl) (fun _ _ _ h => h) (Or.inr ⟨by kernel_rfl, rfl⟩) (by assumption) ?_
            simp only [Act.put, List.setIfInBounds_toArray, List.set_cons_zero, List.set_cons_succ]
            refine takeH (some 102) rfl (i := 18) (v := .bool true) rfl (by kernel_rfl) (by kernel_rfl) (by kernel_rfl) (fun _ _ _ h => h) (Or.inl ⟨by kernel_rfl, ?_⟩) (by assumption) ?_
            · intro w hSw
              go_simp
            simp only [Act.put, List.setIfInBounds_toArray, List.set_cons_zero, List.set_cons_succ]
            refine takeH (some 18) rfl (i := 19) (v := .bool true) rfl (by kernel_rfl) (by kernel_rfl) (by kernel_rfl) (fun _ _ _ h => h) (Or.inl ⟨by kernel_rfl, ?_⟩) (by assumption) ?_
            · intro w hSw
              go_simp
            simp only [Act.put, List.setIfInBounds_toArray, List.set_cons_zero, List.set_cons_succ]
            refine wpAnyH_done (by kernel_rfl) ?_ _
            go_wp2
            go_meet
            exact ⟨by rw [HFO.out]; rfl, by assumption⟩
        · have hd0 := G0.out rfl
          clear e0 e1 e2
          refine wp_region_held_drew (S := fun w' => Below W4.heap.size W4 w') (by kernel_rfl) (Below.refl _ _).drew (fun hHeld => ?_)
          refine takeH (some 84) rfl (i := 0) (v := .slice (some ⟨g, 0, none⟩) T.size cp) rfl (by kernel_rfl) (by kernel_rfl) (by kernel_rfl) (fun _ _ _ h => h) (Or.inl ⟨by kernel_rfl, ?_⟩) (by assumption) ?_
          · intro w hSw
            go_simp
          simp only [Act.put, List.setIfInBounds_toArray, List.set_cons_zero, List.set_cons_succ]
          refine takeH (some 85) rfl (i := 1) (v := .string D) rfl (by kernel_rfl) (by kernel_rfl) (by kernel_rfl) (fun _ _ _ h => h) (Or.inl ⟨by kernel_rfl, ?_⟩) (by assumption) ?_
          · intro w hSw
            go_simp
          simp only [Act.put, List.setIfInBounds_toArray, List.set_cons_zero, List.set_cons_succ]
          refine takeH (some 86) rfl (i := 2) (v := .string S) rfl (by kernel_rfl) (by kernel_rfl) (by kernel_rfl) (fun _ _ _ h => h) (Or.inl ⟨by kernel_rfl, ?_⟩) (by assumption) ?_
          · intro w hSw
            go_simp
          simp only [Act.put, List.setIfInBounds_toArray, List.set_cons_zero, List.set_cons_succ]
          refine wpAnyH_ready (rs := [3]) (by kernel_rfl) (by simp) ?_
          refine AllReadyH.cons rfl (fun K hK => ?_) AllReadyH.nil
          go_simp
          refine (liftB (W0 := W4) (tA _ _ (by decide) (by decide)) ?_).mono ?_
          · assumption
          rintro r w5 ⟨rfl, hS⟩
          go_wp2_with fail
          refine hK.out _ _ ?_ (fun hHeld => ?_)
          · exact hS
          clear hK K
          refine takeH (some 88) rfl (i := 4) (v := .bool true) rfl (by kernel_rfl) (by kernel_rfl) (by kernel_rfl) (fun _ _ _ h => h) (Or.inl ⟨by kernel_rfl, ?_⟩) (by assumption) ?_
          · intro w hSw
            go_simp
          simp only [Act.put, List.setIfInBounds_toArray, List.set_cons_zero, List.set_cons_succ]
          refine takeH (some 89) rfl (i := 5) (v := .bool true) rfl (by kernel_rfl) (by kernel_rfl) (by kernel_rfl) (fun _ _ _ h => h) (Or.inl ⟨by kernel_rfl, ?_⟩) (by assumption) ?_
          · intro w hSw
            go_simp
          simp only [Act.put, List.setIfInBounds_toArray, List.set_cons_zero, List.set_cons_succ]
          refine takeH (some 90) rfl (i := 6) (v := undef) rfl (by kernel_rfl) (by kernel_rfl) (by kernel_rfl) (fun _ _ _ h => h) (Or.inr ⟨by kernel_rfl, rfl⟩) (by assumption) ?_
          simp only [Act.put, List.setIfInBounds_toArray, List.set_cons_zero, List.set_cons_succ]
          refine takeH (some 91) rfl (i := 7) (v := undef) rfl (by kernel_rfl) (by kernel_rfl) (by kernel_rfl) (fun _ _ _ h => h) (Or.inr ⟨by kernel_rfl, rfl⟩) (by assumption) ?_
          simp only [Act.put, List.setIfInBounds_toArray, List.set_cons_zero, List.set_cons_succ]
          refine takeH (some 92) rfl (i := 8) (v := undef) rfl (by kernel_rfl) (by kernel_rfl) (by kernel_rfl) (fun _ _ _ h => h) (Or.inr ⟨by kernel_rfl, rfl⟩) (by assumption) ?_
          simp only [Act.put, List.setIfInBounds_toArray, List.set_cons_zero, List.set_cons_succ]
          refine takeH (some 93) rfl (i := 9) (v := undef) rfl (by kernel_rfl) (by kernel_rfl) (by kernel_rfl) (fun _ _ _ h => h) (Or.inr ⟨by kernel_rfl, rfl⟩) (by assumption) ?_
          simp only [Act.put, List.setIfInBounds_toArray, List.set_cons_zero, List.set_cons_succ]
          refine takeH (some 94) rfl (i := 10) (v := undef) rfl (by kernel_rfl) (by kernel_rfl) (by kernel_rfl) (fun _ _ _ h => h) (Or.inr ⟨by kernel_rfl, rfl⟩) (by assumption) ?_
          simp only [Act.put, List.setIfInBounds_toArray, List.set_cons_zero, List.set_cons_succ]
          refine takeH (some 95) rfl (i := 11) (v := .bool true) rfl (by kernel_rfl) (by kernel_rfl) (by kernel_rfl) (fun _ _ _ h => h) (Or.inl ⟨by kernel_rfl, ?_⟩) (by assumption) ?_
          · intro w hSw
            go_simp
          simp only [Act.put, List.setIfInBounds_toArray, List.set_cons_zero, List.set_cons_succ]
          refine takeH (some 96) rfl (i := 12) (v := .bool true) rfl (by kernel_rfl) (by kernel_rfl) (by kernel_rfl) (fun _ _ _ h => h) (Or.inl ⟨by kernel_rfl, ?_⟩) (by assumption) ?_
          · intro w hSw
            go_simp
          simp only [Act.put, List.setIfInBounds_toArray, List.set_cons_zero, List.set_cons_succ]
          refine takeH (some 97) rfl (i := 13) (v := undef) rfl (by kernel_rfl) (by kernel_rfl) (by kernel_rfl) (fun _ _ _ h => h) (Or.inr ⟨by kernel_rfl, rfl⟩) (by assumption) ?_
          simp only [Act.put, List.setIfInBounds_toArray, List.set_cons_zero, List.set_cons_succ]
          refine takeH (some 98) rfl (i := 14) (v := undef) rfl (by kernel_rfl) (by kernel_rfl) (by kernel_rfl) (fun _ _ _ h => h) (Or.inr ⟨by kernel_rfl, rfl⟩) (by assumption) ?_
          simp only [Act.put, List.setIfInBounds_toArray, List.set_cons_zero, List.set_cons_succ]
          refine takeH (some 99) rfl (i := 15) (v := undef) rfl (by kernel_rfl) (by kernel_rfl) (by kernel_rfl) (fun _ _ _ h => h) (Or.inr ⟨by kernel_rfl, rfl⟩) (by assumption) ?_
          simp only [Act.put, List.setIfInBounds_toArray, List.set_cons_zero, List.set_cons_succ]
          refine takeH (some 100) rfl (i := 16) (v := undef) rfl (by kernel_rfl) (by kernel_rfl) (by kernel_rfl) (fun _ _ _ h => h) (Or.inr ⟨by kernel_rfl, rfl⟩) (by assumption) ?_
          simp only [Act.put, List.setIfInBounds_toArray, List.set_cons_zero, List.set_cons_succ]
          refine takeH (some 101) rfl (i := 17) (v := undef) rfl (by kernel_rfl) (by kernel_rfl) (by kernel_rfl) (fun _ _ _ h => h) (Or.inr ⟨by kernel_rfl, rfl⟩) (by assumption) ?_
          simp only [Act.put, List.setIfInBounds_toArray, List.set_cons_zero, List.set_cons_succ]
          refine takeH (some 102) rfl (i := 18) (v := .bool true) rfl (by kernel_rfl) (by kernel_rfl) (by kernel_rfl) (fun _ _ _ h => h) (Or.inl ⟨by kernel_rfl, ?_⟩) (by assumption) ?_
          · intro w hSw
            go_simp
          simp only [Act.put, List.setIfInBounds_toArray, List.set_cons_zero, List.set_cons_succ]
          refine takeH (some 18) rfl (i := 19) (v := .bool true) rfl (by kernel_rfl) (by kernel_rfl) (by kernel_rfl) (fun _ _ _ h => h) (Or.inl ⟨by kernel_rfl, ?_⟩) (by assumption) ?_
          · intro w hSw
            go_simp
          simp only [Act.put, List.setIfInBounds_toArray, List.set_cons_zero, List.set_cons_succ]
          refine wpAnyH_done (by kernel_rfl) ?_ _
          go_wp2
          go_meet
          exact ⟨by rw [HFO.out]; rfl, by assumption⟩
      case rest =>
        obtain ⟨rfl, hbc⟩ := hcut
        have B5 : Below w.heap.size w wc := below_on hb4 hbc
        clear hcvA hcv0 hcvd e0 e1 e2 HFO HSET tA cv
        cases I
        · go_wp2_with fail
          refine (tN _).mono ?_
          rintro r w6 ⟨rfl, hb6⟩
          have B6 := below_on B5 hb6
          go_wp2_with fail
          refine (nN _).mono ?_
          rintro r w' ⟨rfl, rfl⟩
          go_wp2_with fail
          refine (pT _).mono ?_
          rintro r w' ⟨rfl, rfl⟩
          go_wp2
          go_ret
          exact ⟨rfl, B6⟩
        · have hz := HAZ.out rfl
          subst hz
          go_wp2_with fail
          refine (tN _).mono ?_
          rintro r w6 ⟨rfl, hb6⟩
          have B6 := below_on B5 hb6
          go_wp2_with fail
          refine (nN _).mono ?_
          rintro r w' ⟨rfl, rfl⟩
          go_wp2_with fail
          refine (pT _).mono ?_
          rintro r w' ⟨rfl, rfl⟩
          go_wp2
          go_ret
          exact ⟨rfl, B6⟩
end Go.Proofs.Ytlkbgnlmmlchfaa
