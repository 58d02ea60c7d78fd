/- The law StampParts: its walk, a part of six. -/
import Derived.Test.YtoidlgopibnaaaaDoorLg
set_option linter.unusedVariables false
namespace Go.Proofs.YtoidlgopibnaaaaDoor
open Go.RowKit

set_option maxRecDepth 1000000 in
set_option maxHeartbeats 1000000 in
theorem parts_core0 (f : ByteArray) (a b : Nat) (w : World) (ht : Tab w) (hs : f.size ≤ 30) (ha : a ≤ 255) (hb : b ≤ 255) (hk : a % 6 = 0) : Calls Tryd.prog 7 #[.string f, .int .u8 a, .int .u8 b] w fun e w' => e = .returned (.bool true) ∧ Below w.heap.size w w' := by
  have hs2 : decide (30 < f.size) = false := decide_eq_false (by omega)
  have hs3 : decide ((30 : Int) < (f.size : Int)) = false := decide_eq_false (by omega)
  obtain ⟨DL, hDL⟩ : ∃ x, M.digs f.data.toList = x := ⟨_, rfl⟩
  have hDLl : DL.length = f.size := by rw [← hDL, M.digs_len, ← sz_list]
  have hall : ∀ c ∈ DL, M.dB c = true := by rw [← hDL]; exact M.digs_all _
  have cO : Ofs (⟨#[50, 48, 48, 49, 45, 49, 50, 45, 49, 52, 32, 50, 49, 58, 53, 57, 58, 52, 51, 46]⟩ ++ bA DL) (bA (M.ttx 2001 12 14 1319 43 DL)) := Off2 _ _ _ (by simp [bA_toList]; rfl) (M.of_digs DL hall) (by simp only [List.length_append, List.length_cons, List.length_nil, M.DT_len, M.AT_len]; omega)
  have cX : ∀ W, Tab W → Calls Tryd.prog 12 #[.string (⟨#[50, 48, 48, 49, 45, 49, 50, 45, 49, 52, 32, 50, 49, 58, 53, 57, 58, 52, 51, 46]⟩ ++ bA DL ++ ⟨#[120]⟩)] W fun e w' => e = .returned (.bool false) ∧ Below W.heap.size W w' := isB _ _ (by simp [bA_toList]; rfl) (M.of_x DL hall) (by simp only [List.length_append, List.length_cons, List.length_nil, M.DT_len, M.AT_len]; omega)
  have cS : ∀ W, Tab W → Calls Tryd.prog 12 #[.string ⟨#[50, 48, 48, 49, 45, 49, 50, 45, 49, 52, 32, 50, 49, 58, 53, 57]⟩] W fun e w' => e = .returned (.bool false) ∧ Below W.heap.size W w' := isB _ [50, 48, 48, 49, 45, 49, 50, 45, 49, 52, 32, 50, 49, 58, 53, 57] rfl (by decide +kernel) (by decide)
  obtain ⟨AX, hAX⟩ : ∃ x, bA (M.ttx 2001 12 14 1319 43 DL) = x := ⟨_, rfl⟩
  rw [hAX] at cO
  have hA : M.tz DL = [] → (⟨#[50, 48, 48, 49, 45, 49, 50, 45, 49, 52, 84, 50, 49, 58, 53, 57, 58, 52, 51]⟩ : ByteArray) ++ ⟨#[90]⟩ = AX := fun h => by rw [← hAX, M.ttx_digs, h]; rfl
  have hB : ∀ t : ByteArray, M.tz DL = t.data.toList → t.data.toList ≠ [] → ⟨#[50, 48, 48, 49, 45, 49, 50, 45, 49, 52, 84, 50, 49, 58, 53, 57, 58, 52, 51]⟩ ++ ⟨#[46]⟩ ++ t ++ ⟨#[90]⟩ = AX := fun t h hn => by
    rw [← hAX, M.ttx_digs, h]
    apply eq_bA
    unfold M.dot
    rw [if_neg hn]
    simp
    rfl
  have HDL := Lib.hid hDL
  have HA := Lib.hid hA
  have HB := Lib.hid hB
  have HO := Lib.hid cO
  have HX := Lib.hid cX
  have a1 : Int.tmod (a : Int) 6 = (0 : Int) := (md (n := 6) (k := 0) hk (by omega)).1
  have a2 : (a : Int) % 6 = (0 : Int) := (md (n := 6) (k := 0) hk (by omega)).2
  have hAXz : AX.size ≤ 60 := by rw [← hAX, bA_size]; have := ttx_len 2001 12 14 1319 43 DL; omega
  clear hDL hA hB cO cX hAX hall hk
  go_enter Tryd.func7, Tryd.ntmps7
  go_wp2_with fail
  refine (known_any _ ht).mono ?_
  rintro r w1 ⟨rfl, hb⟩
  have B1 : Below w.heap.size w w1 := hb
  have T1 : Tab w1 := ht.next B1
  clear hb
  go_wp2_with fail
  go_loopw [7, 8] (fun dv iv wr => ∃ (i : Nat) (H : ByteArray), dv = .string H ∧ iv = .int .i64 i ∧ i ≤ f.size ∧ H.size = i ∧ Hid (H = bA (M.digs (f.data.toList.take i))) ∧ Below w1.heap.size w1 wr) (fun _ iv _ => f.size - (intOf iv).toNat)
  case atStart => exact ⟨0, ⟨#[]⟩, rfl, rfl, Nat.zero_le _, rfl, rfl, Below.refl _ _⟩
  case round =>
    obtain ⟨i, H, rfl, rfl, hi, hH, hd, hbw⟩ := hrel
    by_cases hlt : i < f.size
    · have l1 : decide (i < f.size) = true := decide_eq_true hlt
      have l2 : decide ((i : Int) < (f.size : Int)) = true := decide_eq_true (by omega)
      have hx := f[i].toNat_lt
      have hnx : bA (M.digs (f.data.toList.take i)) ++ bA [M.dch (f[i].toNat % 10)] = bA (M.digs (f.data.toList.take (i + 1))) := by rw [take_snoc f i hlt, M.digs_snoc]; exact bA_append _ _
      rw [← hd.out] at hnx
      obtain ⟨e, he⟩ : ∃ e, f[i].toNat % 10 = e := ⟨_, rfl⟩
      have e1 : Int.tmod (f[i].toNat : Int) 10 = (e : Int) := (md he (by omega)).1
      have e2 : (f[i].toNat : Int) % 10 = (e : Int) := (md he (by omega)).2
      have cT := fun W => rdig_any e W (by omega)
      rw [he] at hnx
      have zX : (bA [M.dch e]).size = 1 := bA_size _
      generalize bA [M.dch e] = X at *
      have HN := Lib.hid hnx
      have aH : ∀ W, (Op.stringOp .add H X).run Tryd.prog W = .ok (.string (H ++ X)) W := fun W => run_string_add_sum _ _ _ (by omega)
      have HZ : Hid ((H ++ X).size = i + 1) := by show _ = _; rw [append_sz]; omega
      clear hnx hd he zX
      go_wp2_with fail
      with_reducible refine (cT _).mono ?_
      rintro r w2 ⟨rfl, hb⟩
      have hb2 : Below w1.heap.size w1 w2 := hbw.trans (hb.mono hbw.size)
      clear hb hbw cT
      go_wp2_with fail
      go_roundw
      case rel => exact ⟨i + 1, H ++ X, rfl, by go_num, by omega, HZ.out, HN.out, hb2⟩
      case measure => simp [intOf]; omega
    · obtain rfl : i = f.size := by omega
      have l1 : decide (f.size < f.size) = false := decide_eq_false (by omega)
      have l2 : decide ((f.size : Int) < (f.size : Int)) = false := decide_eq_false (by omega)
      have hD : H = bA DL := by rw [hd.out, take_all, HDL.out]
      have B2 : Below w.heap.size w wr := B1.trans (hbw.mono B1.size)
      have T2 : Tab wr := ht.next B2
      have cO := HO.out
      have cX := HX.out
      rw [← hD] at cO cX
      have HD : Hid (H.data.toList = DL) := by show _ = _; rw [hD, bA_toList]
      have hHs : H.size ≤ 30 := by omega
      clear hd hD HDL HO HX B1 T1 hbw hH hlt hi
      go_wp2_with fail
      go_loop [9] (fun v => ∃ t : ByteArray, v = .string t ∧ t.size ≤ 30 ∧ Hid (M.tz t.data.toList = M.tz DL)) (fun v => match v with | .string t => t.size | _ => 0)
      case atStart => exact ⟨H, rfl, hHs, by show _ = _; rw [HD.out]⟩
      case round =>
        obtain ⟨t, rfl, htz, hst⟩ := hrel
        by_cases h0 : 0 < t.size
        · have hlast := last_list t h0
          have h1 := hst.out
          rw [hlast, tz_snoc] at h1
          by_cases hc : t[t.size - 1]'(by omega) = 48
          · rw [if_pos hc] at h1
            have hb : (((t[t.size - 1]'(by omega)).toNat : Int) == 48) = true := by rw [hc]; rfl
            have H1 := Lib.hid h1
            clear hlast h1 hst hc
            go_wp2_with fail
            go_round
            case rel => exact ⟨_, rfl, by simp; omega, by show _ = _; rw [extract_take]; exact H1.out⟩
            case measure => simp; omega
          · rw [if_neg hc, ← hlast] at h1
            have hb : (((t[t.size - 1]'(by omega)).toNat : Int) == 48) = false := neC (k := 48) (by omega) hc
            have hz0 : M.tz DL = t.data.toList := h1.symm
            have ht0 : t.data.toList ≠ [] := by intro h; rw [sz_list, h] at h0; exact absurd h0 (by simp)
            clear hlast h1 hst hc
            have hw := HB.out t hz0 ht0
            have zt : t.toList.isEmpty = false := by rw [ByteArray.toList_eq]; simpa using ht0
            have zt2 : (t.toList == []) = false := by rw [ByteArray.toList_eq]; simpa using ht0
            clear hz0 ht0 HA HB HD
            have a1 : ∀ W, (Op.stringOp .add (⟨#[50, 48, 48, 49, 45, 49, 50, 45, 49, 52, 32, 50, 49, 58, 53, 57, 58, 52, 51, 46]⟩) (H)).run Tryd.prog W = .ok (.string ((⟨#[50, 48, 48, 49, 45, 49, 50, 45, 49, 52, 32, 50, 49, 58, 53, 57, 58, 52, 51, 46]⟩) ++ H)) W := fun W => run_string_add_sum _ _ _ (by have z0 : (⟨#[50, 48, 48, 49, 45, 49, 50, 45, 49, 52, 32, 50, 49, 58, 53, 57, 58, 52, 51, 46]⟩ : ByteArray).size = 20 := rfl; have z2 : (⟨#[120]⟩ : ByteArray).size = 1 := rfl; first | omega | (simp only [append_sz]; omega))
            have a2 : ∀ W, (Op.stringOp .add (⟨#[50, 48, 48, 49, 45, 49, 50, 45, 49, 52, 32, 50, 49, 58, 53, 57, 58, 52, 51, 46]⟩ ++ H) (⟨#[120]⟩)).run Tryd.prog W = .ok (.string ((⟨#[50, 48, 48, 49, 45, 49, 50, 45, 49, 52, 32, 50, 49, 58, 53, 57, 58, 52, 51, 46]⟩ ++ H) ++ ⟨#[120]⟩)) W := fun W => run_string_add_sum _ _ _ (by have z0 : (⟨#[50, 48, 48, 49, 45, 49, 50, 45, 49, 52, 32, 50, 49, 58, 53, 57, 58, 52, 51, 46]⟩ : ByteArray).size = 20 := rfl; have z2 : (⟨#[120]⟩ : ByteArray).size = 1 := rfl; first | omega | (simp only [append_sz]; omega))
            have a3 : ∀ W, (Op.stringOp .add (⟨#[50, 48, 48, 49, 45, 49, 50, 45, 49, 52, 84, 50, 49, 58, 53, 57, 58, 52, 51]⟩) (⟨#[46]⟩)).run Tryd.prog W = .ok (.string ((⟨#[50, 48, 48, 49, 45, 49, 50, 45, 49, 52, 84, 50, 49, 58, 53, 57, 58, 52, 51]⟩) ++ ⟨#[46]⟩)) W := fun W => run_string_add_sum _ _ _ (by have z0 : (⟨#[50, 48, 48, 49, 45, 49, 50, 45, 49, 52, 84, 50, 49, 58, 53, 57, 58, 52, 51]⟩ : ByteArray).size = 19 := rfl; have z1 : (⟨#[46]⟩ : ByteArray).size = 1 := rfl; have z3 : (⟨#[90]⟩ : ByteArray).size = 1 := rfl; first | omega | (simp only [append_sz]; omega))
            have a4 : ∀ W, (Op.stringOp .add (⟨#[50, 48, 48, 49, 45, 49, 50, 45, 49, 52, 84, 50, 49, 58, 53, 57, 58, 52, 51]⟩ ++ ⟨#[46]⟩) (t)).run Tryd.prog W = .ok (.string ((⟨#[50, 48, 48, 49, 45, 49, 50, 45, 49, 52, 84, 50, 49, 58, 53, 57, 58, 52, 51]⟩ ++ ⟨#[46]⟩) ++ t)) W := fun W => run_string_add_sum _ _ _ (by have z0 : (⟨#[50, 48, 48, 49, 45, 49, 50, 45, 49, 52, 84, 50, 49, 58, 53, 57, 58, 52, 51]⟩ : ByteArray).size = 19 := rfl; have z1 : (⟨#[46]⟩ : ByteArray).size = 1 := rfl; have z3 : (⟨#[90]⟩ : ByteArray).size = 1 := rfl; first | omega | (simp only [append_sz]; omega))
            have a5 : ∀ W, (Op.stringOp .add (⟨#[50, 48, 48, 49, 45, 49, 50, 45, 49, 52, 84, 50, 49, 58, 53, 57, 58, 52, 51]⟩ ++ ⟨#[46]⟩ ++ t) (⟨#[90]⟩)).run Tryd.prog W = .ok (.string ((⟨#[50, 48, 48, 49, 45, 49, 50, 45, 49, 52, 84, 50, 49, 58, 53, 57, 58, 52, 51]⟩ ++ ⟨#[46]⟩ ++ t) ++ ⟨#[90]⟩)) W := fun W => run_string_add_sum _ _ _ (by have z0 : (⟨#[50, 48, 48, 49, 45, 49, 50, 45, 49, 52, 84, 50, 49, 58, 53, 57, 58, 52, 51]⟩ : ByteArray).size = 19 := rfl; have z1 : (⟨#[46]⟩ : ByteArray).size = 1 := rfl; have z3 : (⟨#[90]⟩ : ByteArray).size = 1 := rfl; first | omega | (simp only [append_sz]; omega))
            go_wp2_with fail
            with_reducible refine (cO _ T2).mono ?_
            rintro r w3 ⟨rfl, hb⟩
            have B3 : Below w.heap.size w w3 := B2.trans (hb.mono B2.size)
            have T3 : Tab w3 := ht.next B3
            clear hb B2 T2 cO
            obtain ⟨r0, hr0⟩ : ∃ x, b % 87 = x := ⟨_, rfl⟩
            have b1 : Int.tmod (b : Int) 87 = (r0 : Int) := (md hr0 (by omega)).1
            have b2 : (b : Int) % 87 = (r0 : Int) := (md hr0 (by omega)).2
            obtain ⟨v, hv⟩ : ∃ v, 13 + r0 = v := ⟨_, rfl⟩
            have b3 : (13 : Int) + (r0 : Int) = (v : Int) := by omega
            have hv9 : 13 ≤ v ∧ v < 100 := by omega
            have hr9 : r0 < 87 := by omega
            clear hr0 hv
            go_wp2_with fail
            obtain ⟨W4, hW4⟩ : ∃ W4, (w3.alloc (.cells #[.int .i64 12, .int .i64 14, .int .i64 21, .int .i64 59, .int .i64 43, .int .i64 0] 37)).alloc (.cells #[.int .i64 13, .int .i64 32, .int .i64 24, .int .i64 60, .int .i64 60, .int .i64 24] 37) = W4 := ⟨_, rfl⟩
            have p0 : W4.cell? ⟨w3.heap.size, 0, none⟩ = some (.int .i64 12) := by rw [← hW4]; simp
            have p1 : W4.cell? ⟨w3.heap.size, 1, none⟩ = some (.int .i64 14) := by rw [← hW4]; simp
            have p2 : W4.cell? ⟨w3.heap.size, 2, none⟩ = some (.int .i64 21) := by rw [← hW4]; simp
            have p3 : W4.cell? ⟨w3.heap.size, 3, none⟩ = some (.int .i64 59) := by rw [← hW4]; simp
            have p4 : W4.cell? ⟨w3.heap.size, 4, none⟩ = some (.int .i64 43) := by rw [← hW4]; simp
            have p5 : W4.cell? ⟨w3.heap.size, 5, none⟩ = some (.int .i64 0) := by rw [← hW4]; simp
            have mk : W4.cell? ⟨w3.heap.size + 1, 0, none⟩ = some (.int .i64 13) := by rw [← hW4]; simp
            have fk : W4.frozen? ⟨w3.heap.size, 0, none⟩ = false := by rw [← hW4]; simp
            have B4 : Below w.heap.size w W4 := by rw [← hW4]; exact (B3.alloc B3.size _).alloc (by have := B3.size; simp; omega) _
            have hgp : w3.heap.size < W4.heap.size := by rw [← hW4]; simp; omega
            have hgw : w.heap.size ≤ w3.heap.size := B3.size
            rw [hW4]
            clear hW4 T3
            generalize w3.heap.size = gp at *
            go_region
            obtain ⟨W5, hW5⟩ : ∃ W5, (W4.setCell ⟨gp, 0, none⟩ (.int .i64 (v : Nat))).drew = W5 := ⟨_, rfl⟩
            have q0 : W5.cell? ⟨gp, 0, none⟩ = some (.int .i64 (v : Nat)) := by rw [← hW5]; show (W4.setCell _ _).cell? _ = _; rw [World.cell?_setCell_same _ _ _ p0]
            have q1 : W5.cell? ⟨gp, 1, none⟩ = some (.int .i64 14) := by rw [← hW5]; show (W4.setCell _ _).cell? _ = _; rw [World.cell?_setCell_other _ _ _ _ (by intro e; cases e), p1]
            have q2 : W5.cell? ⟨gp, 2, none⟩ = some (.int .i64 21) := by rw [← hW5]; show (W4.setCell _ _).cell? _ = _; rw [World.cell?_setCell_other _ _ _ _ (by intro e; cases e), p2]
            have q3 : W5.cell? ⟨gp, 3, none⟩ = some (.int .i64 59) := by rw [← hW5]; show (W4.setCell _ _).cell? _ = _; rw [World.cell?_setCell_other _ _ _ _ (by intro e; cases e), p3]
            have q4 : W5.cell? ⟨gp, 4, none⟩ = some (.int .i64 43) := by rw [← hW5]; show (W4.setCell _ _).cell? _ = _; rw [World.cell?_setCell_other _ _ _ _ (by intro e; cases e), p4]
            have q5 : W5.cell? ⟨gp, 5, none⟩ = some (.int .i64 0) := by rw [← hW5]; show (W4.setCell _ _).cell? _ = _; rw [World.cell?_setCell_other _ _ _ _ (by intro e; cases e), p5]
            have B5 : Below w.heap.size w W5 := by rw [← hW5]; exact below_dN (B4.setCell hgw _) 1
            have hg5 : gp < W5.heap.size := by rw [← hW5]; simpa using hgp
            rw [hW5]
            have T5 : Tab W5 := ht.next B5
            clear hW5 p0 p1 p2 p3 p4 p5 mk fk B4 hgp hgw
            have c0 : ∀ W, Calls Tryd.prog 15 #[.int .i64 (v : Nat)] W fun e w' => e = .returned (.string (bA (M.d2 v))) ∧ Below W.heap.size W w' := fun W => two2_any v W (by omega)
            have z0 : (bA (M.d2 v)).size = 2 := d2_size _
            have c1 : ∀ W, Calls Tryd.prog 15 #[.int .i64 14] W fun e w' => e = .returned (.string (bA (M.d2 14))) ∧ Below W.heap.size W w' := fun W => two2_any 14 W (by omega)
            have z1 : (bA (M.d2 14)).size = 2 := d2_size _
            have c2 : ∀ W, Calls Tryd.prog 15 #[.int .i64 21] W fun e w' => e = .returned (.string (bA (M.d2 21))) ∧ Below W.heap.size W w' := fun W => two2_any 21 W (by omega)
            have z2 : (bA (M.d2 21)).size = 2 := d2_size _
            have c3 : ∀ W, Calls Tryd.prog 15 #[.int .i64 59] W fun e w' => e = .returned (.string (bA (M.d2 59))) ∧ Below W.heap.size W w' := fun W => two2_any 59 W (by omega)
            have z3 : (bA (M.d2 59)).size = 2 := d2_size _
            have c4 : ∀ W, Calls Tryd.prog 15 #[.int .i64 43] W fun e w' => e = .returned (.string (bA (M.d2 43))) ∧ Below W.heap.size W w' := fun W => two2_any 43 W (by omega)
            have z4 : (bA (M.d2 43)).size = 2 := d2_size _
            have c5 : ∀ W, Calls Tryd.prog 15 #[.int .i64 0] W fun e w' => e = .returned (.string (bA (M.d2 0))) ∧ Below W.heap.size W w' := fun W => two2_any 0 W (by omega)
            have z5 : (bA (M.d2 0)).size = 2 := d2_size _
            have cI := fun W (hT : Tab W) => is_parts v 14 21 59 43 0 (by omega) (by omega) (by omega) (by omega) (by omega) (by omega) (Or.inl hv9.1) W hT
            obtain ⟨S0, e0⟩ : ∃ x, bA (M.d2 v) = x := ⟨_, rfl⟩
            rw [e0] at c0 z0 cI
            obtain ⟨S1, e1⟩ : ∃ x, bA (M.d2 14) = x := ⟨_, rfl⟩
            rw [e1] at c1 z1 cI
            obtain ⟨S2, e2⟩ : ∃ x, bA (M.d2 21) = x := ⟨_, rfl⟩
            rw [e2] at c2 z2 cI
            obtain ⟨S3, e3⟩ : ∃ x, bA (M.d2 59) = x := ⟨_, rfl⟩
            rw [e3] at c3 z3 cI
            obtain ⟨S4, e4⟩ : ∃ x, bA (M.d2 43) = x := ⟨_, rfl⟩
            rw [e4] at c4 z4 cI
            obtain ⟨S5, e5⟩ : ∃ x, bA (M.d2 0) = x := ⟨_, rfl⟩
            rw [e5] at c5 z5 cI
            have a6 : ∀ W, (Op.stringOp .add (⟨#[50, 48, 48, 49, 45]⟩) (S0)).run Tryd.prog W = .ok (.string ((⟨#[50, 48, 48, 49, 45]⟩) ++ S0)) W := fun W => run_string_add_sum _ _ _ (by have z0 : (⟨#[50, 48, 48, 49, 45]⟩ : ByteArray).size = 5 := rfl; have z2 : (⟨#[45]⟩ : ByteArray).size = 1 := rfl; have z4 : (⟨#[32]⟩ : ByteArray).size = 1 := rfl; have z6 : (⟨#[58]⟩ : ByteArray).size = 1 := rfl; have z8 : (⟨#[58]⟩ : ByteArray).size = 1 := rfl; have z10 : (⟨#[32, 43]⟩ : ByteArray).size = 2 := rfl; first | omega | (simp only [append_sz]; omega))
            have a7 : ∀ W, (Op.stringOp .add (⟨#[50, 48, 48, 49, 45]⟩ ++ S0) (⟨#[45]⟩)).run Tryd.prog W = .ok (.string ((⟨#[50, 48, 48, 49, 45]⟩ ++ S0) ++ ⟨#[45]⟩)) W := fun W => run_string_add_sum _ _ _ (by have z0 : (⟨#[50, 48, 48, 49, 45]⟩ : ByteArray).size = 5 := rfl; have z2 : (⟨#[45]⟩ : ByteArray).size = 1 := rfl; have z4 : (⟨#[32]⟩ : ByteArray).size = 1 := rfl; have z6 : (⟨#[58]⟩ : ByteArray).size = 1 := rfl; have z8 : (⟨#[58]⟩ : ByteArray).size = 1 := rfl; have z10 : (⟨#[32, 43]⟩ : ByteArray).size = 2 := rfl; first | omega | (simp only [append_sz]; omega))
            have a8 : ∀ W, (Op.stringOp .add (⟨#[50, 48, 48, 49, 45]⟩ ++ S0 ++ ⟨#[45]⟩) (S1)).run Tryd.prog W = .ok (.string ((⟨#[50, 48, 48, 49, 45]⟩ ++ S0 ++ ⟨#[45]⟩) ++ S1)) W := fun W => run_string_add_sum _ _ _ (by have z0 : (⟨#[50, 48, 48, 49, 45]⟩ : ByteArray).size = 5 := rfl; have z2 : (⟨#[45]⟩ : ByteArray).size = 1 := rfl; have z4 : (⟨#[32]⟩ : ByteArray).size = 1 := rfl; have z6 : (⟨#[58]⟩ : ByteArray).size = 1 := rfl; have z8 : (⟨#[58]⟩ : ByteArray).size = 1 := rfl; have z10 : (⟨#[32, 43]⟩ : ByteArray).size = 2 := rfl; first | omega | (simp only [append_sz]; omega))
            have a9 : ∀ W, (Op.stringOp .add (⟨#[50, 48, 48, 49, 45]⟩ ++ S0 ++ ⟨#[45]⟩ ++ S1) (⟨#[32]⟩)).run Tryd.prog W = .ok (.string ((⟨#[50, 48, 48, 49, 45]⟩ ++ S0 ++ ⟨#[45]⟩ ++ S1) ++ ⟨#[32]⟩)) W := fun W => run_string_add_sum _ _ _ (by have z0 : (⟨#[50, 48, 48, 49, 45]⟩ : ByteArray).size = 5 := rfl; have z2 : (⟨#[45]⟩ : ByteArray).size = 1 := rfl; have z4 : (⟨#[32]⟩ : ByteArray).size = 1 := rfl; have z6 : (⟨#[58]⟩ : ByteArray).size = 1 := rfl; have z8 : (⟨#[58]⟩ : ByteArray).size = 1 := rfl; have z10 : (⟨#[32, 43]⟩ : ByteArray).size = 2 := rfl; first | omega | (simp only [append_sz]; omega))
            have a10 : ∀ W, (Op.stringOp .add (⟨#[50, 48, 48, 49, 45]⟩ ++ S0 ++ ⟨#[45]⟩ ++ S1 ++ ⟨#[32]⟩) (S2)).run Tryd.prog W = .ok (.string ((⟨#[50, 48, 48, 49, 45]⟩ ++ S0 ++ ⟨#[45]⟩ ++ S1 ++ ⟨#[32]⟩) ++ S2)) W := fun W => run_string_add_sum _ _ _ (by have z0 : (⟨#[50, 48, 48, 49, 45]⟩ : ByteArray).size = 5 := rfl; have z2 : (⟨#[45]⟩ : ByteArray).size = 1 := rfl; have z4 : (⟨#[32]⟩ : ByteArray).size = 1 := rfl; have z6 : (⟨#[58]⟩ : ByteArray).size = 1 := rfl; have z8 : (⟨#[58]⟩ : ByteArray).size = 1 := rfl; have z10 : (⟨#[32, 43]⟩ : ByteArray).size = 2 := rfl; first | omega | (simp only [append_sz]; omega))
            have a11 : ∀ W, (Op.stringOp .add (⟨#[50, 48, 48, 49, 45]⟩ ++ S0 ++ ⟨#[45]⟩ ++ S1 ++ ⟨#[32]⟩ ++ S2) (⟨#[58]⟩)).run Tryd.prog W = .ok (.string ((⟨#[50, 48, 48, 49, 45]⟩ ++ S0 ++ ⟨#[45]⟩ ++ S1 ++ ⟨#[32]⟩ ++ S2) ++ ⟨#[58]⟩)) W := fun W => run_string_add_sum _ _ _ (by have z0 : (⟨#[50, 48, 48, 49, 45]⟩ : ByteArray).size = 5 := rfl; have z2 : (⟨#[45]⟩ : ByteArray).size = 1 := rfl; have z4 : (⟨#[32]⟩ : ByteArray).size = 1 := rfl; have z6 : (⟨#[58]⟩ : ByteArray).size = 1 := rfl; have z8 : (⟨#[58]⟩ : ByteArray).size = 1 := rfl; have z10 : (⟨#[32, 43]⟩ : ByteArray).size = 2 := rfl; first | omega | (simp only [append_sz]; omega))
            have a12 : ∀ W, (Op.stringOp .add (⟨#[50, 48, 48, 49, 45]⟩ ++ S0 ++ ⟨#[45]⟩ ++ S1 ++ ⟨#[32]⟩ ++ S2 ++ ⟨#[58]⟩) (S3)).run Tryd.prog W = .ok (.string ((⟨#[50, 48, 48, 49, 45]⟩ ++ S0 ++ ⟨#[45]⟩ ++ S1 ++ ⟨#[32]⟩ ++ S2 ++ ⟨#[58]⟩) ++ S3)) W := fun W => run_string_add_sum _ _ _ (by have z0 : (⟨#[50, 48, 48, 49, 45]⟩ : ByteArray).size = 5 := rfl; have z2 : (⟨#[45]⟩ : ByteArray).size = 1 := rfl; have z4 : (⟨#[32]⟩ : ByteArray).size = 1 := rfl; have z6 : (⟨#[58]⟩ : ByteArray).size = 1 := rfl; have z8 : (⟨#[58]⟩ : ByteArray).size = 1 := rfl; have z10 : (⟨#[32, 43]⟩ : ByteArray).size = 2 := rfl; first | omega | (simp only [append_sz]; omega))
            have a13 : ∀ W, (Op.stringOp .add (⟨#[50, 48, 48, 49, 45]⟩ ++ S0 ++ ⟨#[45]⟩ ++ S1 ++ ⟨#[32]⟩ ++ S2 ++ ⟨#[58]⟩ ++ S3) (⟨#[58]⟩)).run Tryd.prog W = .ok (.string ((⟨#[50, 48, 48, 49, 45]⟩ ++ S0 ++ ⟨#[45]⟩ ++ S1 ++ ⟨#[32]⟩ ++ S2 ++ ⟨#[58]⟩ ++ S3) ++ ⟨#[58]⟩)) W := fun W => run_string_add_sum _ _ _ (by have z0 : (⟨#[50, 48, 48, 49, 45]⟩ : ByteArray).size = 5 := rfl; have z2 : (⟨#[45]⟩ : ByteArray).size = 1 := rfl; have z4 : (⟨#[32]⟩ : ByteArray).size = 1 := rfl; have z6 : (⟨#[58]⟩ : ByteArray).size = 1 := rfl; have z8 : (⟨#[58]⟩ : ByteArray).size = 1 := rfl; have z10 : (⟨#[32, 43]⟩ : ByteArray).size = 2 := rfl; first | omega | (simp only [append_sz]; omega))
            have a14 : ∀ W, (Op.stringOp .add (⟨#[50, 48, 48, 49, 45]⟩ ++ S0 ++ ⟨#[45]⟩ ++ S1 ++ ⟨#[32]⟩ ++ S2 ++ ⟨#[58]⟩ ++ S3 ++ ⟨#[58]⟩) (S4)).run Tryd.prog W = .ok (.string ((⟨#[50, 48, 48, 49, 45]⟩ ++ S0 ++ ⟨#[45]⟩ ++ S1 ++ ⟨#[32]⟩ ++ S2 ++ ⟨#[58]⟩ ++ S3 ++ ⟨#[58]⟩) ++ S4)) W := fun W => run_string_add_sum _ _ _ (by have z0 : (⟨#[50, 48, 48, 49, 45]⟩ : ByteArray).size = 5 := rfl; have z2 : (⟨#[45]⟩ : ByteArray).size = 1 := rfl; have z4 : (⟨#[32]⟩ : ByteArray).size = 1 := rfl; have z6 : (⟨#[58]⟩ : ByteArray).size = 1 := rfl; have z8 : (⟨#[58]⟩ : ByteArray).size = 1 := rfl; have z10 : (⟨#[32, 43]⟩ : ByteArray).size = 2 := rfl; first | omega | (simp only [append_sz]; omega))
            have a15 : ∀ W, (Op.stringOp .add (⟨#[50, 48, 48, 49, 45]⟩ ++ S0 ++ ⟨#[45]⟩ ++ S1 ++ ⟨#[32]⟩ ++ S2 ++ ⟨#[58]⟩ ++ S3 ++ ⟨#[58]⟩ ++ S4) (⟨#[32, 43]⟩)).run Tryd.prog W = .ok (.string ((⟨#[50, 48, 48, 49, 45]⟩ ++ S0 ++ ⟨#[45]⟩ ++ S1 ++ ⟨#[32]⟩ ++ S2 ++ ⟨#[58]⟩ ++ S3 ++ ⟨#[58]⟩ ++ S4) ++ ⟨#[32, 43]⟩)) W := fun W => run_string_add_sum _ _ _ (by have z0 : (⟨#[50, 48, 48, 49, 45]⟩ : ByteArray).size = 5 := rfl; have z2 : (⟨#[45]⟩ : ByteArray).size = 1 := rfl; have z4 : (⟨#[32]⟩ : ByteArray).size = 1 := rfl; have z6 : (⟨#[58]⟩ : ByteArray).size = 1 := rfl; have z8 : (⟨#[58]⟩ : ByteArray).size = 1 := rfl; have z10 : (⟨#[32, 43]⟩ : ByteArray).size = 2 := rfl; first | omega | (simp only [append_sz]; omega))
            have a16 : ∀ W, (Op.stringOp .add (⟨#[50, 48, 48, 49, 45]⟩ ++ S0 ++ ⟨#[45]⟩ ++ S1 ++ ⟨#[32]⟩ ++ S2 ++ ⟨#[58]⟩ ++ S3 ++ ⟨#[58]⟩ ++ S4 ++ ⟨#[32, 43]⟩) (S5)).run Tryd.prog W = .ok (.string ((⟨#[50, 48, 48, 49, 45]⟩ ++ S0 ++ ⟨#[45]⟩ ++ S1 ++ ⟨#[32]⟩ ++ S2 ++ ⟨#[58]⟩ ++ S3 ++ ⟨#[58]⟩ ++ S4 ++ ⟨#[32, 43]⟩) ++ S5)) W := fun W => run_string_add_sum _ _ _ (by have z0 : (⟨#[50, 48, 48, 49, 45]⟩ : ByteArray).size = 5 := rfl; have z2 : (⟨#[45]⟩ : ByteArray).size = 1 := rfl; have z4 : (⟨#[32]⟩ : ByteArray).size = 1 := rfl; have z6 : (⟨#[58]⟩ : ByteArray).size = 1 := rfl; have z8 : (⟨#[58]⟩ : ByteArray).size = 1 := rfl; have z10 : (⟨#[32, 43]⟩ : ByteArray).size = 2 := rfl; first | omega | (simp only [append_sz]; omega))
            clear e0 e1 e2 e3 e4 e5 z0 z1 z2 z3 z4 z5
            have hS1 : ∀ wx, Below W5.heap.size W5 wx → (wx.cell? ⟨gp, 0, none⟩ = some (.int .i64 (v : Nat)) ∧ wx.cell? ⟨gp, 1, none⟩ = some (.int .i64 14) ∧ wx.cell? ⟨gp, 2, none⟩ = some (.int .i64 21) ∧ wx.cell? ⟨gp, 3, none⟩ = some (.int .i64 59) ∧ wx.cell? ⟨gp, 4, none⟩ = some (.int .i64 43) ∧ wx.cell? ⟨gp, 5, none⟩ = some (.int .i64 0) ∧ Below W5.heap.size W5 wx) := fun wx h => ⟨(h.cell (p := ⟨gp, 0, none⟩) hg5).trans q0, (h.cell (p := ⟨gp, 1, none⟩) hg5).trans q1, (h.cell (p := ⟨gp, 2, none⟩) hg5).trans q2, (h.cell (p := ⟨gp, 3, none⟩) hg5).trans q3, (h.cell (p := ⟨gp, 4, none⟩) hg5).trans q4, (h.cell (p := ⟨gp, 5, none⟩) hg5).trans q5, h⟩
            have hS2 : ∀ wx, (wx.cell? ⟨gp, 0, none⟩ = some (.int .i64 (v : Nat)) ∧ wx.cell? ⟨gp, 1, none⟩ = some (.int .i64 14) ∧ wx.cell? ⟨gp, 2, none⟩ = some (.int .i64 21) ∧ wx.cell? ⟨gp, 3, none⟩ = some (.int .i64 59) ∧ wx.cell? ⟨gp, 4, none⟩ = some (.int .i64 43) ∧ wx.cell? ⟨gp, 5, none⟩ = some (.int .i64 0) ∧ Below W5.heap.size W5 wx) → Below W5.heap.size W5 wx := fun wx h => h.2.2.2.2.2.2
            have HS1 := Lib.hid hS1
            have HS2 := Lib.hid hS2
            clear hS1 hS2
            go_wp2_with fail
            go_region_held3 (fun wx => wx.cell? ⟨gp, 0, none⟩ = some (.int .i64 (v : Nat)) ∧ wx.cell? ⟨gp, 1, none⟩ = some (.int .i64 14) ∧ wx.cell? ⟨gp, 2, none⟩ = some (.int .i64 21) ∧ wx.cell? ⟨gp, 3, none⟩ = some (.int .i64 59) ∧ wx.cell? ⟨gp, 4, none⟩ = some (.int .i64 43) ∧ wx.cell? ⟨gp, 5, none⟩ = some (.int .i64 0) ∧ Below W5.heap.size W5 wx)
              (first | exact hS | exact HS1.out _ (Below.refl _ _).drew)
              (first
                | (go_at_call 15; (with_reducible refine (liftC HS1.out HS2.out (c0 _) ?_).mono ?_); (exact ‹_ ∧ _ ∧ _ ∧ _ ∧ _ ∧ _ ∧ Below _ _ _›); rintro r wq ⟨rfl, hS⟩)
                | (go_at_call 15; (with_reducible refine (liftC HS1.out HS2.out (c1 _) ?_).mono ?_); (exact ‹_ ∧ _ ∧ _ ∧ _ ∧ _ ∧ _ ∧ Below _ _ _›); rintro r wq ⟨rfl, hS⟩)
                | (go_at_call 15; (with_reducible refine (liftC HS1.out HS2.out (c2 _) ?_).mono ?_); (exact ‹_ ∧ _ ∧ _ ∧ _ ∧ _ ∧ _ ∧ Below _ _ _›); rintro r wq ⟨rfl, hS⟩)
                | (go_at_call 15; (with_reducible refine (liftC HS1.out HS2.out (c3 _) ?_).mono ?_); (exact ‹_ ∧ _ ∧ _ ∧ _ ∧ _ ∧ _ ∧ Below _ _ _›); rintro r wq ⟨rfl, hS⟩)
                | (go_at_call 15; (with_reducible refine (liftC HS1.out HS2.out (c4 _) ?_).mono ?_); (exact ‹_ ∧ _ ∧ _ ∧ _ ∧ _ ∧ _ ∧ Below _ _ _›); rintro r wq ⟨rfl, hS⟩)
                | (go_at_call 15; (with_reducible refine (liftC HS1.out HS2.out (c5 _) ?_).mono ?_); (exact ‹_ ∧ _ ∧ _ ∧ _ ∧ _ ∧ _ ∧ Below _ _ _›); rintro r wq ⟨rfl, hS⟩))
            have hq := HS2.out _ hS
            have B6 : Below w.heap.size w wq := B5.trans (hq.mono B5.size)
            have T6 : Tab wq := ht.next B6
            clear hS hq HS1 HS2 B5 T5 q0 q1 q2 q3 q4 q5 hg5 c0 c1 c2 c3 c4 c5
            go_wp2_with fail
            with_reducible refine (cI _ T6).mono ?_
            rintro r w7 ⟨rfl, hb⟩
            have B7 : Below w.heap.size w w7 := B6.trans (hb.mono B6.size)
            have T7 : Tab w7 := ht.next B7
            clear hb B6 T6
            go_wp2_with fail
            with_reducible refine (cX _ T7).mono ?_
            rintro r w8 ⟨rfl, hb⟩
            have B8 : Below w.heap.size w w8 := B7.trans (hb.mono B7.size)
            have T8 : Tab w8 := ht.next B8
            clear hb B7 T7
            go_wp2_with fail
            with_reducible refine (cS _ T8).mono ?_
            rintro r w9 ⟨rfl, hb⟩
            have B9 : Below w.heap.size w w9 := B8.trans (hb.mono B8.size)
            have T9 : Tab w9 := ht.next B9
            clear hb B8 T8
            go_wp2
            go_ret
            exact ⟨rfl, B9⟩
        · have ht0 : t.data.toList = [] := by have := sz_list t; exact List.eq_nil_of_length_eq_zero (by omega)
          have hz0 : M.tz DL = [] := by rw [← hst.out, ht0]; rfl
          clear hst
          have hw := HA.out hz0
          have zt : t.toList.isEmpty = true := by rw [ByteArray.toList_eq, ht0]; rfl
          have zt2 : (t.toList == []) = true := by rw [ByteArray.toList_eq, ht0]; rfl
          clear hz0 ht0 HA HB HD
          have a1 : ∀ W, (Op.stringOp .add (⟨#[50, 48, 48, 49, 45, 49, 50, 45, 49, 52, 32, 50, 49, 58, 53, 57, 58, 52, 51, 46]⟩) (H)).run Tryd.prog W = .ok (.string ((⟨#[50, 48, 48, 49, 45, 49, 50, 45, 49, 52, 32, 50, 49, 58, 53, 57, 58, 52, 51, 46]⟩) ++ H)) W := fun W => run_string_add_sum _ _ _ (by have z0 : (⟨#[50, 48, 48, 49, 45, 49, 50, 45, 49, 52, 32, 50, 49, 58, 53, 57, 58, 52, 51, 46]⟩ : ByteArray).size = 20 := rfl; have z2 : (⟨#[120]⟩ : ByteArray).size = 1 := rfl; first | omega | (simp only [append_sz]; omega))
          have a2 : ∀ W, (Op.stringOp .add (⟨#[50, 48, 48, 49, 45, 49, 50, 45, 49, 52, 32, 50, 49, 58, 53, 57, 58, 52, 51, 46]⟩ ++ H) (⟨#[120]⟩)).run Tryd.prog W = .ok (.string ((⟨#[50, 48, 48, 49, 45, 49, 50, 45, 49, 52, 32, 50, 49, 58, 53, 57, 58, 52, 51, 46]⟩ ++ H) ++ ⟨#[120]⟩)) W := fun W => run_string_add_sum _ _ _ (by have z0 : (⟨#[50, 48, 48, 49, 45, 49, 50, 45, 49, 52, 32, 50, 49, 58, 53, 57, 58, 52, 51, 46]⟩ : ByteArray).size = 20 := rfl; have z2 : (⟨#[120]⟩ : ByteArray).size = 1 := rfl; first | omega | (simp only [append_sz]; omega))
          have a3 : ∀ W, (Op.stringOp .add (⟨#[50, 48, 48, 49, 45, 49, 50, 45, 49, 52, 84, 50, 49, 58, 53, 57, 58, 52, 51]⟩) (⟨#[90]⟩)).run Tryd.prog W = .ok (.string ((⟨#[50, 48, 48, 49, 45, 49, 50, 45, 49, 52, 84, 50, 49, 58, 53, 57, 58, 52, 51]⟩) ++ ⟨#[90]⟩)) W := fun W => run_string_add_sum _ _ _ (by have z0 : (⟨#[50, 48, 48, 49, 45, 49, 50, 45, 49, 52, 84, 50, 49, 58, 53, 57, 58, 52, 51]⟩ : ByteArray).size = 19 := rfl; have z1 : (⟨#[90]⟩ : ByteArray).size = 1 := rfl; first | omega | (simp only [append_sz]; omega))
          go_wp2_with fail
          with_reducible refine (cO _ T2).mono ?_
          rintro r w3 ⟨rfl, hb⟩
          have B3 : Below w.heap.size w w3 := B2.trans (hb.mono B2.size)
          have T3 : Tab w3 := ht.next B3
          clear hb B2 T2 cO
          obtain ⟨r0, hr0⟩ : ∃ x, b % 87 = x := ⟨_, rfl⟩
          have b1 : Int.tmod (b : Int) 87 = (r0 : Int) := (md hr0 (by omega)).1
          have b2 : (b : Int) % 87 = (r0 : Int) := (md hr0 (by omega)).2
          obtain ⟨v, hv⟩ : ∃ v, 13 + r0 = v := ⟨_, rfl⟩
          have b3 : (13 : Int) + (r0 : Int) = (v : Int) := by omega
          have hv9 : 13 ≤ v ∧ v < 100 := by omega
          have hr9 : r0 < 87 := by omega
          clear hr0 hv
          go_wp2_with fail
          obtain ⟨W4, hW4⟩ : ∃ W4, (w3.alloc (.cells #[.int .i64 12, .int .i64 14, .int .i64 21, .int .i64 59, .int .i64 43, .int .i64 0] 37)).alloc (.cells #[.int .i64 13, .int .i64 32, .int .i64 24, .int .i64 60, .int .i64 60, .int .i64 24] 37) = W4 := ⟨_, rfl⟩
          have p0 : W4.cell? ⟨w3.heap.size, 0, none⟩ = some (.int .i64 12) := by rw [← hW4]; simp
          have p1 : W4.cell? ⟨w3.heap.size, 1, none⟩ = some (.int .i64 14) := by rw [← hW4]; simp
          have p2 : W4.cell? ⟨w3.heap.size, 2, none⟩ = some (.int .i64 21) := by rw [← hW4]; simp
          have p3 : W4.cell? ⟨w3.heap.size, 3, none⟩ = some (.int .i64 59) := by rw [← hW4]; simp
          have p4 : W4.cell? ⟨w3.heap.size, 4, none⟩ = some (.int .i64 43) := by rw [← hW4]; simp
          have p5 : W4.cell? ⟨w3.heap.size, 5, none⟩ = some (.int .i64 0) := by rw [← hW4]; simp
          have mk : W4.cell? ⟨w3.heap.size + 1, 0, none⟩ = some (.int .i64 13) := by rw [← hW4]; simp
          have fk : W4.frozen? ⟨w3.heap.size, 0, none⟩ = false := by rw [← hW4]; simp
          have B4 : Below w.heap.size w W4 := by rw [← hW4]; exact (B3.alloc B3.size _).alloc (by have := B3.size; simp; omega) _
          have hgp : w3.heap.size < W4.heap.size := by rw [← hW4]; simp; omega
          have hgw : w.heap.size ≤ w3.heap.size := B3.size
          rw [hW4]
          clear hW4 T3
          generalize w3.heap.size = gp at *
          go_region
          obtain ⟨W5, hW5⟩ : ∃ W5, (W4.setCell ⟨gp, 0, none⟩ (.int .i64 (v : Nat))).drew = W5 := ⟨_, rfl⟩
          have q0 : W5.cell? ⟨gp, 0, none⟩ = some (.int .i64 (v : Nat)) := by rw [← hW5]; show (W4.setCell _ _).cell? _ = _; rw [World.cell?_setCell_same _ _ _ p0]
          have q1 : W5.cell? ⟨gp, 1, none⟩ = some (.int .i64 14) := by rw [← hW5]; show (W4.setCell _ _).cell? _ = _; rw [World.cell?_setCell_other _ _ _ _ (by intro e; cases e), p1]
          have q2 : W5.cell? ⟨gp, 2, none⟩ = some (.int .i64 21) := by rw [← hW5]; show (W4.setCell _ _).cell? _ = _; rw [World.cell?_setCell_other _ _ _ _ (by intro e; cases e), p2]
          have q3 : W5.cell? ⟨gp, 3, none⟩ = some (.int .i64 59) := by rw [← hW5]; show (W4.setCell _ _).cell? _ = _; rw [World.cell?_setCell_other _ _ _ _ (by intro e; cases e), p3]
          have q4 : W5.cell? ⟨gp, 4, none⟩ = some (.int .i64 43) := by rw [← hW5]; show (W4.setCell _ _).cell? _ = _; rw [World.cell?_setCell_other _ _ _ _ (by intro e; cases e), p4]
          have q5 : W5.cell? ⟨gp, 5, none⟩ = some (.int .i64 0) := by rw [← hW5]; show (W4.setCell _ _).cell? _ = _; rw [World.cell?_setCell_other _ _ _ _ (by intro e; cases e), p5]
          have B5 : Below w.heap.size w W5 := by rw [← hW5]; exact below_dN (B4.setCell hgw _) 1
          have hg5 : gp < W5.heap.size := by rw [← hW5]; simpa using hgp
          rw [hW5]
          have T5 : Tab W5 := ht.next B5
          clear hW5 p0 p1 p2 p3 p4 p5 mk fk B4 hgp hgw
          have c0 : ∀ W, Calls Tryd.prog 15 #[.int .i64 (v : Nat)] W fun e w' => e = .returned (.string (bA (M.d2 v))) ∧ Below W.heap.size W w' := fun W => two2_any v W (by omega)
          have z0 : (bA (M.d2 v)).size = 2 := d2_size _
          have c1 : ∀ W, Calls Tryd.prog 15 #[.int .i64 14] W fun e w' => e = .returned (.string (bA (M.d2 14))) ∧ Below W.heap.size W w' := fun W => two2_any 14 W (by omega)
          have z1 : (bA (M.d2 14)).size = 2 := d2_size _
          have c2 : ∀ W, Calls Tryd.prog 15 #[.int .i64 21] W fun e w' => e = .returned (.string (bA (M.d2 21))) ∧ Below W.heap.size W w' := fun W => two2_any 21 W (by omega)
          have z2 : (bA (M.d2 21)).size = 2 := d2_size _
          have c3 : ∀ W, Calls Tryd.prog 15 #[.int .i64 59] W fun e w' => e = .returned (.string (bA (M.d2 59))) ∧ Below W.heap.size W w' := fun W => two2_any 59 W (by omega)
          have z3 : (bA (M.d2 59)).size = 2 := d2_size _
          have c4 : ∀ W, Calls Tryd.prog 15 #[.int .i64 43] W fun e w' => e = .returned (.string (bA (M.d2 43))) ∧ Below W.heap.size W w' := fun W => two2_any 43 W (by omega)
          have z4 : (bA (M.d2 43)).size = 2 := d2_size _
          have c5 : ∀ W, Calls Tryd.prog 15 #[.int .i64 0] W fun e w' => e = .returned (.string (bA (M.d2 0))) ∧ Below W.heap.size W w' := fun W => two2_any 0 W (by omega)
          have z5 : (bA (M.d2 0)).size = 2 := d2_size _
          have cI := fun W (hT : Tab W) => is_parts v 14 21 59 43 0 (by omega) (by omega) (by omega) (by omega) (by omega) (by omega) (Or.inl hv9.1) W hT
          obtain ⟨S0, e0⟩ : ∃ x, bA (M.d2 v) = x := ⟨_, rfl⟩
          rw [e0] at c0 z0 cI
          obtain ⟨S1, e1⟩ : ∃ x, bA (M.d2 14) = x := ⟨_, rfl⟩
          rw [e1] at c1 z1 cI
          obtain ⟨S2, e2⟩ : ∃ x, bA (M.d2 21) = x := ⟨_, rfl⟩
          rw [e2] at c2 z2 cI
          obtain ⟨S3, e3⟩ : ∃ x, bA (M.d2 59) = x := ⟨_, rfl⟩
          rw [e3] at c3 z3 cI
          obtain ⟨S4, e4⟩ : ∃ x, bA (M.d2 43) = x := ⟨_, rfl⟩
          rw [e4] at c4 z4 cI
          obtain ⟨S5, e5⟩ : ∃ x, bA (M.d2 0) = x := ⟨_, rfl⟩
          rw [e5] at c5 z5 cI
          have a4 : ∀ W, (Op.stringOp .add (⟨#[50, 48, 48, 49, 45]⟩) (S0)).run Tryd.prog W = .ok (.string ((⟨#[50, 48, 48, 49, 45]⟩) ++ S0)) W := fun W => run_string_add_sum _ _ _ (by have z0 : (⟨#[50, 48, 48, 49, 45]⟩ : ByteArray).size = 5 := rfl; have z2 : (⟨#[45]⟩ : ByteArray).size = 1 := rfl; have z4 : (⟨#[32]⟩ : ByteArray).size = 1 := rfl; have z6 : (⟨#[58]⟩ : ByteArray).size = 1 := rfl; have z8 : (⟨#[58]⟩ : ByteArray).size = 1 := rfl; have z10 : (⟨#[32, 43]⟩ : ByteArray).size = 2 := rfl; first | omega | (simp only [append_sz]; omega))
          have a5 : ∀ W, (Op.stringOp .add (⟨#[50, 48, 48, 49, 45]⟩ ++ S0) (⟨#[45]⟩)).run Tryd.prog W = .ok (.string ((⟨#[50, 48, 48, 49, 45]⟩ ++ S0) ++ ⟨#[45]⟩)) W := fun W => run_string_add_sum _ _ _ (by have z0 : (⟨#[50, 48, 48, 49, 45]⟩ : ByteArray).size = 5 := rfl; have z2 : (⟨#[45]⟩ : ByteArray).size = 1 := rfl; have z4 : (⟨#[32]⟩ : ByteArray).size = 1 := rfl; have z6 : (⟨#[58]⟩ : ByteArray).size = 1 := rfl; have z8 : (⟨#[58]⟩ : ByteArray).size = 1 := rfl; have z10 : (⟨#[32, 43]⟩ : ByteArray).size = 2 := rfl; first | omega | (simp only [append_sz]; omega))
          have a6 : ∀ W, (Op.stringOp .add (⟨#[50, 48, 48, 49, 45]⟩ ++ S0 ++ ⟨#[45]⟩) (S1)).run Tryd.prog W = .ok (.string ((⟨#[50, 48, 48, 49, 45]⟩ ++ S0 ++ ⟨#[45]⟩) ++ S1)) W := fun W => run_string_add_sum _ _ _ (by have z0 : (⟨#[50, 48, 48, 49, 45]⟩ : ByteArray).size = 5 := rfl; have z2 : (⟨#[45]⟩ : ByteArray).size = 1 := rfl; have z4 : (⟨#[32]⟩ : ByteArray).size = 1 := rfl; have z6 : (⟨#[58]⟩ : ByteArray).size = 1 := rfl; have z8 : (⟨#[58]⟩ : ByteArray).size = 1 := rfl; have z10 : (⟨#[32, 43]⟩ : ByteArray).size = 2 := rfl; first | omega | (simp only [append_sz]; omega))
          have a7 : ∀ W, (Op.stringOp .add (⟨#[50, 48, 48, 49, 45]⟩ ++ S0 ++ ⟨#[45]⟩ ++ S1) (⟨#[32]⟩)).run Tryd.prog W = .ok (.string ((⟨#[50, 48, 48, 49, 45]⟩ ++ S0 ++ ⟨#[45]⟩ ++ S1) ++ ⟨#[32]⟩)) W := fun W => run_string_add_sum _ _ _ (by have z0 : (⟨#[50, 48, 48, 49, 45]⟩ : ByteArray).size = 5 := rfl; have z2 : (⟨#[45]⟩ : ByteArray).size = 1 := rfl; have z4 : (⟨#[32]⟩ : ByteArray).size = 1 := rfl; have z6 : (⟨#[58]⟩ : ByteArray).size = 1 := rfl; have z8 : (⟨#[58]⟩ : ByteArray).size = 1 := rfl; have z10 : (⟨#[32, 43]⟩ : ByteArray).size = 2 := rfl; first | omega | (simp only [append_sz]; omega))
          have a8 : ∀ W, (Op.stringOp .add (⟨#[50, 48, 48, 49, 45]⟩ ++ S0 ++ ⟨#[45]⟩ ++ S1 ++ ⟨#[32]⟩) (S2)).run Tryd.prog W = .ok (.string ((⟨#[50, 48, 48, 49, 45]⟩ ++ S0 ++ ⟨#[45]⟩ ++ S1 ++ ⟨#[32]⟩) ++ S2)) W := fun W => run_string_add_sum _ _ _ (by have z0 : (⟨#[50, 48, 48, 49, 45]⟩ : ByteArray).size = 5 := rfl; have z2 : (⟨#[45]⟩ : ByteArray).size = 1 := rfl; have z4 : (⟨#[32]⟩ : ByteArray).size = 1 := rfl; have z6 : (⟨#[58]⟩ : ByteArray).size = 1 := rfl; have z8 : (⟨#[58]⟩ : ByteArray).size = 1 := rfl; have z10 : (⟨#[32, 43]⟩ : ByteArray).size = 2 := rfl; first | omega | (simp only [append_sz]; omega))
          have a9 : ∀ W, (Op.stringOp .add (⟨#[50, 48, 48, 49, 45]⟩ ++ S0 ++ ⟨#[45]⟩ ++ S1 ++ ⟨#[32]⟩ ++ S2) (⟨#[58]⟩)).run Tryd.prog W = .ok (.string ((⟨#[50, 48, 48, 49, 45]⟩ ++ S0 ++ ⟨#[45]⟩ ++ S1 ++ ⟨#[32]⟩ ++ S2) ++ ⟨#[58]⟩)) W := fun W => run_string_add_sum _ _ _ (by have z0 : (⟨#[50, 48, 48, 49, 45]⟩ : ByteArray).size = 5 := rfl; have z2 : (⟨#[45]⟩ : ByteArray).size = 1 := rfl; have z4 : (⟨#[32]⟩ : ByteArray).size = 1 := rfl; have z6 : (⟨#[58]⟩ : ByteArray).size = 1 := rfl; have z8 : (⟨#[58]⟩ : ByteArray).size = 1 := rfl; have z10 : (⟨#[32, 43]⟩ : ByteArray).size = 2 := rfl; first | omega | (simp only [append_sz]; omega))
          have a10 : ∀ W, (Op.stringOp .add (⟨#[50, 48, 48, 49, 45]⟩ ++ S0 ++ ⟨#[45]⟩ ++ S1 ++ ⟨#[32]⟩ ++ S2 ++ ⟨#[58]⟩) (S3)).run Tryd.prog W = .ok (.string ((⟨#[50, 48, 48, 49, 45]⟩ ++ S0 ++ ⟨#[45]⟩ ++ S1 ++ ⟨#[32]⟩ ++ S2 ++ ⟨#[58]⟩) ++ S3)) W := fun W => run_string_add_sum _ _ _ (by have z0 : (⟨#[50, 48, 48, 49, 45]⟩ : ByteArray).size = 5 := rfl; have z2 : (⟨#[45]⟩ : ByteArray).size = 1 := rfl; have z4 : (⟨#[32]⟩ : ByteArray).size = 1 := rfl; have z6 : (⟨#[58]⟩ : ByteArray).size = 1 := rfl; have z8 : (⟨#[58]⟩ : ByteArray).size = 1 := rfl; have z10 : (⟨#[32, 43]⟩ : ByteArray).size = 2 := rfl; first | omega | (simp only [append_sz]; omega))
          have a11 : ∀ W, (Op.stringOp .add (⟨#[50, 48, 48, 49, 45]⟩ ++ S0 ++ ⟨#[45]⟩ ++ S1 ++ ⟨#[32]⟩ ++ S2 ++ ⟨#[58]⟩ ++ S3) (⟨#[58]⟩)).run Tryd.prog W = .ok (.string ((⟨#[50, 48, 48, 49, 45]⟩ ++ S0 ++ ⟨#[45]⟩ ++ S1 ++ ⟨#[32]⟩ ++ S2 ++ ⟨#[58]⟩ ++ S3) ++ ⟨#[58]⟩)) W := fun W => run_string_add_sum _ _ _ (by have z0 : (⟨#[50, 48, 48, 49, 45]⟩ : ByteArray).size = 5 := rfl; have z2 : (⟨#[45]⟩ : ByteArray).size = 1 := rfl; have z4 : (⟨#[32]⟩ : ByteArray).size = 1 := rfl; have z6 : (⟨#[58]⟩ : ByteArray).size = 1 := rfl; have z8 : (⟨#[58]⟩ : ByteArray).size = 1 := rfl; have z10 : (⟨#[32, 43]⟩ : ByteArray).size = 2 := rfl; first | omega | (simp only [append_sz]; omega))
          have a12 : ∀ W, (Op.stringOp .add (⟨#[50, 48, 48, 49, 45]⟩ ++ S0 ++ ⟨#[45]⟩ ++ S1 ++ ⟨#[32]⟩ ++ S2 ++ ⟨#[58]⟩ ++ S3 ++ ⟨#[58]⟩) (S4)).run Tryd.prog W = .ok (.string ((⟨#[50, 48, 48, 49, 45]⟩ ++ S0 ++ ⟨#[45]⟩ ++ S1 ++ ⟨#[32]⟩ ++ S2 ++ ⟨#[58]⟩ ++ S3 ++ ⟨#[58]⟩) ++ S4)) W := fun W => run_string_add_sum _ _ _ (by have z0 : (⟨#[50, 48, 48, 49, 45]⟩ : ByteArray).size = 5 := rfl; have z2 : (⟨#[45]⟩ : ByteArray).size = 1 := rfl; have z4 : (⟨#[32]⟩ : ByteArray).size = 1 := rfl; have z6 : (⟨#[58]⟩ : ByteArray).size = 1 := rfl; have z8 : (⟨#[58]⟩ : ByteArray).size = 1 := rfl; have z10 : (⟨#[32, 43]⟩ : ByteArray).size = 2 := rfl; first | omega | (simp only [append_sz]; omega))
          have a13 : ∀ W, (Op.stringOp .add (⟨#[50, 48, 48, 49, 45]⟩ ++ S0 ++ ⟨#[45]⟩ ++ S1 ++ ⟨#[32]⟩ ++ S2 ++ ⟨#[58]⟩ ++ S3 ++ ⟨#[58]⟩ ++ S4) (⟨#[32, 43]⟩)).run Tryd.prog W = .ok (.string ((⟨#[50, 48, 48, 49, 45]⟩ ++ S0 ++ ⟨#[45]⟩ ++ S1 ++ ⟨#[32]⟩ ++ S2 ++ ⟨#[58]⟩ ++ S3 ++ ⟨#[58]⟩ ++ S4) ++ ⟨#[32, 43]⟩)) W := fun W => run_string_add_sum _ _ _ (by have z0 : (⟨#[50, 48, 48, 49, 45]⟩ : ByteArray).size = 5 := rfl; have z2 : (⟨#[45]⟩ : ByteArray).size = 1 := rfl; have z4 : (⟨#[32]⟩ : ByteArray).size = 1 := rfl; have z6 : (⟨#[58]⟩ : ByteArray).size = 1 := rfl; have z8 : (⟨#[58]⟩ : ByteArray).size = 1 := rfl; have z10 : (⟨#[32, 43]⟩ : ByteArray).size = 2 := rfl; first | omega | (simp only [append_sz]; omega))
          have a14 : ∀ W, (Op.stringOp .add (⟨#[50, 48, 48, 49, 45]⟩ ++ S0 ++ ⟨#[45]⟩ ++ S1 ++ ⟨#[32]⟩ ++ S2 ++ ⟨#[58]⟩ ++ S3 ++ ⟨#[58]⟩ ++ S4 ++ ⟨#[32, 43]⟩) (S5)).run Tryd.prog W = .ok (.string ((⟨#[50, 48, 48, 49, 45]⟩ ++ S0 ++ ⟨#[45]⟩ ++ S1 ++ ⟨#[32]⟩ ++ S2 ++ ⟨#[58]⟩ ++ S3 ++ ⟨#[58]⟩ ++ S4 ++ ⟨#[32, 43]⟩) ++ S5)) W := fun W => run_string_add_sum _ _ _ (by have z0 : (⟨#[50, 48, 48, 49, 45]⟩ : ByteArray).size = 5 := rfl; have z2 : (⟨#[45]⟩ : ByteArray).size = 1 := rfl; have z4 : (⟨#[32]⟩ : ByteArray).size = 1 := rfl; have z6 : (⟨#[58]⟩ : ByteArray).size = 1 := rfl; have z8 : (⟨#[58]⟩ : ByteArray).size = 1 := rfl; have z10 : (⟨#[32, 43]⟩ : ByteArray).size = 2 := rfl; first | omega | (simp only [append_sz]; omega))
          clear e0 e1 e2 e3 e4 e5 z0 z1 z2 z3 z4 z5
          have hS1 : ∀ wx, Below W5.heap.size W5 wx → (wx.cell? ⟨gp, 0, none⟩ = some (.int .i64 (v : Nat)) ∧ wx.cell? ⟨gp, 1, none⟩ = some (.int .i64 14) ∧ wx.cell? ⟨gp, 2, none⟩ = some (.int .i64 21) ∧ wx.cell? ⟨gp, 3, none⟩ = some (.int .i64 59) ∧ wx.cell? ⟨gp, 4, none⟩ = some (.int .i64 43) ∧ wx.cell? ⟨gp, 5, none⟩ = some (.int .i64 0) ∧ Below W5.heap.size W5 wx) := fun wx h => ⟨(h.cell (p := ⟨gp, 0, none⟩) hg5).trans q0, (h.cell (p := ⟨gp, 1, none⟩) hg5).trans q1, (h.cell (p := ⟨gp, 2, none⟩) hg5).trans q2, (h.cell (p := ⟨gp, 3, none⟩) hg5).trans q3, (h.cell (p := ⟨gp, 4, none⟩) hg5).trans q4, (h.cell (p := ⟨gp, 5, none⟩) hg5).trans q5, h⟩
          have hS2 : ∀ wx, (wx.cell? ⟨gp, 0, none⟩ = some (.int .i64 (v : Nat)) ∧ wx.cell? ⟨gp, 1, none⟩ = some (.int .i64 14) ∧ wx.cell? ⟨gp, 2, none⟩ = some (.int .i64 21) ∧ wx.cell? ⟨gp, 3, none⟩ = some (.int .i64 59) ∧ wx.cell? ⟨gp, 4, none⟩ = some (.int .i64 43) ∧ wx.cell? ⟨gp, 5, none⟩ = some (.int .i64 0) ∧ Below W5.heap.size W5 wx) → Below W5.heap.size W5 wx := fun wx h => h.2.2.2.2.2.2
          have HS1 := Lib.hid hS1
          have HS2 := Lib.hid hS2
          clear hS1 hS2
          go_wp2_with fail
          go_region_held3 (fun wx => wx.cell? ⟨gp, 0, none⟩ = some (.int .i64 (v : Nat)) ∧ wx.cell? ⟨gp, 1, none⟩ = some (.int .i64 14) ∧ wx.cell? ⟨gp, 2, none⟩ = some (.int .i64 21) ∧ wx.cell? ⟨gp, 3, none⟩ = some (.int .i64 59) ∧ wx.cell? ⟨gp, 4, none⟩ = some (.int .i64 43) ∧ wx.cell? ⟨gp, 5, none⟩ = some (.int .i64 0) ∧ Below W5.heap.size W5 wx)
            (first | exact hS | exact HS1.out _ (Below.refl _ _).drew)
            (first
              | (go_at_call 15; (with_reducible refine (liftC HS1.out HS2.out (c0 _) ?_).mono ?_); (exact ‹_ ∧ _ ∧ _ ∧ _ ∧ _ ∧ _ ∧ Below _ _ _›); rintro r wq ⟨rfl, hS⟩)
              | (go_at_call 15; (with_reducible refine (liftC HS1.out HS2.out (c1 _) ?_).mono ?_); (exact ‹_ ∧ _ ∧ _ ∧ _ ∧ _ ∧ _ ∧ Below _ _ _›); rintro r wq ⟨rfl, hS⟩)
              | (go_at_call 15; (with_reducible refine (liftC HS1.out HS2.out (c2 _) ?_).mono ?_); (exact ‹_ ∧ _ ∧ _ ∧ _ ∧ _ ∧ _ ∧ Below _ _ _›); rintro r wq ⟨rfl, hS⟩)
              | (go_at_call 15; (with_reducible refine (liftC HS1.out HS2.out (c3 _) ?_).mono ?_); (exact ‹_ ∧ _ ∧ _ ∧ _ ∧ _ ∧ _ ∧ Below _ _ _›); rintro r wq ⟨rfl, hS⟩)
              | (go_at_call 15; (with_reducible refine (liftC HS1.out HS2.out (c4 _) ?_).mono ?_); (exact ‹_ ∧ _ ∧ _ ∧ _ ∧ _ ∧ _ ∧ Below _ _ _›); rintro r wq ⟨rfl, hS⟩)
              | (go_at_call 15; (with_reducible refine (liftC HS1.out HS2.out (c5 _) ?_).mono ?_); (exact ‹_ ∧ _ ∧ _ ∧ _ ∧ _ ∧ _ ∧ Below _ _ _›); rintro r wq ⟨rfl, hS⟩))
          have hq := HS2.out _ hS
          have B6 : Below w.heap.size w wq := B5.trans (hq.mono B5.size)
          have T6 : Tab wq := ht.next B6
          clear hS hq HS1 HS2 B5 T5 q0 q1 q2 q3 q4 q5 hg5 c0 c1 c2 c3 c4 c5
          go_wp2_with fail
          with_reducible refine (cI _ T6).mono ?_
          rintro r w7 ⟨rfl, hb⟩
          have B7 : Below w.heap.size w w7 := B6.trans (hb.mono B6.size)
          have T7 : Tab w7 := ht.next B7
          clear hb B6 T6
          go_wp2_with fail
          with_reducible refine (cX _ T7).mono ?_
          rintro r w8 ⟨rfl, hb⟩
          have B8 : Below w.heap.size w w8 := B7.trans (hb.mono B7.size)
          have T8 : Tab w8 := ht.next B8
          clear hb B7 T7
          go_wp2_with fail
          with_reducible refine (cS _ T8).mono ?_
          rintro r w9 ⟨rfl, hb⟩
          have B9 : Below w.heap.size w w9 := B8.trans (hb.mono B8.size)
          have T9 : Tab w9 := ht.next B9
          clear hb B8 T8
          go_wp2
          go_ret
          exact ⟨rfl, B9⟩
end Go.Proofs.YtoidlgopibnaaaaDoor
