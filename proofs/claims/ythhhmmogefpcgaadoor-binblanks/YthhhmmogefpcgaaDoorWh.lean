/- Walks: bin's Text. -/
import Derived.Test.YthhhmmogefpcgaaDoorWg
set_option linter.unusedVariables false
namespace Go.Proofs.YthhhmmogefpcgaaDoor
open Go.RowKit

theorem signs4 (x y z : UInt8) (n : Nat) (s0 s1 s2 s3 : UInt8) (hS : M.S4 x y z n = [s0, s1, s2, s3]) (w : World) (ht : Tab w) (h1 : 1 ≤ n) (h3 : n ≤ 3) :
    Calls Tryd.prog 16 #[.agg #[.int .u8 x.toNat, .int .u8 y.toNat, .int .u8 z.toNat], .int .i64 n] w fun e w' =>
      e = .returned (.agg #[.int .u8 s0.toNat, .int .u8 s1.toNat, .int .u8 s2.toNat, .int .u8 s3.toNat]) ∧ Below w.heap.size w w' := by
  have h := signs_any x y z n w ht h1 h3
  rw [hS] at h
  exact h
theorem four_cells {w : World} {g : Nat} {s0 s1 s2 s3 : UInt8} {T : TypeId} {fr : Nat × Nat} (h : w.heap[g]? = some (.cells #[.int .u8 s0.toNat, .int .u8 s1.toNat, .int .u8 s2.toNat, .int .u8 s3.toNat] T fr)) :
    ∀ j, (h : j < [s0, s1, s2, s3].length) → w.cell? ⟨g, 0 + j, none⟩ = some (.int .u8 ([s0, s1, s2, s3][j].toNat : Int)) := by
  intro j hj
  match j, hj with
  | 0, _ => simp [World.cell?, h]
  | 1, _ => simp [World.cell?, h]
  | 2, _ => simp [World.cell?, h]
  | 3, _ => simp [World.cell?, h]
  | n + 4, hj => exact absurd hj (by simp only [List.length_cons, List.length_nil]; omega)
theorem below_step {B : Nat} {w W W' : World} (h : Below B w W) (h' : Below W.heap.size W W') (hB : B ≤ W.heap.size) : Below B w W' := h.trans (h'.mono hB)
set_option maxRecDepth 100000 in
set_option maxHeartbeats 4000000 in
theorem text_any (a : Option Addr) (l : List UInt8) (cap : Nat) (w : World) (ht : Tab w) (hin : InS w a l cap) (hl : l.length ≤ 1000) :
    Calls Tryd.prog 9 #[.slice a l.length cap] w fun e w' => e = .returned (.string (bA (M.TX l))) ∧ Below w.heap.size w w' := by
  obtain ⟨R, hR⟩ : ∃ R, M.TX l = R := ⟨_, rfl⟩
  have hlen := M.tx_len l
  rw [hR] at hlen
  have hRl : R.length ≤ 2000 := by omega
  clear hlen
  rw [hR]
  have HIN := Lib.hid hin
  have HR := Lib.hid hR
  have HT := Lib.hid ht
  clear hin hR ht
  have hnew := heap_alloc_new w (.cells #[.pointer none, .slice none 0 0] 46)
  have c1 := grow_any w.heap.size ((l.length + 2) / 3 * 4) _ hnew (by omega)
  have hq : (((l.length + 2) / 3 * 4 : Nat) : Int) = ((l.length : Int) + 2) / 3 * 4 := by omega
  rw [hq] at c1
  have hb0 := (Below.refl w.heap.size w).alloc (Nat.le_refl _) (.cells #[.pointer none, .slice none 0 0] 46)
  have HB0 := Lib.hid hb0
  clear hnew hq hb0
  go_enter Tryd.func9, Tryd.ntmps9
  go_wp2_with fail
  refine c1.mono ?_
  rintro e w1 ⟨rfl, hbu, hb1⟩
  clear c1
  have hb1' : Below w.heap.size w w1 := HB0.out.trans hb1
  clear hb1
  go_wp2_with fail
  go_loopw [0] (fun bv wr => ∃ (D rest : List UInt8) (ad : Option Addr) (cp : Nat), bv = .slice ad rest.length cp ∧ Hid (InS w ad rest cp) ∧ D ++ M.TX rest = R ∧ Hid (Bu wr w.heap.size w.heap.size D) ∧ Below w.heap.size w wr) (fun bv _ => match bv with | .slice _ n _ => n | _ => 0)
  case atStart => exact ⟨[], l, a, cap, rfl, HIN, HR.out, hbu, hb1'⟩
  case round =>
    obtain ⟨D, rest, ad, cp, rfl, HI, hD, HBU, hbw⟩ := hrel
    have hsz := hbw.size
    have hDl : D.length ≤ 2000 := by rw [← hD, List.length_append] at hRl; omega
    have htw : Tab wr := HT.out.next hbw
    have HTW := Lib.hid htw
    clear htw
    match rest, HI, hD with
    | [], HI, hD =>
      rw [show M.TX [] = [] from rfl, List.append_nil] at hD
      subst hD
      have c2 := string_any w.heap.size w.heap.size D wr HBU.out hsz
      clear HI HBU
      have l1 : decide ((0 : Int) < ((([] : List UInt8).length : Nat) : Int)) = false := by decide
      go_wp2_with fail
      refine c2.mono ?_
      rintro e w2 ⟨rfl, hb2⟩
      clear c2
      go_wp2
      go_ret
      exact ⟨rfl, hbw.trans hb2⟩
    | [x], HI, hD =>
      obtain ⟨b, off, rfl, hc, hblt⟩ := HI.out.at_ (by simp)
      obtain ⟨s0, s1, s2, s3, hS⟩ : ∃ s0 s1 s2 s3, M.S4 x 0 0 1 = [s0, s1, s2, s3] := ⟨_, _, _, _, rfl⟩
      have hD' : (D ++ [s0, s1, s2, s3]) ++ M.TX [] = R := by
        rw [← hD, ← hS, List.append_assoc]; rw [show M.TX [] = [] from rfl, List.append_nil]; rfl
      have HD := Lib.hid hD'
      clear hD hD'
      have hcw : ∀ j, (h : j < ([x] : List UInt8).length) → wr.cell? ⟨b, off + j, none⟩ = some (.int .u8 (([x] : List UInt8)[j].toNat : Int)) := fun j hj => (Below.cell hbw (p := ⟨b, off + j, none⟩) hblt).trans (hc j hj)
      have hcs : ∀ (j : Nat) (v : Value), ([.int .u8 x.toNat] : List Value)[j]? = some v → wr.cell? ((⟨b, off, none⟩ : Addr).add j) = some v := fun j v hj => InS.news hcw j v (hj)
      have l1 : decide ((0 : Int) < ((([x] : List UInt8).length : Nat) : Int)) = true := decide_eq_true (Int.ofNat_lt.2 (Nat.zero_lt_succ _))
      have l2 : decide (0 < ([x] : List UInt8).length) = true := decide_eq_true (Nat.zero_lt_succ _)
      have hlen : ([x] : List UInt8).length = 1 := rfl
      have hmin : ([.int .u8 x.toNat] : List Value).length = Nat.min ([x] : List UInt8).length 3 := by show 1 = min _ _; rw [hlen]; omega
      have HL := Lib.hid hlen
      clear hlen
      generalize hX : ([x] : List UInt8) = X at *
      have hg4 := heap_alloc_new wr (.cells #[.int .u8 0, .int .u8 0, .int .u8 0] 39)
      have hcs1 : ∀ (j : Nat) (v : Value), ([.int .u8 x.toNat] : List Value)[j]? = some v → (wr.alloc (.cells #[.int .u8 0, .int .u8 0, .int .u8 0] 39)).cell? ((⟨b, off, none⟩ : Addr).add j) = some v := by
        intro j v hj
        rw [← hcs j v hj, Addr.add_lit]
        exact Below.cell ((Below.refl wr.heap.size wr).alloc (Nat.le_refl _) _) (p := ⟨b, off + j, none⟩) (Nat.lt_of_lt_of_le hblt hsz)
      have hone : ∀ v ∈ ([.int .u8 x.toNat] : List Value), v.oneCell' = true := by simp [Value.oneCell']
      clear hcs hc hcw
      obtain ⟨W2, hcp, hrow2, hbel2⟩ : ∃ W2, (Builtin.copy_ #[22, 22] 3 #[.slice (some ⟨wr.heap.size, 0, none⟩) 3 3, .slice (some ⟨b, off, none⟩) X.length cp]).run Tryd.prog (wr.alloc (.cells #[.int .u8 0, .int .u8 0, .int .u8 0] 39)) = .ok (.int .i64 (1 : Nat)) W2 ∧
          W2.heap[wr.heap.size]? = some (.cells #[.int .u8 x.toNat, .int .u8 0, .int .u8 0] 39 (0, 0)) ∧ Below wr.heap.size wr W2 := by
        have hcp := run_copy_row (P := Tryd.prog) (wr.alloc (.cells #[.int .u8 0, .int .u8 0, .int .u8 0] 39)) 22 22 3 5 wr.heap.size 0 3 3 ⟨b, off, none⟩ X.length cp _ 39 [.int .u8 x.toNat] Tryd.underlying22 (by kernel_rfl) hg4 hmin hcs1 (by simp) hone
        exact ⟨_, hcp, setRow_heap _ _ _ _ _ _ hg4, below_setRow ((Below.refl wr.heap.size wr).alloc (Nat.le_refl _) _) (Nat.le_refl _) _⟩
      have e0 : W2.cell? ⟨wr.heap.size, 0, none⟩ = some (.int .u8 x.toNat) := by simp [World.cell?, hrow2]
      have e1 : W2.cell? ⟨wr.heap.size, 1, none⟩ = some (.int .u8 0) := by simp [World.cell?, hrow2]
      have e2 : W2.cell? ⟨wr.heap.size, 2, none⟩ = some (.int .u8 0) := by simp [World.cell?, hrow2]
      have hb2 : Below w.heap.size w W2 := hbw.trans (hbel2.mono hsz)
      have HBU2 := Lib.hid (HBU.out.next hbel2)
      have s1' := signs4 x 0 0 1 s0 s1 s2 s3 hS W2 (HTW.out.next hbel2) (by omega) (by omega)
      have hz2 := hb2.size
      clear hmin hcs1 hone hg4 hrow2 hbel2 HBU HTW
      go_wp2_with fail
      refine s1'.mono ?_
      rintro e w3 ⟨rfl, hb3⟩
      clear s1'
      have hb3' : Below w.heap.size w w3 := hb2.trans (hb3.mono hz2)
      have hz3 := hb3'.size
      have hn6 := heap_alloc_new w3 (.cells #[.int .u8 s0.toNat, .int .u8 s1.toNat, .int .u8 s2.toNat, .int .u8 s3.toNat] 38)
      have hb4 : Below w.heap.size w (w3.alloc (.cells #[.int .u8 s0.toNat, .int .u8 s1.toNat, .int .u8 s2.toNat, .int .u8 s3.toNat] 38)) := hb3'.alloc hz3 _
      have c4 := write_any w.heap.size w.heap.size w3.heap.size 0 4 D [s0, s1, s2, s3] _ ((HBU2.out.next hb3).next ((Below.refl w3.heap.size w3).alloc (Nat.le_refl _) _)) hb4.size (by omega) (by simp) (four_cells hn6)
      clear hn6 e0 e1 e2 HBU2 hb3 hcp
      have HB4 := Lib.hid hb4
      clear hb4
      go_wp2_with fail
      refine c4.mono ?_
      rintro e w5 ⟨⟨v, rfl⟩, hbu5, hb5⟩
      clear c4
      have hb5' : Below w.heap.size w w5 := HB4.out.trans hb5
      have HBU5 := Lib.hid hbu5
      clear hbu5 hb5 HB4
      go_wp2_with (first | (refine wpList_cutL rfl (.tmp 24) (.tmp 25) rfl (some ⟨b, off, none⟩) X cp 1 rfl rfl (by rw [HL.out]; omega) HI.out ?_; intro ad' hcut) | fail)
      have hdr : X.drop 1 = [] := by rw [← hX]; rfl
      have hxl := HL.out
      rw [hdr] at hcut
      go_roundw
      case rel => exact ⟨D ++ [s0, s1, s2, s3], [], ad', cp - 1, by rw [hxl]; rfl, hcut, HD.out, HBU5, hb5'⟩
      case measure => show X.length - 1 < X.length; omega
    | [x, y], HI, hD =>
      obtain ⟨b, off, rfl, hc, hblt⟩ := HI.out.at_ (by simp)
      obtain ⟨s0, s1, s2, s3, hS⟩ : ∃ s0 s1 s2 s3, M.S4 x y 0 2 = [s0, s1, s2, s3] := ⟨_, _, _, _, rfl⟩
      have hD' : (D ++ [s0, s1, s2, s3]) ++ M.TX [] = R := by
        rw [← hD, ← hS, List.append_assoc]; rw [show M.TX [] = [] from rfl, List.append_nil]; rfl
      have HD := Lib.hid hD'
      clear hD hD'
      have hcw : ∀ j, (h : j < ([x, y] : List UInt8).length) → wr.cell? ⟨b, off + j, none⟩ = some (.int .u8 (([x, y] : List UInt8)[j].toNat : Int)) := fun j hj => (Below.cell hbw (p := ⟨b, off + j, none⟩) hblt).trans (hc j hj)
      have hcs : ∀ (j : Nat) (v : Value), ([.int .u8 x.toNat, .int .u8 y.toNat] : List Value)[j]? = some v → wr.cell? ((⟨b, off, none⟩ : Addr).add j) = some v := fun j v hj => InS.news hcw j v (hj)
      have l1 : decide ((0 : Int) < ((([x, y] : List UInt8).length : Nat) : Int)) = true := decide_eq_true (Int.ofNat_lt.2 (Nat.zero_lt_succ _))
      have l2 : decide (0 < ([x, y] : List UInt8).length) = true := decide_eq_true (Nat.zero_lt_succ _)
      have hlen : ([x, y] : List UInt8).length = 2 := rfl
      have hmin : ([.int .u8 x.toNat, .int .u8 y.toNat] : List Value).length = Nat.min ([x, y] : List UInt8).length 3 := by show 2 = min _ _; rw [hlen]; omega
      have HL := Lib.hid hlen
      clear hlen
      generalize hX : ([x, y] : List UInt8) = X at *
      have hg4 := heap_alloc_new wr (.cells #[.int .u8 0, .int .u8 0, .int .u8 0] 39)
      have hcs1 : ∀ (j : Nat) (v : Value), ([.int .u8 x.toNat, .int .u8 y.toNat] : List Value)[j]? = some v → (wr.alloc (.cells #[.int .u8 0, .int .u8 0, .int .u8 0] 39)).cell? ((⟨b, off, none⟩ : Addr).add j) = some v := by
        intro j v hj
        rw [← hcs j v hj, Addr.add_lit]
        exact Below.cell ((Below.refl wr.heap.size wr).alloc (Nat.le_refl _) _) (p := ⟨b, off + j, none⟩) (Nat.lt_of_lt_of_le hblt hsz)
      have hone : ∀ v ∈ ([.int .u8 x.toNat, .int .u8 y.toNat] : List Value), v.oneCell' = true := by simp [Value.oneCell']
      clear hcs hc hcw
      obtain ⟨W2, hcp, hrow2, hbel2⟩ : ∃ W2, (Builtin.copy_ #[22, 22] 3 #[.slice (some ⟨wr.heap.size, 0, none⟩) 3 3, .slice (some ⟨b, off, none⟩) X.length cp]).run Tryd.prog (wr.alloc (.cells #[.int .u8 0, .int .u8 0, .int .u8 0] 39)) = .ok (.int .i64 (2 : Nat)) W2 ∧
          W2.heap[wr.heap.size]? = some (.cells #[.int .u8 x.toNat, .int .u8 y.toNat, .int .u8 0] 39 (0, 0)) ∧ Below wr.heap.size wr W2 := by
        have hcp := run_copy_row (P := Tryd.prog) (wr.alloc (.cells #[.int .u8 0, .int .u8 0, .int .u8 0] 39)) 22 22 3 5 wr.heap.size 0 3 3 ⟨b, off, none⟩ X.length cp _ 39 [.int .u8 x.toNat, .int .u8 y.toNat] Tryd.underlying22 (by kernel_rfl) hg4 hmin hcs1 (by simp) hone
        exact ⟨_, hcp, setRow_heap _ _ _ _ _ _ hg4, below_setRow ((Below.refl wr.heap.size wr).alloc (Nat.le_refl _) _) (Nat.le_refl _) _⟩
      have e0 : W2.cell? ⟨wr.heap.size, 0, none⟩ = some (.int .u8 x.toNat) := by simp [World.cell?, hrow2]
      have e1 : W2.cell? ⟨wr.heap.size, 1, none⟩ = some (.int .u8 y.toNat) := by simp [World.cell?, hrow2]
      have e2 : W2.cell? ⟨wr.heap.size, 2, none⟩ = some (.int .u8 0) := by simp [World.cell?, hrow2]
      have hb2 : Below w.heap.size w W2 := hbw.trans (hbel2.mono hsz)
      have HBU2 := Lib.hid (HBU.out.next hbel2)
      have s1' := signs4 x y 0 2 s0 s1 s2 s3 hS W2 (HTW.out.next hbel2) (by omega) (by omega)
      have hz2 := hb2.size
      clear hmin hcs1 hone hg4 hrow2 hbel2 HBU HTW
      go_wp2_with fail
      refine s1'.mono ?_
      rintro e w3 ⟨rfl, hb3⟩
      clear s1'
      have hb3' : Below w.heap.size w w3 := hb2.trans (hb3.mono hz2)
      have hz3 := hb3'.size
      have hn6 := heap_alloc_new w3 (.cells #[.int .u8 s0.toNat, .int .u8 s1.toNat, .int .u8 s2.toNat, .int .u8 s3.toNat] 38)
      have hb4 : Below w.heap.size w (w3.alloc (.cells #[.int .u8 s0.toNat, .int .u8 s1.toNat, .int .u8 s2.toNat, .int .u8 s3.toNat] 38)) := hb3'.alloc hz3 _
      have c4 := write_any w.heap.size w.heap.size w3.heap.size 0 4 D [s0, s1, s2, s3] _ ((HBU2.out.next hb3).next ((Below.refl w3.heap.size w3).alloc (Nat.le_refl _) _)) hb4.size (by omega) (by simp) (four_cells hn6)
      clear hn6 e0 e1 e2 HBU2 hb3 hcp
      have HB4 := Lib.hid hb4
      clear hb4
      go_wp2_with fail
      refine c4.mono ?_
      rintro e w5 ⟨⟨v, rfl⟩, hbu5, hb5⟩
      clear c4
      have hb5' : Below w.heap.size w w5 := HB4.out.trans hb5
      have HBU5 := Lib.hid hbu5
      clear hbu5 hb5 HB4
      go_wp2_with (first | (refine wpList_cutL rfl (.tmp 24) (.tmp 25) rfl (some ⟨b, off, none⟩) X cp 2 rfl rfl (by rw [HL.out]; omega) HI.out ?_; intro ad' hcut) | fail)
      have hdr : X.drop 2 = [] := by rw [← hX]; rfl
      have hxl := HL.out
      rw [hdr] at hcut
      go_roundw
      case rel => exact ⟨D ++ [s0, s1, s2, s3], [], ad', cp - 2, by rw [hxl]; rfl, hcut, HD.out, HBU5, hb5'⟩
      case measure => show X.length - 2 < X.length; omega
    | x :: y :: z :: r, HI, hD =>
      obtain ⟨b, off, rfl, hc, hblt⟩ := HI.out.at_ (by simp)
      obtain ⟨s0, s1, s2, s3, hS⟩ : ∃ s0 s1 s2 s3, M.S4 x y z 3 = [s0, s1, s2, s3] := ⟨_, _, _, _, rfl⟩
      have hD' : (D ++ [s0, s1, s2, s3]) ++ M.TX r = R := by
        rw [← hD, ← hS, List.append_assoc]; rfl
      have HD := Lib.hid hD'
      clear hD hD'
      have hcw : ∀ j, (h : j < (x :: y :: z :: r : List UInt8).length) → wr.cell? ⟨b, off + j, none⟩ = some (.int .u8 ((x :: y :: z :: r : List UInt8)[j].toNat : Int)) := fun j hj => (Below.cell hbw (p := ⟨b, off + j, none⟩) hblt).trans (hc j hj)
      have hcs : ∀ (j : Nat) (v : Value), ([.int .u8 x.toNat, .int .u8 y.toNat, .int .u8 z.toNat] : List Value)[j]? = some v → wr.cell? ((⟨b, off, none⟩ : Addr).add j) = some v := fun j v hj => InS.news hcw j v (by match j, hj with | 0, hj => exact hj | 1, hj => exact hj | 2, hj => exact hj | k + 3, hj => exact absurd hj (by simp))
      have l1 : decide ((0 : Int) < (((x :: y :: z :: r : List UInt8).length : Nat) : Int)) = true := decide_eq_true (Int.ofNat_lt.2 (Nat.zero_lt_succ _))
      have l2 : decide (0 < (x :: y :: z :: r : List UInt8).length) = true := decide_eq_true (Nat.zero_lt_succ _)
      have hlen : (x :: y :: z :: r : List UInt8).length = r.length + 3 := rfl
      have hmin : ([.int .u8 x.toNat, .int .u8 y.toNat, .int .u8 z.toNat] : List Value).length = Nat.min (x :: y :: z :: r : List UInt8).length 3 := by show 3 = min _ _; rw [hlen]; omega
      have HL := Lib.hid hlen
      clear hlen
      generalize hX : (x :: y :: z :: r : List UInt8) = X at *
      have hg4 := heap_alloc_new wr (.cells #[.int .u8 0, .int .u8 0, .int .u8 0] 39)
      have hcs1 : ∀ (j : Nat) (v : Value), ([.int .u8 x.toNat, .int .u8 y.toNat, .int .u8 z.toNat] : List Value)[j]? = some v → (wr.alloc (.cells #[.int .u8 0, .int .u8 0, .int .u8 0] 39)).cell? ((⟨b, off, none⟩ : Addr).add j) = some v := by
        intro j v hj
        rw [← hcs j v hj, Addr.add_lit]
        exact Below.cell ((Below.refl wr.heap.size wr).alloc (Nat.le_refl _) _) (p := ⟨b, off + j, none⟩) (Nat.lt_of_lt_of_le hblt hsz)
      have hone : ∀ v ∈ ([.int .u8 x.toNat, .int .u8 y.toNat, .int .u8 z.toNat] : List Value), v.oneCell' = true := by simp [Value.oneCell']
      clear hcs hc hcw
      obtain ⟨W2, hcp, hrow2, hbel2⟩ : ∃ W2, (Builtin.copy_ #[22, 22] 3 #[.slice (some ⟨wr.heap.size, 0, none⟩) 3 3, .slice (some ⟨b, off, none⟩) X.length cp]).run Tryd.prog (wr.alloc (.cells #[.int .u8 0, .int .u8 0, .int .u8 0] 39)) = .ok (.int .i64 (3 : Nat)) W2 ∧
          W2.heap[wr.heap.size]? = some (.cells #[.int .u8 x.toNat, .int .u8 y.toNat, .int .u8 z.toNat] 39 (0, 0)) ∧ Below wr.heap.size wr W2 := by
        have hcp := run_copy_row (P := Tryd.prog) (wr.alloc (.cells #[.int .u8 0, .int .u8 0, .int .u8 0] 39)) 22 22 3 5 wr.heap.size 0 3 3 ⟨b, off, none⟩ X.length cp _ 39 [.int .u8 x.toNat, .int .u8 y.toNat, .int .u8 z.toNat] Tryd.underlying22 (by kernel_rfl) hg4 hmin hcs1 (by simp) hone
        exact ⟨_, hcp, setRow_heap _ _ _ _ _ _ hg4, below_setRow ((Below.refl wr.heap.size wr).alloc (Nat.le_refl _) _) (Nat.le_refl _) _⟩
      have e0 : W2.cell? ⟨wr.heap.size, 0, none⟩ = some (.int .u8 x.toNat) := by simp [World.cell?, hrow2]
      have e1 : W2.cell? ⟨wr.heap.size, 1, none⟩ = some (.int .u8 y.toNat) := by simp [World.cell?, hrow2]
      have e2 : W2.cell? ⟨wr.heap.size, 2, none⟩ = some (.int .u8 z.toNat) := by simp [World.cell?, hrow2]
      have hb2 : Below w.heap.size w W2 := hbw.trans (hbel2.mono hsz)
      have HBU2 := Lib.hid (HBU.out.next hbel2)
      have s1' := signs4 x y z 3 s0 s1 s2 s3 hS W2 (HTW.out.next hbel2) (by omega) (by omega)
      have hz2 := hb2.size
      clear hmin hcs1 hone hg4 hrow2 hbel2 HBU HTW
      go_wp2_with fail
      refine s1'.mono ?_
      rintro e w3 ⟨rfl, hb3⟩
      clear s1'
      have hb3' : Below w.heap.size w w3 := hb2.trans (hb3.mono hz2)
      have hz3 := hb3'.size
      have hn6 := heap_alloc_new w3 (.cells #[.int .u8 s0.toNat, .int .u8 s1.toNat, .int .u8 s2.toNat, .int .u8 s3.toNat] 38)
      have hb4 : Below w.heap.size w (w3.alloc (.cells #[.int .u8 s0.toNat, .int .u8 s1.toNat, .int .u8 s2.toNat, .int .u8 s3.toNat] 38)) := hb3'.alloc hz3 _
      have c4 := write_any w.heap.size w.heap.size w3.heap.size 0 4 D [s0, s1, s2, s3] _ ((HBU2.out.next hb3).next ((Below.refl w3.heap.size w3).alloc (Nat.le_refl _) _)) hb4.size (by omega) (by simp) (four_cells hn6)
      clear hn6 e0 e1 e2 HBU2 hb3 hcp
      have HB4 := Lib.hid hb4
      clear hb4
      go_wp2_with fail
      refine c4.mono ?_
      rintro e w5 ⟨⟨v, rfl⟩, hbu5, hb5⟩
      clear c4
      have hb5' : Below w.heap.size w w5 := HB4.out.trans hb5
      have HBU5 := Lib.hid hbu5
      clear hbu5 hb5 HB4
      go_wp2_with (first | (refine wpList_cutL rfl (.tmp 24) (.tmp 25) rfl (some ⟨b, off, none⟩) X cp 3 rfl rfl (by rw [HL.out]; omega) HI.out ?_; intro ad' hcut) | fail)
      have hdr : X.drop 3 = r := by rw [← hX]; rfl
      have hxl := HL.out
      rw [hdr] at hcut
      go_roundw
      case rel => exact ⟨D ++ [s0, s1, s2, s3], r, ad', cp - 3, by rw [hxl]; rfl, hcut, HD.out, HBU5, hb5'⟩
      case measure => show X.length - 3 < X.length; omega
end Go.Proofs.YthhhmmogefpcgaaDoor
