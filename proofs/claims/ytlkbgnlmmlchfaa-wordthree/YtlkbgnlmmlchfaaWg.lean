/- Bytes in memory; walk: targumlaw9's turned. -/
import Derived.Test.YtlkbgnlmmlchfaaWe
import Derived.Lib.ConvBytes
set_option linter.unusedVariables false
namespace Go.Proofs.Ytlkbgnlmmlchfaa
open Go.RowKit

/-- Bytes in memory, read one by one. -/
def Bs (w : World) (g : Nat) (l : List UInt8) : Prop := (∀ j (h : j < l.length), w.cell? ⟨g, j, none⟩ = some (.int .u8 (l[j].toNat : Int))) ∧ (∀ j, j < l.length → w.frozen? ⟨g, j, none⟩ = false) ∧ g < w.heap.size
theorem Bs.next {w w' : World} {g : Nat} {l : List UInt8} (h : Bs w g l) (hb : Below w.heap.size w w') : Bs w' g l :=
  ⟨fun j hj => (hb.cell (p := ⟨g, j, none⟩) h.2.2).trans (h.1 j hj), fun j hj => (hb.frozen (p := ⟨g, j, none⟩) h.2.2).trans (h.2.1 j hj), Nat.lt_of_lt_of_le h.2.2 hb.size⟩
theorem Bs.conv {w : World} {g : Nat} {l : List UInt8} (h : Bs w g l) (n : Nat) (hn : n = l.length) (cap : Nat) : (convert 32 9 (.slice (some ⟨g, 0, none⟩) n cap)).run Try.prog w = .ok (.string (bA l)) w := by
  subst hn
  refine run_convert_bytes_back w 32 9 5 ⟨g, 0, none⟩ cap l Try.underlying32 Try.underlying5 Try.underlying9 ?_
  intro j hj
  have := h.1 j hj
  by_cases hz : j = 0
  · subst hz; simpa [Addr.add] using this
  · simpa [Addr.add, hz] using this
theorem Bs.set {w : World} {g : Nat} {l : List UInt8} (h : Bs w g l) (i : Nat) (hi : i < l.length) (c : UInt8) : Bs (w.setCell ⟨g, i, none⟩ (.int .u8 (c.toNat : Int))) g (l.set i c) := by
  refine ⟨fun j hj => ?_, fun j hj => ?_, by simpa using h.2.2⟩
  · rw [List.length_set] at hj
    by_cases e : i = j
    · subst e
      rw [World.cell?_setCell_same _ _ _ (h.1 i hi)]
      simp
    · rw [World.cell?_setCell_other _ _ _ _ (by intro k; exact e (by cases k; rfl)), h.1 j hj]
      simp [e]
  · rw [List.length_set] at hj
    have := h.2.1 j hj
    simpa using this
theorem bytes_conv (s : ByteArray) (w : World) : (convert 9 32 (.string s)).run Try.prog w = .ok (.slice (some ⟨w.heap.size, 0, none⟩) s.size (grownCap w s.size 0 5)) (Lib.bytesWorld w 5 s) :=
  Lib.run_convert_string_bytes w 9 32 5 s Try.underlying9 Try.underlying32 Try.underlying5
theorem bytes_below (s : ByteArray) (w : World) : Below w.heap.size w (Lib.bytesWorld w 5 s) :=
  ⟨rfl, rfl, rfl, by rw [Lib.bytesWorld_size]; omega, fun j hj => Lib.bytesWorld_at_old w 5 s j hj⟩
theorem bytes_bs (s : ByteArray) (w : World) : Bs (Lib.bytesWorld w 5 s) w.heap.size s.data.toList := by
  refine ⟨fun j hj => ?_, fun j hj => ?_, by rw [Lib.bytesWorld_size]; omega⟩
  · have := Lib.bytesWorld_cell w 5 s j (by rw [sz_list]; exact hj)
    rw [this, List.getD_eq_getElem?_getD, List.getElem?_eq_getElem hj]
    rfl
  · have := Lib.bytesWorld_at_new w 5 s
    have hs := sz_list s
    have hl : j < (Lib.bytesCells w 5 s).size := by simp [Lib.bytesCells]; omega
    simp [World.frozen?, this]
    omega
theorem bytes_made (s : ByteArray) (w : World) : ∃ W3 cp, (convert 9 32 (.string s)).run Try.prog w = .ok (.slice (some ⟨w.heap.size, 0, none⟩) s.size cp) W3 ∧ Below w.heap.size w W3 ∧ Bs W3 w.heap.size s.data.toList :=
  ⟨_, _, bytes_conv s w, bytes_below s w, bytes_bs s w⟩

/-- A small letter turned great. -/
def up (c : UInt8) : UInt8 := c - 32
theorem up_cast (c : UInt8) : IntKind.u8.wrap ((c.toNat : Int) - 32) = ((up c).toNat : Int) := by
  have hc := c.toNat_lt
  have h : (up c).toNat = (c.toNat + 224) % 256 := by
    unfold up
    rw [UInt8.toNat_sub]
    show (2 ^ 8 - 32 + c.toNat) % 2 ^ 8 = _
    omega
  rw [h]
  unfold IntKind.wrap
  simp [IntKind.bits, IntKind.signed]
  omega
/-- A text turned: none, the first, all of its letters. -/
def tu (m : Nat) (l : List UInt8) : List UInt8 := l.mapIdx fun i c => if m = 2 ∨ (m = 1 ∧ i = 0) then up c else c
/-- The same, the first k letters done. -/
def tuK (m : Nat) (l : List UInt8) (k : Nat) : List UInt8 := l.mapIdx fun i c => if i < k ∧ (m = 2 ∨ (m = 1 ∧ i = 0)) then up c else c
theorem tu_len (m : Nat) (l : List UInt8) : (tu m l).length = l.length := by simp [tu]
theorem tuK_len (m : Nat) (l : List UInt8) (k : Nat) : (tuK m l k).length = l.length := by simp [tuK]
theorem tuK_zero (m : Nat) (l : List UInt8) : tuK m l 0 = l := by
  apply List.ext_getElem
  · exact tuK_len _ _ _
  · intro i h1 h2; simp [tuK]
theorem tuK_all (m : Nat) (l : List UInt8) : tuK m l l.length = tu m l := by
  apply List.ext_getElem
  · rw [tuK_len, tu_len]
  · intro i h1 h2
    rw [tuK_len] at h1
    simp [tuK, tu, h1]
theorem tuK_at (m : Nat) (l : List UInt8) (k : Nat) (h : k < l.length) (h2 : k < (tuK m l k).length) : (tuK m l k)[k] = l[k] := by simp [tuK]
theorem tuK_yes (m : Nat) (l : List UInt8) (k : Nat) (h : k < l.length) (hm : m = 2 ∨ (m = 1 ∧ k = 0)) : tuK m l (k + 1) = (tuK m l k).set k (up l[k]) := by
  apply List.ext_getElem
  · rw [List.length_set, tuK_len, tuK_len]
  · intro i h1 h2
    rw [List.getElem_set]
    by_cases e : k = i
    · subst e; simp [tuK, hm]
    · have e1 : (i < k + 1) ↔ (i < k) := by omega
      simp [tuK, e, e1]
theorem tuK_no (m : Nat) (l : List UInt8) (k : Nat) (hm : ¬ (m = 2 ∨ (m = 1 ∧ k = 0))) : tuK m l (k + 1) = tuK m l k := by
  apply List.ext_getElem
  · rw [tuK_len, tuK_len]
  · intro i h1 h2
    by_cases e : i = k
    · subst e; simp [tuK, hm]
    · have e1 : (i < k + 1) ↔ (i < k) := by omega
      simp [tuK, e1]

set_option maxRecDepth 100000 in
set_option maxHeartbeats 2000000 in
theorem turned_any (s : ByteArray) (k m : Nat) (w : World) (hs : s.size ≤ 1000) (hm : k % 3 = m) :
    Calls Try.prog 15 #[.string s, .int .u8 k] w fun e w' => e = .returned (.string (bA (tu m s.data.toList))) ∧ Below w.heap.size w w' := by
  obtain ⟨W3, cp, cv, hb3, hbs⟩ := bytes_made s w
  have hl := sz_list s
  have e1 : Int.tmod (k : Int) 3 = (m : Int) := by rw [show (3 : Int) = ((3 : Nat) : Int) from rfl, ← Int.ofNat_tmod, hm]
  have e2 : (k : Int) % 3 = (m : Int) := by omega
  obtain ⟨g, hg⟩ : ∃ g, w.heap.size = g := ⟨_, rfl⟩
  have hbw : ∀ W, Below g w W → Below w.heap.size w W := fun W h => by rw [hg]; exact h
  rw [hg] at cv hb3 hbs
  have HBW := Lib.hid hbw
  have HL := Lib.hid hl
  have HBS := Lib.hid hbs
  have HG := Lib.hid hg
  clear hbw hl hbs hg
  go_enter Try.func15, Try.ntmps15
  go_wp2_with fail
  go_loopw [6] (fun iv wr => ∃ i : Nat, iv = .int .i64 i ∧ i ≤ s.size ∧ Hid (Bs wr g (tuK m s.data.toList i)) ∧ Below g w wr) (fun iv _ => s.size - (intOf iv).toNat)
  case atStart => exact ⟨0, rfl, Nat.zero_le _, by show Bs _ _ _; rw [tuK_zero]; exact HBS.out, hb3⟩
  case round =>
    obtain ⟨i, rfl, hi, hB, hbw⟩ := hrel
    clear HBS cv hb3
    by_cases hlt : i < s.size
    · have hltd : decide (i < s.size) = true := decide_eq_true hlt
      have hltd2 : decide ((i : Int) < (s.size : Int)) = true := decide_eq_true (by omega)
      have hL := HL.out
      have hil : i < s.data.toList.length := by omega
      have hik : i < (tuK m s.data.toList i).length := by rw [tuK_len]; exact hil
      by_cases hc : m = 2 ∨ (m = 1 ∧ i = 0)
      · have hy := tuK_yes m s.data.toList i hil hc
        have hset := hB.out.set i hik (up s.data.toList[i])
        rw [← hy, ← up_cast] at hset
        have hcell := hB.out.1 i hik
        have hfr := hB.out.2.1 i hik
        rw [tuK_at m _ _ hil hik] at hcell
        generalize s.data.toList[i].toNat = x at hcell hset
        have HS := Lib.hid hset
        have hgs := HG.out
        have B2 : Below g w (wr.setCell ⟨g, i, none⟩ (.int .u8 (IntKind.u8.wrap ((x : Int) - 32)))) := hbw.setCell (Nat.le_refl _) _
        have HB2 := Lib.hid B2
        clear hset hy hil hik hL hB B2 hgs hbw
        rcases hc with rfl | ⟨rfl, rfl⟩
        · clear hm
          go_wp2
          go_roundw
          case rel => exact ⟨i + 1, by go_num, by omega, HS.out, HB2.out⟩
          case measure => simp [intOf]; omega
        · clear hm
          go_wp2
          go_roundw
          case rel => exact ⟨1, by go_num, by omega, HS.out, HB2.out⟩
          case measure => simp [intOf]; omega
      · have hn := tuK_no m s.data.toList i hc
        have hS : Hid (Bs wr g (tuK m s.data.toList (i + 1))) := by show Bs _ _ _; rw [hn]; exact hB.out
        clear hn hL hil hik hB
        have hm3 : m < 3 := by omega
        have c2 : ((m : Int) == 2) = false := beq_eq_false_iff_ne.2 (by omega)
        by_cases h1 : m = 1
        · subst h1
          have c3 : ((i : Int) == 0) = false := beq_eq_false_iff_ne.2 (by omega)
          clear hc hm c2
          go_wp2
          go_roundw
          case rel => exact ⟨i + 1, by go_num, by omega, hS, hbw⟩
          case measure => simp [intOf]; omega
        · have c3 : ((m : Int) == 1) = false := beq_eq_false_iff_ne.2 (by omega)
          clear hc hm h1 hm3
          go_wp2
          go_roundw
          case rel => exact ⟨i + 1, by go_num, by omega, hS, hbw⟩
          case measure => simp [intOf]; omega
    · obtain rfl : i = s.size := by omega
      have hltd : decide (s.size < s.size) = false := by simp
      have hr := hB.out
      rw [HL.out, tuK_all] at hr
      have hcv := hr.conv s.size (by rw [tu_len]; exact HL.out) cp
      clear hr hB
      have hBW := HBW.out _ hbw
      clear hbw
      go_wp2
      go_ret
      exact ⟨rfl, hBW⟩
end Go.Proofs.Ytlkbgnlmmlchfaa
