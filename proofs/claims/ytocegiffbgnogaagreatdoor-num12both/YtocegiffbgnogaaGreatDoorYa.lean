/- Walks of the document's sign, find. Walk of the document's bare. -/
import Derived.Test.YtocegiffbgnogaaGreatDoorRd
import Derived.Test.YtocegiffbgnogaaGreatDoorXn
import Derived.Lib.BufferRead
set_option linter.unusedVariables false
namespace Go.Proofs.YtocegiffbgnogaaGreatDoor
open Go.RowKit

theorem head_43 {c : UInt8} {r : List UInt8} (h : c = 43) : M.isNeg (c :: r) = false ∧ M.body (c :: r) = r := by
  subst h
  have h1 : M.isNeg (43 :: r) = false := by simp [M.isNeg]
  refine ⟨h1, ?_⟩
  unfold M.body M.unplus
  rw [h1]; simp
theorem head_45 {c : UInt8} {r : List UInt8} (h : c = 45) : M.isNeg (c :: r) = true ∧ M.body (c :: r) = r := by
  subst h
  refine ⟨M.isNeg_cons r, ?_⟩
  unfold M.body
  rw [if_pos (M.isNeg_cons r), M.unsign_cons]
theorem head_else {c : UInt8} {r : List UInt8} (h1 : c ≠ 43) (h2 : c ≠ 45) : M.isNeg (c :: r) = false ∧ M.body (c :: r) = c :: r := by
  have h3 : M.isNeg (c :: r) = false := by simp [M.isNeg, h2]
  refine ⟨h3, ?_⟩
  unfold M.body M.unplus
  rw [h3]; simp [h1]
set_option maxRecDepth 100000 in
set_option maxHeartbeats 1000000 in
theorem rsign_any (s : ByteArray) (w : World) (hs : s.size ≤ 1000) :
    Calls Tryz.prog 13 #[.string s] w fun e w' => e = .returned (.tuple #[.string (bA (M.body s.data.toList)), .bool (M.isNeg s.data.toList)]) ∧ Below w.heap.size w w' := by
  by_cases h0 : 0 < s.size
  · have hl := drop_cons s 0 h0
    rw [List.drop_zero] at hl
    have hx : bA (s.data.toList.drop 1) = s.extract 1 s.size := by symm; apply eq_bA; rw [Lib.extract_to_end]
    have hd : decide (0 < s.size) = true := by simpa using h0
    have hz : (1 : Int) ≤ (s.size : Int) := by omega
    have hz1 : 1 ≤ s.size := by omega
    have h256 := s[0].toNat_lt
    by_cases h43 : s[0] = 43
    · obtain ⟨e1, e2⟩ := head_43 (r := s.data.toList.drop 1) h43
      rw [← hl] at e1 e2
      rw [e1, e2, hx]
      have g : s[0].toNat = 43 := by rw [h43]; rfl
      clear e1 e2 hl hx h43
      go_enter Tryz.func13, Tryz.ntmps13
      go_wp2
      go_quiet (fail)
      go_wp2
      go_ret2
      exact ⟨rfl, below_dN (Below.refl _ _) _⟩
    · by_cases h45 : s[0] = 45
      · obtain ⟨e1, e2⟩ := head_45 (r := s.data.toList.drop 1) h45
        rw [← hl] at e1 e2
        rw [e1, e2, hx]
        have g : s[0].toNat = 45 := by rw [h45]; rfl
        clear e1 e2 hl hx h43 h45
        go_enter Tryz.func13, Tryz.ntmps13
        go_wp2
        go_quiet (fail)
        go_wp2
        go_ret2
        exact ⟨rfl, below_dN (Below.refl _ _) _⟩
      · obtain ⟨e1, e2⟩ := head_else (r := s.data.toList.drop 1) h43 h45
        rw [← hl] at e1 e2
        rw [e1, e2, bA_of]
        have g1 : ((s[0].toNat : Int) == 43) = false := neC (k := 43) (by omega) h43
        have g2 : ((s[0].toNat : Int) == 45) = false := neC (k := 45) (by omega) h45
        clear e1 e2 hl hx h43 h45
        go_enter Tryz.func13, Tryz.ntmps13
        go_wp2
        go_ret2
        exact ⟨rfl, Below.refl _ _⟩
  · have hd : decide (0 < s.size) = false := by simpa using h0
    have hz : s.data.toList = [] := List.eq_nil_of_length_eq_zero (by rw [← sz_list]; omega)
    have e : s = ⟨#[]⟩ := eq_bA hz
    subst e
    clear hz h0 hs hd
    go_enter Tryz.func13, Tryz.ntmps13
    go_wp2
    go_ret2
    exact ⟨rfl, Below.refl _ _⟩

set_option maxRecDepth 100000 in
theorem rfind_no (s : ByteArray) (w : World) (hs : s.size ≤ 1000) (h : ∀ c ∈ s.data.toList, c ≠ 58) :
    Calls Tryz.prog 22 #[.string s, .int .u8 58] w fun e w' => e = .returned (.int .i64 (-1)) ∧ w = w' := by
  have H := Lib.hid h
  clear h
  go_enter Tryz.func22, Tryz.ntmps22
  go_wp2
  go_loop [5] (fun i => ∃ k : Nat, i = .int .i64 k ∧ k ≤ s.size) (fun i => s.size - (intOf i).toNat)
  case atStart => exact ⟨0, rfl, Nat.zero_le _⟩
  case round =>
    obtain ⟨k, rfl, hk⟩ := hrel
    by_cases hlt : k < s.size
    · have hltd : decide (k < s.size) = true := by simpa using hlt
      have hne : ((s[k].toNat : Int) == 58) = false := neC (k := 58) (by omega) (H.out _ (List.mem_of_getElem? (get_list s k hlt)))
      go_wp2
      go_round
      case rel => exact ⟨k + 1, by go_num, by omega⟩
      case measure => simp [intOf]; omega
    · obtain rfl : k = s.size := by omega
      have hltd : decide (s.size < s.size) = false := by simp
      go_wp2
      go_ret
      exact ⟨rfl, rfl⟩
set_option maxRecDepth 100000 in
theorem rfind_yes (s : ByteArray) (D r : List UInt8) (w : World) (hs : s.size ≤ 1000) (he : s.data.toList = D ++ 58 :: r) (h : ∀ c ∈ D, c ≠ 58) :
    Calls Tryz.prog 22 #[.string s, .int .u8 58] w fun e w' => e = .returned (.int .i64 (D.length : Nat)) ∧ w = w' := by
  have hsz : D.length < s.size := by rw [sz_list, he]; simp
  have hat : s[D.length] = 58 := by
    have := get_list s D.length hsz
    rw [he] at this
    simpa using this.symm
  have hlow : ∀ k, k < D.length → (hk' : k < s.size) → s[k] ≠ 58 := by
    intro k hk hk'
    have := get_list s k hk'
    rw [he, List.getElem?_append_left hk] at this
    exact h _ (List.mem_of_getElem? this)
  have HL := Lib.hid hlow
  have hat2 : s[D.length].toNat = 58 := by rw [hat]; rfl
  clear h he hlow hat
  generalize D.length = n at *
  go_enter Tryz.func22, Tryz.ntmps22
  go_wp2
  go_loop [5] (fun i => ∃ k : Nat, i = .int .i64 k ∧ k ≤ n) (fun i => s.size - (intOf i).toNat)
  case atStart => exact ⟨0, rfl, Nat.zero_le _⟩
  case round =>
    obtain ⟨k, rfl, hk⟩ := hrel
    have hltd : decide (k < s.size) = true := by simp; omega
    by_cases hlt : k < n
    · have hks : k < s.size := by omega
      have hne : ((s[k].toNat : Int) == 58) = false := neC (k := 58) (by omega) (HL.out k hlt hks)
      clear hat2
      go_wp2
      go_round
      case rel => exact ⟨k + 1, by go_num, by omega⟩
      case measure => simp [intOf]; omega
    · obtain rfl : k = n := by omega
      go_wp2
      go_ret
      exact ⟨rfl, rfl⟩
end Go.Proofs.YtocegiffbgnogaaGreatDoor

namespace Go.Proofs.YtocegiffbgnogaaGreatDoor
open Go.RowKit Go.Lib

def bc (c : UInt8) : Value := .int .u8 (c.toNat : Int)
/-- A row of bytes that the call has made. -/
def OwnB (w : World) (B : Nat) (v : Value) (l : List UInt8) : Prop := w.ownsRow B 5 1 v l.length (l.map bc)
theorem OwnB.nil (w : World) (B : Nat) : OwnB w B (.slice none 0 0) [] := World.ownsRow_nil _ _ _ _
theorem OwnB.form {w : World} {B : Nat} {v : Value} {l : List UInt8} (h : OwnB w B v l) : (v = .slice none 0 0 ∧ l = []) ∨ ∃ g cap, v = .slice (some ⟨g, 0, none⟩) l.length cap := by
  rcases h.2 with ⟨h1, h2⟩ | ⟨g, cap, cur, h1, hb, _⟩
  · exact Or.inl ⟨h1, List.eq_nil_of_length_eq_zero h2⟩
  · exact Or.inr ⟨g, cap, h1⟩
theorem OwnB.cell {w : World} {B g cap : Nat} {l : List UInt8} (h : OwnB w B (.slice (some ⟨g, 0, none⟩) l.length cap) l) (i : Nat) (hi : i < l.length) : w.cell? ⟨g, i, none⟩ = some (.int .u8 (l[i].toNat : Int)) := by
  have := World.ownsRow.cellAt h i (by omega)
  rw [this, List.getElem?_map, List.getElem?_eq_getElem hi]; rfl
theorem OwnB.conv {w : World} {B g cap : Nat} {l : List UInt8} (h : OwnB w B (.slice (some ⟨g, 0, none⟩) l.length cap) l) : (convert 58 9 (.slice (some ⟨g, 0, none⟩) l.length cap)).run Tryz.prog w = .ok (.string (bA l)) w := by
  refine run_convert_bytes_back w 58 9 5 ⟨g, 0, none⟩ cap l Tryz.underlying58 Tryz.underlying5 Tryz.underlying9 ?_
  intro j hj
  rw [Addr.add_lit, Nat.zero_add, h.cell j hj]
theorem bc_one (p : Nat) : ∀ u ∈ [Value.int .u8 (p : Int)], u.oneCell' = true := by intro u hu; rw [List.mem_singleton.1 hu]; rfl
theorem bc_news (w : World) (p : Nat) (t : TypeId) : ∀ (j : Nat) (u : Value), [Value.int .u8 (p : Int)][j]? = some u → (w.alloc (.cells #[.int .u8 (p : Int)] t)).cell? ((⟨w.heap.size, 0, none⟩ : Addr).add j) = some u := by
  intro j u hj
  match j, hj with
  | 0, hj => simp at hj; subst hj; simp [Addr.add]
  | n + 1, hj => simp at hj
theorem OwnB.snoc {w : World} {B : Nat} {v : Value} {l : List UInt8} {c : UInt8} (h : w.ownsRow B 5 1 v (l.length + 1) (l.map bc ++ [.int .u8 (c.toNat : Int)])) : OwnB w B v (l ++ [c]) := by
  unfold OwnB; rw [List.length_append, List.map_append]; exact h
/-- What bare answers. -/
def bareV (b : Nat) (l : List UInt8) : Value := if M.allD b (M.gone l) = true then .tuple #[.string (bA (M.gone l)), .bool (!(M.gone l).isEmpty)] else .tuple #[.string ⟨#[]⟩, .bool false]
theorem gone_snoc_eq (l : List UInt8) : M.gone (l ++ [95]) = M.gone l := by rw [M.gone_append]; simp [M.gone]
theorem gone_snoc_ne (l : List UInt8) {c : UInt8} (h : c ≠ 95) : M.gone (l ++ [c]) = M.gone l ++ [c] := by rw [M.gone_append]; simp [M.gone, h]
set_option maxRecDepth 100000 in
set_option maxHeartbeats 2000000 in
theorem rbare_any (s : ByteArray) (b : Nat) (w : World) (hs : s.size ≤ 1000) (hb : b ≤ 16) :
    Calls Tryz.prog 14 #[.string s, .int .i64 b] w fun e w' => e = .returned (bareV b s.data.toList) ∧ Below w.heap.size w w' := by
  obtain ⟨V, hV⟩ : ∃ V, bareV b s.data.toList = V := ⟨_, rfl⟩
  rw [hV]
  have HV := Lib.hid hV
  clear hV
  obtain ⟨i0, hi, hz0, hz1, hz2⟩ := info_parts Tryz.info5
  go_enter Tryz.func14, Tryz.ntmps14
  go_wp2
  go_loopw [6, 7] (fun ov iv wr => ∃ k : Nat, iv = .int .i64 k ∧ k ≤ s.size ∧ Hid (M.allD b (M.gone (s.data.toList.take k)) = true) ∧ OwnB wr w.heap.size ov (M.gone (s.data.toList.take k)) ∧ Below w.heap.size w wr) (fun _ iv _ => s.size - (intOf iv).toNat)
  case atStart => exact ⟨0, rfl, Nat.zero_le _, rfl, OwnB.nil _ _, Below.refl _ _⟩
  case round =>
    obtain ⟨k, rfl, hk, hal, hown, hbw⟩ := hrel
    have hwsz : w.heap.size ≤ wr.heap.size := hbw.size
    by_cases hlt : k < s.size
    · have hltd : decide (k < s.size) = true := by simpa using hlt
      have hts := take_snoc s k hlt
      have h256 := s[k].toNat_lt
      by_cases h95 : s[k] = 95
      · have hx : s[k].toNat = 95 := by rw [h95]; rfl
        rw [h95] at hts
        have hgo := gone_snoc_eq (s.data.toList.take k)
        rw [← hts] at hgo
        have HG := Lib.hid hgo
        have HO := Lib.hid hown
        clear hts hgo h95 hown
        go_wp2
        go_roundw
        case rel => exact ⟨k + 1, by go_num, by omega, by show _ = true; rw [HG.out]; exact hal.out, by rw [HG.out]; exact HO.out, hbw⟩
        case measure => simp [intOf]; omega
      · have hx : ((s[k].toNat : Int) == 95) = false := neC (k := 95) (by omega) h95
        have hgo := gone_snoc_ne (s.data.toList.take k) h95
        rw [← hts] at hgo
        have c1 := fun W => value_any s[k] W
        have hal2 := M.allD_snoc b (M.gone (s.data.toList.take k)) s[k]
        rw [hal.out, Bool.true_and, ← hgo] at hal2
        have hdle := M.dv_le s[k]
        have hgl : (M.gone (s.data.toList.take k)).length ≤ 1000 := by
          have h1 := M.gone_len (s.data.toList.take k)
          rw [List.length_take] at h1; omega
        have HG := Lib.hid hgo
        have HA := Lib.hid hal2
        clear hts hgo h95 hal2 hal
        generalize hc : s[k] = c at *
        generalize hG : M.gone (s.data.toList.take k) = G at *
        by_cases hd : M.dv c < b
        · have hdd : decide (b ≤ M.dv c) = false := by simp; omega
          rw [decide_eq_true hd] at HA
          clear hd
          generalize M.dv c = d at *
          have hq : s[k].toNat = c.toNat := by rw [hc]
          have HO := Lib.hid hown
          clear hown hG hc
          generalize hN : c.toNat = n at *
          go_wp2_with fail
          refine (c1 _).mono ?_
          rintro r w' ⟨rfl, rfl⟩
          have hown := HO.out
          unfold OwnB at hown
          clear c1
          go_wp2_with (first | (at_builtin; refine wpList_append_own _ rfl (.tmp 24) (.tmp 28) 58 rfl w.heap.size 5 i0 (.int .u8 0) 1 1 Tryz.underlying58 hi hz0 hz1 hz2 rfl (by decide) _ G.length (G.map bc) rfl (World.ownsRow.alloc hown _) ⟨wr.heap.size, 0, none⟩ 1 1 [.int .u8 (n : Int)] rfl rfl (bc_news _ _ _) (bc_one _) (by unfold maxLen; omega) (by omega) (by simp; omega) ?_; intro v5 w5 hown5 hgrow5 _; have hb5 : Below w.heap.size w w5 := (hbw.alloc hwsz _).grown hgrow5 (by simp; omega) (fun k hk => (World.ownsRow.lt hown k hk).1); have HO5 := Lib.hid hown5; clear hgrow5 hown5 hown) | fail)
          go_roundw
          case rel => exact ⟨k + 1, by go_num, by omega, HA.out, by rw [HG.out]; subst hN; exact OwnB.snoc HO5.out, hb5⟩
          case measure => simp [intOf]; omega
        · have hdd : decide (b ≤ M.dv c) = true := by simp; omega
          rw [decide_eq_false hd] at HA
          clear hd
          generalize M.dv c = d at *
          have hq : s[k].toNat = c.toNat := by rw [hc]
          have HO := Lib.hid hown
          clear hown hG hc
          generalize hN : c.toNat = n at *
          go_wp2_with fail
          refine (c1 _).mono ?_
          rintro r w' ⟨rfl, rfl⟩
          clear c1
          go_wp2
          go_ret2
          refine ⟨?_, hbw⟩
          rw [← HV.out]
          unfold bareV
          rw [if_neg]
          · rfl
          · rw [← List.take_append_drop (k + 1) s.data.toList, M.gone_append, M.allD_append, HA.out]
            simp
    · obtain rfl : k = s.size := by omega
      have hltd : decide (s.size < s.size) = false := by simp
      rw [take_all] at hal hown
      have hv := HV.out
      unfold bareV at hv
      rw [if_pos hal.out] at hv
      have HV2 := Lib.hid hv
      have hgl : (M.gone s.data.toList).length ≤ 1000 := by
        have h1 := M.gone_len s.data.toList
        rw [← sz_list] at h1; omega
      clear hv HV hal
      generalize M.gone s.data.toList = G at *
      rcases hown.form with ⟨h1, h2⟩ | ⟨g, cap, h1⟩
      · rw [h1]
        subst h2
        have hcv : (convert 58 9 (.slice none 0 0)).run Tryz.prog wr = .ok (.string (bA [])) wr := Lib.run_convert_nil_bytes wr 58 9 5 0 Tryz.underlying58 Tryz.underlying5 Tryz.underlying9
        clear hown h1
        go_wp2
        go_ret2
        refine ⟨?_, hbw⟩
        rw [← HV2.out]
        rfl
      · rw [h1] at hown
        rw [h1]
        have hcv := hown.conv
        clear hown h1
        go_wp2
        go_ret2
        refine ⟨?_, hbw⟩
        rw [← HV2.out]
        cases G with
        | nil => rfl
        | cons c r => simp
end Go.Proofs.YtocegiffbgnogaaGreatDoor
