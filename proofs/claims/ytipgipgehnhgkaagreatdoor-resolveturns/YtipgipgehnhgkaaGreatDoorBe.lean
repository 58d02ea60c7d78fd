/- Walks of the document's sign, find. Walk of the document's bare. Walk of the document's sixty. Walks of the document's sixty, whole; Int11. -/
import Derived.Test.YtipgipgehnhgkaaGreatDoorBc
import Derived.Test.YtipgipgehnhgkaaGreatDoorBd
import Derived.Lib.BufferRead
set_option linter.unusedVariables false
namespace Go.Proofs.YtipgipgehnhgkaaGreatDoor
open Go.RowKit

theorem head_43 {c : UInt8} {r : List UInt8} (h : c = 43) : M.isNeg (c :: r) = false ∧ M.body (c :: r) = r := by
  subst h
  have h1 : M.isNeg (43 :: r) = false := by simp [M.isNeg]
  refine ⟨h1, ?_⟩
  unfold M.body M.unplus
  rw [h1]; simp
theorem head_45 {c : UInt8} {r : List UInt8} (h : c = 45) : M.isNeg (c :: r) = true ∧ M.body (c :: r) = r := by
  subst h
  refine ⟨M.isNeg_cons r, ?_⟩
  unfold M.body
  rw [if_pos (M.isNeg_cons r), M.unsign_cons]
theorem head_else {c : UInt8} {r : List UInt8} (h1 : c ≠ 43) (h2 : c ≠ 45) : M.isNeg (c :: r) = false ∧ M.body (c :: r) = c :: r := by
  have h3 : M.isNeg (c :: r) = false := by simp [M.isNeg, h2]
  refine ⟨h3, ?_⟩
  unfold M.body M.unplus
  rw [h3]; simp [h1]
set_option maxRecDepth 100000 in
set_option maxHeartbeats 1000000 in
theorem rsign_any (s : ByteArray) (w : World) (hs : s.size ≤ 1000) :
    Calls Tryz.prog 65 #[.string s] w fun e w' => e = .returned (.tuple #[.string (bA (M.body s.data.toList)), .bool (M.isNeg s.data.toList)]) ∧ Below w.heap.size w w' := by
  by_cases h0 : 0 < s.size
  · have hl := drop_cons s 0 h0
    rw [List.drop_zero] at hl
    have hx : bA (s.data.toList.drop 1) = s.extract 1 s.size := by symm; apply eq_bA; rw [Lib.extract_to_end]
    have hd : decide (0 < s.size) = true := by simpa using h0
    have hz : (1 : Int) ≤ (s.size : Int) := by omega
    have hz1 : 1 ≤ s.size := by omega
    have h256 := s[0].toNat_lt
    by_cases h43 : s[0] = 43
    · obtain ⟨e1, e2⟩ := head_43 (r := s.data.toList.drop 1) h43
      rw [← hl] at e1 e2
      rw [e1, e2, hx]
      have g : s[0].toNat = 43 := by rw [h43]; rfl
      clear e1 e2 hl hx h43
      go_enter Tryz.func65, Tryz.ntmps65
      go_wp2
      go_quiet (fail)
      go_wp2
      go_ret2
      exact ⟨rfl, below_dN (Below.refl _ _) _⟩
    · by_cases h45 : s[0] = 45
      · obtain ⟨e1, e2⟩ := head_45 (r := s.data.toList.drop 1) h45
        rw [← hl] at e1 e2
        rw [e1, e2, hx]
        have g : s[0].toNat = 45 := by rw [h45]; rfl
        clear e1 e2 hl hx h43 h45
        go_enter Tryz.func65, Tryz.ntmps65
        go_wp2
        go_quiet (fail)
        go_wp2
        go_ret2
        exact ⟨rfl, below_dN (Below.refl _ _) _⟩
      · obtain ⟨e1, e2⟩ := head_else (r := s.data.toList.drop 1) h43 h45
        rw [← hl] at e1 e2
        rw [e1, e2, bA_of]
        have g1 : ((s[0].toNat : Int) == 43) = false := neC (k := 43) (by omega) h43
        have g2 : ((s[0].toNat : Int) == 45) = false := neC (k := 45) (by omega) h45
        clear e1 e2 hl hx h43 h45
        go_enter Tryz.func65, Tryz.ntmps65
        go_wp2
        go_ret2
        exact ⟨rfl, Below.refl _ _⟩
  · have hd : decide (0 < s.size) = false := by simpa using h0
    have hz : s.data.toList = [] := List.eq_nil_of_length_eq_zero (by rw [← sz_list]; omega)
    have e : s = ⟨#[]⟩ := eq_bA hz
    subst e
    clear hz h0 hs hd
    go_enter Tryz.func65, Tryz.ntmps65
    go_wp2
    go_ret2
    exact ⟨rfl, Below.refl _ _⟩

set_option maxRecDepth 100000 in
theorem rfind_no (s : ByteArray) (w : World) (hs : s.size ≤ 1000) (h : ∀ c ∈ s.data.toList, c ≠ 58) :
    Calls Tryz.prog 74 #[.string s, .int .u8 58] w fun e w' => e = .returned (.int .i64 (-1)) ∧ w = w' := by
  have H := Lib.hid h
  clear h
  go_enter Tryz.func74, Tryz.ntmps74
  go_wp2
  go_loop [5] (fun i => ∃ k : Nat, i = .int .i64 k ∧ k ≤ s.size) (fun i => s.size - (intOf i).toNat)
  case atStart => exact ⟨0, rfl, Nat.zero_le _⟩
  case round =>
    obtain ⟨k, rfl, hk⟩ := hrel
    by_cases hlt : k < s.size
    · have hltd : decide (k < s.size) = true := by simpa using hlt
      have hne : ((s[k].toNat : Int) == 58) = false := neC (k := 58) (by omega) (H.out _ (List.mem_of_getElem? (get_list s k hlt)))
      go_wp2
      go_round
      case rel => exact ⟨k + 1, by go_num, by omega⟩
      case measure => simp [intOf]; omega
    · obtain rfl : k = s.size := by omega
      have hltd : decide (s.size < s.size) = false := by simp
      go_wp2
      go_ret
      exact ⟨rfl, rfl⟩
set_option maxRecDepth 100000 in
theorem rfind_yes (s : ByteArray) (D r : List UInt8) (w : World) (hs : s.size ≤ 1000) (he : s.data.toList = D ++ 58 :: r) (h : ∀ c ∈ D, c ≠ 58) :
    Calls Tryz.prog 74 #[.string s, .int .u8 58] w fun e w' => e = .returned (.int .i64 (D.length : Nat)) ∧ w = w' := by
  have hsz : D.length < s.size := by rw [sz_list, he]; simp
  have hat : s[D.length] = 58 := by
    have := get_list s D.length hsz
    rw [he] at this
    simpa using this.symm
  have hlow : ∀ k, k < D.length → (hk' : k < s.size) → s[k] ≠ 58 := by
    intro k hk hk'
    have := get_list s k hk'
    rw [he, List.getElem?_append_left hk] at this
    exact h _ (List.mem_of_getElem? this)
  have HL := Lib.hid hlow
  have hat2 : s[D.length].toNat = 58 := by rw [hat]; rfl
  clear h he hlow hat
  generalize D.length = n at *
  go_enter Tryz.func74, Tryz.ntmps74
  go_wp2
  go_loop [5] (fun i => ∃ k : Nat, i = .int .i64 k ∧ k ≤ n) (fun i => s.size - (intOf i).toNat)
  case atStart => exact ⟨0, rfl, Nat.zero_le _⟩
  case round =>
    obtain ⟨k, rfl, hk⟩ := hrel
    have hltd : decide (k < s.size) = true := by simp; omega
    by_cases hlt : k < n
    · have hks : k < s.size := by omega
      have hne : ((s[k].toNat : Int) == 58) = false := neC (k := 58) (by omega) (HL.out k hlt hks)
      clear hat2
      go_wp2
      go_round
      case rel => exact ⟨k + 1, by go_num, by omega⟩
      case measure => simp [intOf]; omega
    · obtain rfl : k = n := by omega
      go_wp2
      go_ret
      exact ⟨rfl, rfl⟩
end Go.Proofs.YtipgipgehnhgkaaGreatDoor

namespace Go.Proofs.YtipgipgehnhgkaaGreatDoor
open Go.RowKit Go.Lib

def bc (c : UInt8) : Value := .int .u8 (c.toNat : Int)
/-- A row of bytes that the call has made. -/
def OwnB (w : World) (B : Nat) (v : Value) (l : List UInt8) : Prop := w.ownsRow B 5 1 v l.length (l.map bc)
theorem OwnB.nil (w : World) (B : Nat) : OwnB w B (.slice none 0 0) [] := World.ownsRow_nil _ _ _ _
theorem OwnB.form {w : World} {B : Nat} {v : Value} {l : List UInt8} (h : OwnB w B v l) : (v = .slice none 0 0 ∧ l = []) ∨ ∃ g cap, v = .slice (some ⟨g, 0, none⟩) l.length cap := by
  rcases h.2 with ⟨h1, h2⟩ | ⟨g, cap, cur, h1, hb, _⟩
  · exact Or.inl ⟨h1, List.eq_nil_of_length_eq_zero h2⟩
  · exact Or.inr ⟨g, cap, h1⟩
theorem OwnB.cell {w : World} {B g cap : Nat} {l : List UInt8} (h : OwnB w B (.slice (some ⟨g, 0, none⟩) l.length cap) l) (i : Nat) (hi : i < l.length) : w.cell? ⟨g, i, none⟩ = some (.int .u8 (l[i].toNat : Int)) := by
  have := World.ownsRow.cellAt h i (by omega)
  rw [this, List.getElem?_map, List.getElem?_eq_getElem hi]; rfl
theorem OwnB.conv {w : World} {B g cap : Nat} {l : List UInt8} (h : OwnB w B (.slice (some ⟨g, 0, none⟩) l.length cap) l) : (convert 22 9 (.slice (some ⟨g, 0, none⟩) l.length cap)).run Tryz.prog w = .ok (.string (bA l)) w := by
  refine run_convert_bytes_back w 22 9 5 ⟨g, 0, none⟩ cap l Tryz.underlying22 Tryz.underlying5 Tryz.underlying9 ?_
  intro j hj
  rw [Addr.add_lit, Nat.zero_add, h.cell j hj]
theorem bc_one (p : Nat) : ∀ u ∈ [Value.int .u8 (p : Int)], u.oneCell' = true := by intro u hu; rw [List.mem_singleton.1 hu]; rfl
theorem bc_news (w : World) (p : Nat) (t : TypeId) : ∀ (j : Nat) (u : Value), [Value.int .u8 (p : Int)][j]? = some u → (w.alloc (.cells #[.int .u8 (p : Int)] t)).cell? ((⟨w.heap.size, 0, none⟩ : Addr).add j) = some u := by
  intro j u hj
  match j, hj with
  | 0, hj => simp at hj; subst hj; simp [Addr.add]
  | n + 1, hj => simp at hj
theorem OwnB.snoc {w : World} {B : Nat} {v : Value} {l : List UInt8} {c : UInt8} (h : w.ownsRow B 5 1 v (l.length + 1) (l.map bc ++ [.int .u8 (c.toNat : Int)])) : OwnB w B v (l ++ [c]) := by
  unfold OwnB; rw [List.length_append, List.map_append]; exact h
/-- What bare answers. -/
def bareV (b : Nat) (l : List UInt8) : Value := if M.allD b (M.gone l) = true then .tuple #[.string (bA (M.gone l)), .bool (!(M.gone l).isEmpty)] else .tuple #[.string ⟨#[]⟩, .bool false]
theorem gone_snoc_eq (l : List UInt8) : M.gone (l ++ [95]) = M.gone l := by rw [M.gone_append]; simp [M.gone]
theorem gone_snoc_ne (l : List UInt8) {c : UInt8} (h : c ≠ 95) : M.gone (l ++ [c]) = M.gone l ++ [c] := by rw [M.gone_append]; simp [M.gone, h]
set_option maxRecDepth 100000 in
set_option maxHeartbeats 2000000 in
theorem rbare_any (s : ByteArray) (b : Nat) (w : World) (hs : s.size ≤ 1000) (hb : b ≤ 16) :
    Calls Tryz.prog 67 #[.string s, .int .i64 b] w fun e w' => e = .returned (bareV b s.data.toList) ∧ Below w.heap.size w w' := by
  obtain ⟨V, hV⟩ : ∃ V, bareV b s.data.toList = V := ⟨_, rfl⟩
  rw [hV]
  have HV := Lib.hid hV
  clear hV
  obtain ⟨i0, hi, hz0, hz1, hz2⟩ := info_parts Tryz.info5
  go_enter Tryz.func67, Tryz.ntmps67
  go_wp2
  go_loopw [6, 7] (fun ov iv wr => ∃ k : Nat, iv = .int .i64 k ∧ k ≤ s.size ∧ Hid (M.allD b (M.gone (s.data.toList.take k)) = true) ∧ OwnB wr w.heap.size ov (M.gone (s.data.toList.take k)) ∧ Below w.heap.size w wr) (fun _ iv _ => s.size - (intOf iv).toNat)
  case atStart => exact ⟨0, rfl, Nat.zero_le _, rfl, OwnB.nil _ _, Below.refl _ _⟩
  case round =>
    obtain ⟨k, rfl, hk, hal, hown, hbw⟩ := hrel
    have hwsz : w.heap.size ≤ wr.heap.size := hbw.size
    by_cases hlt : k < s.size
    · have hltd : decide (k < s.size) = true := by simpa using hlt
      have hts := take_snoc s k hlt
      have h256 := s[k].toNat_lt
      by_cases h95 : s[k] = 95
      · have hx : s[k].toNat = 95 := by rw [h95]; rfl
        rw [h95] at hts
        have hgo := gone_snoc_eq (s.data.toList.take k)
        rw [← hts] at hgo
        have HG := Lib.hid hgo
        have HO := Lib.hid hown
        clear hts hgo h95 hown
        go_wp2
        go_roundw
        case rel => exact ⟨k + 1, by go_num, by omega, by show _ = true; rw [HG.out]; exact hal.out, by rw [HG.out]; exact HO.out, hbw⟩
        case measure => simp [intOf]; omega
      · have hx : ((s[k].toNat : Int) == 95) = false := neC (k := 95) (by omega) h95
        have hgo := gone_snoc_ne (s.data.toList.take k) h95
        rw [← hts] at hgo
        have c1 := fun W => value_any s[k] W
        have hal2 := M.allD_snoc b (M.gone (s.data.toList.take k)) s[k]
        rw [hal.out, Bool.true_and, ← hgo] at hal2
        have hdle := M.dv_le s[k]
        have hgl : (M.gone (s.data.toList.take k)).length ≤ 1000 := by
          have h1 := M.gone_len (s.data.toList.take k)
          rw [List.length_take] at h1; omega
        have HG := Lib.hid hgo
        have HA := Lib.hid hal2
        clear hts hgo h95 hal2 hal
        generalize hc : s[k] = c at *
        generalize hG : M.gone (s.data.toList.take k) = G at *
        by_cases hd : M.dv c < b
        · have hdd : decide (b ≤ M.dv c) = false := by simp; omega
          rw [decide_eq_true hd] at HA
          clear hd
          generalize M.dv c = d at *
          have hq : s[k].toNat = c.toNat := by rw [hc]
          have HO := Lib.hid hown
          clear hown hG hc
          generalize hN : c.toNat = n at *
          go_wp2_with fail
          refine (c1 _).mono ?_
          rintro r w' ⟨rfl, rfl⟩
          have hown := HO.out
          unfold OwnB at hown
          clear c1
          go_wp2_with (first | (at_builtin; refine wpList_append_own _ rfl (.tmp 24) (.tmp 28) 22 rfl w.heap.size 5 i0 (.int .u8 0) 1 1 Tryz.underlying22 hi hz0 hz1 hz2 rfl (by decide) _ G.length (G.map bc) rfl (World.ownsRow.alloc hown _) ⟨wr.heap.size, 0, none⟩ 1 1 [.int .u8 (n : Int)] rfl rfl (bc_news _ _ _) (bc_one _) (by unfold maxLen; omega) (by omega) (by simp; omega) ?_; intro v5 w5 hown5 hgrow5 _; have hb5 : Below w.heap.size w w5 := (hbw.alloc hwsz _).grown hgrow5 (by simp; omega) (fun k hk => (World.ownsRow.lt hown k hk).1); have HO5 := Lib.hid hown5; clear hgrow5 hown5 hown) | fail)
          go_roundw
          case rel => exact ⟨k + 1, by go_num, by omega, HA.out, by rw [HG.out]; subst hN; exact OwnB.snoc HO5.out, hb5⟩
          case measure => simp [intOf]; omega
        · have hdd : decide (b ≤ M.dv c) = true := by simp; omega
          rw [decide_eq_false hd] at HA
          clear hd
          generalize M.dv c = d at *
          have hq : s[k].toNat = c.toNat := by rw [hc]
          have HO := Lib.hid hown
          clear hown hG hc
          generalize hN : c.toNat = n at *
          go_wp2_with fail
          refine (c1 _).mono ?_
          rintro r w' ⟨rfl, rfl⟩
          clear c1
          go_wp2
          go_ret2
          refine ⟨?_, hbw⟩
          rw [← HV.out]
          unfold bareV
          rw [if_neg]
          · rfl
          · rw [← List.take_append_drop (k + 1) s.data.toList, M.gone_append, M.allD_append, HA.out]
            simp
    · obtain rfl : k = s.size := by omega
      have hltd : decide (s.size < s.size) = false := by simp
      rw [take_all] at hal hown
      have hv := HV.out
      unfold bareV at hv
      rw [if_pos hal.out] at hv
      have HV2 := Lib.hid hv
      have hgl : (M.gone s.data.toList).length ≤ 1000 := by
        have h1 := M.gone_len s.data.toList
        rw [← sz_list] at h1; omega
      clear hv HV hal
      generalize M.gone s.data.toList = G at *
      rcases hown.form with ⟨h1, h2⟩ | ⟨g, cap, h1⟩
      · rw [h1]
        subst h2
        have hcv : (convert 22 9 (.slice none 0 0)).run Tryz.prog wr = .ok (.string (bA [])) wr := Lib.run_convert_nil_bytes wr 22 9 5 0 Tryz.underlying22 Tryz.underlying5 Tryz.underlying9
        clear hown h1
        go_wp2
        go_ret2
        refine ⟨?_, hbw⟩
        rw [← HV2.out]
        rfl
      · rw [h1] at hown
        rw [h1]
        have hcv := hown.conv
        clear hown h1
        go_wp2
        go_ret2
        refine ⟨?_, hbw⟩
        rw [← HV2.out]
        cases G with
        | nil => rfl
        | cons c r => simp
end Go.Proofs.YtipgipgehnhgkaaGreatDoor

namespace Go.Proofs.YtipgipgehnhgkaaGreatDoor
open Go.RowKit

/-- What is said, a being read so far, with l behind it (nothing, or a colon and more). -/
def G (a : Nat) : List UInt8 → Option Nat
  | [] => some a
  | _ :: R => if M.fS 1 R = 6 then some (M.sx a 0 R) else none
def ansV : Option Nat → Value
  | some n => .tuple #[.string (tx (n : Int)), .bool true]
  | none => .tuple #[.string ⟨#[]⟩, .bool false]
theorem G_no (a : Nat) (P : List UInt8) (h : ∀ c ∈ P, c ≠ 58) : G a (58 :: P) = if M.pr P = true then G (a * 60 + M.val 10 P) [] else none := by
  show (if M.fS 1 P = 6 then some (M.sx a 0 P) else none) = _
  rw [M.fS_no P h, M.sx_no a P h]
  by_cases hp : M.pr P = true
  · rw [if_pos hp, if_pos hp, if_pos rfl]; rfl
  · rw [if_neg hp, if_neg hp, if_neg (by omega)]
theorem G_yes (a : Nat) (P r : List UInt8) (h : ∀ c ∈ P, c ≠ 58) : G a (58 :: (P ++ 58 :: r)) = if M.pr P = true then G (a * 60 + M.val 10 P) (58 :: r) else none := by
  show (if M.fS 1 (P ++ 58 :: r) = 6 then some (M.sx a 0 (P ++ 58 :: r)) else none) = _
  rw [M.fS_yes P r h, M.sx_yes a P r h]
  by_cases hp : M.pr P = true
  · rw [if_pos hp, if_pos hp]; rfl
  · rw [if_neg hp, if_neg hp, if_neg (by omega)]
/-- The tests of a part, one by one. -/
theorem pr_tests (B : ByteArray) : (M.pr B.data.toList = true ∧ M.okD 10 B.data.toList = true ∧ (B.size = 1 ∨ ∃ h : B.size = 2, B[0].toNat ≤ 53)) ∨ (M.pr B.data.toList = false ∧ (M.okD 10 B.data.toList = false ∨ (M.okD 10 B.data.toList = true ∧ (2 < B.size ∨ ∃ h : B.size = 2, 53 < B[0].toNat)))) := by
  by_cases hok : M.okD 10 B.data.toList = true
  · obtain ⟨hne, hal⟩ := (M.okD_iff _ _).1 hok
    have hs := sz_list B
    match hB : B.data.toList, hne with
    | [a], _ =>
      rw [hB] at hs hal
      have h1 : M.dv a < 10 := (M.allD_iff _ _).1 hal a (by simp)
      left
      exact ⟨by rw [M.pr1]; exact decide_eq_true h1, by rw [← hB]; exact hok, Or.inl hs⟩
    | [a, b], _ =>
      rw [hB] at hs hal
      have h1 : M.dv a < 10 := (M.allD_iff _ _).1 hal a (by simp)
      have h2 : M.dv b < 10 := (M.allD_iff _ _).1 hal b (by simp)
      have hs2 : B.size = 2 := hs
      have h0 : B[0] = a := by
        have := get_list B 0 (by omega)
        rw [hB] at this; simpa using this.symm
      obtain ⟨g1, g2, g3⟩ := M.dv_lt10 h1
      by_cases h6 : M.dv a < 6
      · left
        exact ⟨by rw [M.pr2, decide_eq_true h6, decide_eq_true h2]; rfl, by rw [← hB]; exact hok, Or.inr ⟨hs2, by rw [h0]; omega⟩⟩
      · right
        exact ⟨by rw [M.pr2, decide_eq_false h6]; rfl, Or.inr ⟨by rw [← hB]; exact hok, Or.inr ⟨hs2, by rw [h0]; omega⟩⟩⟩
    | a :: b :: c :: q, _ =>
      rw [hB] at hs
      right
      exact ⟨rfl, Or.inr ⟨by rw [← hB]; exact hok, Or.inl (by rw [hs]; simp)⟩⟩
  · right
    have hf : M.okD 10 B.data.toList = false := by simpa using hok
    refine ⟨?_, Or.inl hf⟩
    by_cases hp : M.pr B.data.toList = true
    · exact absurd (M.pr_facts hp).1 hok
    · simpa using hp
theorem grow_1000 {a k k' v : Nat} (h : a < 1000 ^ k) (hv : v < 1000) (hk : k + 1 ≤ k') : a * 60 + v < 1000 ^ k' := by
  refine Nat.lt_of_lt_of_le (m := 1000 ^ (k + 1)) ?_ (Nat.pow_le_pow_right (by omega) hk)
  rw [Nat.pow_succ]
  have h1 : 0 < 1000 ^ k := Nat.pow_pos (by omega)
  generalize 1000 ^ k = q at *
  omega
theorem room_1000 {a k : Nat} (h : a < 1000 ^ k) (hk : k ≤ 1000) : (tx (a : Int)).size ≤ 6000 := by
  have h1 : a < 10 ^ (3 * k + 1) := by
    refine Nat.lt_of_lt_of_le h ?_
    rw [Nat.pow_succ, Nat.pow_mul]
    exact Nat.le_mul_of_pos_right _ (by omega)
  have := tx_len (a : Int) (3 * k + 1) (by omega) h1
  omega
theorem ext_all (B : ByteArray) {n : Nat} (h : B.size = n) : B.extract 0 n = B := by
  subst h
  refine (eq_bA (l := B.data.toList) ?_).trans (bA_of B)
  rw [ByteArray.data_extract, Array.toList_extract, List.extract_eq_take_drop, List.drop_zero]
  simpa using take_all B
/-- What holds ahead of each round of sixty. -/
def XRel (s : ByteArray) (W : Option Nat) (w : World) (k a : Nat) (wr : World) : Prop :=
  (k ≤ s.size ∧ (s.data.toList.drop k = [] ∨ ∃ R, s.data.toList.drop k = 58 :: R)) ∧ a < 1000 ^ k ∧ G a (s.data.toList.drop k) = W ∧ Below w.heap.size w wr
set_option maxRecDepth 100000 in
set_option maxHeartbeats 8000000 in
theorem rsixty_loop (s : ByteArray) (D R0 : List UInt8) (w : World) (hs : s.size ≤ 1000) (h0 : 0 < s.size) (he : s.data.toList = D ++ 58 :: R0) (hD : ∀ c ∈ D, c ≠ 58) (hD0 : 0 < D.length) (hd0 : M.dv s[0] < 10) (hal : M.allD 10 (M.gone D) = true) (hne : M.gone D ≠ []) :
    Calls Tryz.prog 68 #[.string s] w fun e w' => e = .returned (ansV (G (M.val 10 (M.gone D)) (58 :: R0))) ∧ Below w.heap.size w w' := by
  have c1 := fun W => rfind_yes s D R0 W hs he hD
  have c2 := fun W => isDigit_any s[0] W
  rw [decide_eq_true hd0] at c2
  have hDs : D.length < s.size := by rw [sz_list, he]; simp
  have hx : s.extract 0 D.length = bA D := by
    apply eq_bA
    rw [ByteArray.data_extract, Array.toList_extract, List.extract_eq_take_drop, List.drop_zero, he]
    simp
  have hgl := M.gone_len D
  have c3 := fun W => rbare_any (bA D) 10 W (by rw [bA_size]; omega) (by omega)
  rw [bA_toList] at c3
  unfold bareV at c3
  rw [if_pos hal, show (!(M.gone D).isEmpty) = true by cases hh : M.gone D with | nil => exact absurd hh hne | cons c q => rfl] at c3
  have c4 := fun W => rnorm_list false (M.gone D) W ((M.okD_iff _ _).2 ⟨hne, hal⟩) (by omega)
  rw [show M.sgn false (M.val 10 (M.gone D)) = ((M.val 10 (M.gone D) : Nat) : Int) from rfl] at c4
  have ha0 : M.val 10 (M.gone D) < 1000 ^ D.length := Nat.lt_of_lt_of_le (M.val_lt 10 _ hal) (M.pow_le (by omega) hgl (by omega))
  have hdr : s.data.toList.drop D.length = 58 :: R0 := by rw [he]; simp
  obtain ⟨W, hW⟩ : ∃ W, G (M.val 10 (M.gone D)) (58 :: R0) = W := ⟨_, rfl⟩
  have hX : XRel s W w D.length (M.val 10 (M.gone D)) w := ⟨⟨by omega, Or.inr ⟨R0, hdr⟩⟩, ha0, by rw [hdr]; exact hW, Below.refl _ _⟩
  rw [hW]
  have HX := Lib.hid hX
  have h256 := s[0].toNat_lt
  clear hX hW hdr ha0 hgl hal hne hd0 he hD
  generalize M.val 10 (M.gone D) = a0 at *
  generalize bA (M.gone D) = BG at *
  generalize hBD : bA D = BD at *
  generalize hkk : D.length = k0 at *
  clear hBD hkk D R0
  have hk1 : decide ((k0 : Int) < 1) = false := by simp; omega
  go_enter Tryz.func68, Tryz.ntmps68
  go_wp2_with fail
  refine (c1 _).mono ?_
  rintro r w' ⟨rfl, rfl⟩
  go_wp2_with fail
  refine (c2 _).mono ?_
  rintro r w' ⟨rfl, rfl⟩
  go_wp2_with fail
  refine (c3 _).mono ?_
  rintro r w1 ⟨rfl, hb1⟩
  go_wp2_with fail
  refine (c4 _).mono ?_
  rintro r w' ⟨rfl, rfl⟩
  clear c1 c2 c3 c4 hx
  go_wp2_with fail
  go_loopw [4, 7] (fun kv nv wr => ∃ k a : Nat, kv = .int .i64 k ∧ nv = .string (tx (a : Int)) ∧ XRel s W w k a wr) (fun kv _ _ => s.size - (intOf kv).toNat)
  case atStart => exact ⟨k0, a0, rfl, rfl, HX.out.1, HX.out.2.1, HX.out.2.2.1, hb1⟩
  case round =>
    obtain ⟨k, a, rfl, rfl, ⟨hks, hdrop⟩, hak, hGW, hbw⟩ := hrel
    have hroom := room_1000 hak (by omega)
    rcases hdrop with hdrop | ⟨R, hdrop⟩
    · have hke : k = s.size := by
        have := congrArg List.length hdrop
        rw [List.length_drop, ← sz_list] at this; simp at this; omega
      subst hke
      rw [hdrop] at hGW
      have hGW2 : some a = W := hGW
      subst hGW2
      have hltd : decide (s.size < s.size) = false := by simp
      clear hGW hdrop hak hroom HX
      go_wp2
      go_ret2
      exact ⟨rfl, hbw⟩
    · have hlen := congrArg List.length hdrop
      rw [List.length_drop, ← sz_list, List.length_cons] at hlen
      have hlt : k < s.size := by omega
      have hltd : decide (k < s.size) = true := by simpa using hlt
      have hx : s.extract (k + 1) s.size = bA R := by
        apply eq_bA
        rw [Lib.extract_to_end, ← List.tail_drop, hdrop]; rfl
      have hRl : R.length + k + 1 = s.size := by omega
      have hRs : (bA R).size = R.length := bA_size R
      rw [hdrop] at hGW
      rcases M.split_at 58 R with hn | ⟨P, r, hPr, hP⟩
      · have cF := fun W => rfind_no (bA R) W (by omega) (by rw [bA_toList]; exact hn)
        rw [G_no a R hn] at hGW
        have hK : k + 1 + R.length ≤ s.size ∧ (s.data.toList.drop (k + 1 + R.length) = [] ∨ ∃ Q, s.data.toList.drop (k + 1 + R.length) = 58 :: Q) := ⟨by omega, Or.inl (List.drop_of_length_le (by rw [← sz_list]; omega))⟩
        have hG2 : s.data.toList.drop (k + 1 + R.length) = [] := List.drop_of_length_le (by rw [← sz_list]; omega)
        rw [← hG2] at hGW
        clear hG2 hlen hdrop hn
        have HAK := Lib.hid hak
        have HK := Lib.hid hK
        clear hak hK HX
        obtain ⟨BP, hBP⟩ : ∃ BP, bA R = BP := ⟨_, rfl⟩
        have hPl : R = BP.data.toList := by rw [← hBP, bA_toList]
        rw [hBP] at hx cF hRs
        obtain ⟨n, hnn⟩ : ∃ n, R.length = n := ⟨_, rfl⟩
        rw [hnn] at hGW HK hRs hRl
        rw [hPl] at hGW
        clear hBP hPl hnn
        have hx2 : BP.extract 0 n = BP := ext_all BP hRs
        have cD := fun W => rdigits_any BP W (by omega)
        rcases pr_tests BP with ⟨hp, hok, hsize⟩ | ⟨hp, hbad⟩
        · rw [if_pos hp] at hGW
          rw [hok] at cD
          have HAP := Lib.hid ((M.okD_iff _ _).1 hok).2
          have hv60 := (M.pr_facts hp).2.2.2.1
          obtain ⟨vP, hvv⟩ : ∃ vP, M.val 10 BP.data.toList = vP := ⟨_, rfl⟩
          rw [hvv] at hGW hv60
          have HVP := Lib.hid hvv
          have HA2 := Lib.hid (grow_1000 (k' := k + 1 + n) HAK.out (show vP < 1000 by omega) (by omega))
          have HG2 := Lib.hid hGW
          have cM := fun W => rmul_yes a 60 vP W hroom (by omega) (by omega)
          clear hvv hGW hp hok hroom
          generalize tx (a : Int) = A at *
          rcases hsize with hP1 | ⟨hP2, h53⟩
          · clear HAK
            have hsz : BP.size = 1 := hP1
            go_wp2_with fail
            refine (cF _).mono ?_
            rintro r w' ⟨rfl, rfl⟩
            go_wp2_with fail
            refine (cD _).mono ?_
            rintro r w' ⟨rfl, rfl⟩
            go_wp2
            go_loop [10, 11] (fun vv iv => ∃ i v : Nat, iv = .int .i64 i ∧ vv = .int .i64 v ∧ i ≤ BP.size ∧ v < 1000 ∧ Hid (M.val 10 (BP.data.toList.take i) = v)) (fun _ iv => BP.size - (intOf iv).toNat)
            case atStart => exact ⟨0, 0, rfl, rfl, Nat.zero_le _, by omega, rfl⟩
            case round =>
              obtain ⟨i, v, rfl, rfl, hi, hv, hst⟩ := hrel
              by_cases hlt : i < BP.size
              · have hltd : decide (i < BP.size) = true := by simpa using hlt
                have hdv : M.dv BP[i] < 10 := (M.allD_iff _ _).1 HAP.out _ (List.mem_of_getElem? (get_list BP i hlt))
                obtain ⟨g1, g2, g3⟩ := M.dv_lt10 hdv
                have hvs := M.val_snoc 10 (BP.data.toList.take i) BP[i]
                rw [← take_snoc BP i hlt, hst.out, g3] at hvs
                have hal : M.allD 10 (BP.data.toList.take (i + 1)) = true := by
                  rw [M.allD_iff]; intro c hc; exact (M.allD_iff _ _).1 HAP.out c (List.mem_of_mem_take hc)
                have hvl := M.val_lt 10 _ hal
                have hle : (BP.data.toList.take (i + 1)).length ≤ 2 := by rw [List.length_take]; omega
                have hvl2 : M.val 10 (BP.data.toList.take (i + 1)) < 100 := Nat.lt_of_lt_of_le hvl (Nat.pow_le_pow_right (by omega) hle)
                rw [hvs] at hvl2
                have HS := Lib.hid hvs
                clear hvs hvl hdv g3 hst hal hle cF cD cM
                obtain ⟨m, hm⟩ : ∃ m, BP[i].toNat = 48 + m := ⟨BP[i].toNat - 48, by omega⟩
                rw [hm, Nat.add_sub_cancel_left] at hvl2 HS
                rw [hm] at g1 g2
                go_wp2
                go_round
                case rel => exact ⟨i + 1, v * 10 + m, by go_num, by go_num, by omega, by omega, HS.out⟩
                case measure => simp [intOf]; omega
              · obtain rfl : i = BP.size := by omega
                have hltd : decide (BP.size < BP.size) = false := by simp
                have h1 := hst.out
                rw [take_all, HVP.out] at h1
                subst h1
                clear hst cF cD
                go_wp2_with fail
                refine (cM _).mono ?_
                rintro r w4 ⟨rfl, hb4⟩
                clear cM
                go_wp2
                go_roundw
                case rel => exact ⟨k + 1 + n, a * 60 + vP, by go_num, rfl, HK.out, HA2.out, HG2.out, hbw.trans (hb4.mono hbw.size)⟩
                case measure => have := HK.out; simp [intOf]; omega
          · have hq : decide ((53 : Int) < (BP[0].toNat : Int)) = false := by simp; omega
            clear HAK
            have hsz : BP.size = 2 := hP2
            go_wp2_with fail
            refine (cF _).mono ?_
            rintro r w' ⟨rfl, rfl⟩
            go_wp2_with fail
            refine (cD _).mono ?_
            rintro r w' ⟨rfl, rfl⟩
            go_wp2
            go_loop [10, 11] (fun vv iv => ∃ i v : Nat, iv = .int .i64 i ∧ vv = .int .i64 v ∧ i ≤ BP.size ∧ v < 1000 ∧ Hid (M.val 10 (BP.data.toList.take i) = v)) (fun _ iv => BP.size - (intOf iv).toNat)
            case atStart => exact ⟨0, 0, rfl, rfl, Nat.zero_le _, by omega, rfl⟩
            case round =>
              obtain ⟨i, v, rfl, rfl, hi, hv, hst⟩ := hrel
              by_cases hlt : i < BP.size
              · have hltd : decide (i < BP.size) = true := by simpa using hlt
                have hdv : M.dv BP[i] < 10 := (M.allD_iff _ _).1 HAP.out _ (List.mem_of_getElem? (get_list BP i hlt))
                obtain ⟨g1, g2, g3⟩ := M.dv_lt10 hdv
                have hvs := M.val_snoc 10 (BP.data.toList.take i) BP[i]
                rw [← take_snoc BP i hlt, hst.out, g3] at hvs
                have hal : M.allD 10 (BP.data.toList.take (i + 1)) = true := by
                  rw [M.allD_iff]; intro c hc; exact (M.allD_iff _ _).1 HAP.out c (List.mem_of_mem_take hc)
                have hvl := M.val_lt 10 _ hal
                have hle : (BP.data.toList.take (i + 1)).length ≤ 2 := by rw [List.length_take]; omega
                have hvl2 : M.val 10 (BP.data.toList.take (i + 1)) < 100 := Nat.lt_of_lt_of_le hvl (Nat.pow_le_pow_right (by omega) hle)
                rw [hvs] at hvl2
                have HS := Lib.hid hvs
                clear hvs hvl hdv g3 hst hal hle cF cD cM
                obtain ⟨m, hm⟩ : ∃ m, BP[i].toNat = 48 + m := ⟨BP[i].toNat - 48, by omega⟩
                rw [hm, Nat.add_sub_cancel_left] at hvl2 HS
                rw [hm] at g1 g2
                go_wp2
                go_round
                case rel => exact ⟨i + 1, v * 10 + m, by go_num, by go_num, by omega, by omega, HS.out⟩
                case measure => simp [intOf]; omega
              · obtain rfl : i = BP.size := by omega
                have hltd : decide (BP.size < BP.size) = false := by simp
                have h1 := hst.out
                rw [take_all, HVP.out] at h1
                subst h1
                clear hst cF cD
                go_wp2_with fail
                refine (cM _).mono ?_
                rintro r w4 ⟨rfl, hb4⟩
                clear cM
                go_wp2
                go_roundw
                case rel => exact ⟨k + 1 + n, a * 60 + vP, by go_num, rfl, HK.out, HA2.out, HG2.out, hbw.trans (hb4.mono hbw.size)⟩
                case measure => have := HK.out; simp [intOf]; omega
        · rw [hp] at hGW
          rw [if_neg (by simp)] at hGW
          have HW := hGW.symm
          clear hGW hroom HAK HK
          generalize tx (a : Int) = A at *
          rcases hbad with hok | ⟨hok, hP3 | ⟨hP2, h53⟩⟩
          · rw [hok] at cD
            clear hok hp
            subst HW
            go_wp2_with fail
            refine (cF _).mono ?_
            rintro r w' ⟨rfl, rfl⟩
            go_wp2_with fail
            refine (cD _).mono ?_
            rintro r w' ⟨rfl, rfl⟩
            go_wp2
            go_ret2
            exact ⟨rfl, hbw⟩
          · rw [hok] at cD
            clear hok hp
            have hlen : decide ((2 : Int) < (BP.size : Int)) = true := by simp; omega
            subst HW
            go_wp2_with fail
            refine (cF _).mono ?_
            rintro r w' ⟨rfl, rfl⟩
            go_wp2_with fail
            refine (cD _).mono ?_
            rintro r w' ⟨rfl, rfl⟩
            go_wp2
            go_ret2
            exact ⟨rfl, hbw⟩
          · rw [hok] at cD
            have hq : decide ((53 : Int) < (BP[0].toNat : Int)) = true := by simp; omega
            clear hok hp
            have hsz : BP.size = 2 := hP2
            subst HW
            go_wp2_with fail
            refine (cF _).mono ?_
            rintro r w' ⟨rfl, rfl⟩
            go_wp2_with fail
            refine (cD _).mono ?_
            rintro r w' ⟨rfl, rfl⟩
            go_wp2
            go_ret2
            exact ⟨rfl, hbw⟩
      · subst hPr
        have hRs3 : (P ++ 58 :: r).length = P.length + 1 + r.length := by simp; omega
        rw [hRs3] at hRs hRl
        have cF := fun W => rfind_yes (bA (P ++ 58 :: r)) P r W (by omega) (bA_toList _) hP
        rw [G_yes a P r hP] at hGW
        have hG2 : s.data.toList.drop (k + 1 + P.length) = 58 :: r := by
          rw [show k + 1 + P.length = k + (1 + P.length) by omega, ← List.drop_drop, hdrop, Nat.add_comm 1, List.drop_succ_cons]
          simp
        have hK : k + 1 + P.length ≤ s.size ∧ (s.data.toList.drop (k + 1 + P.length) = [] ∨ ∃ Q, s.data.toList.drop (k + 1 + P.length) = 58 :: Q) := ⟨by omega, Or.inr ⟨r, hG2⟩⟩
        rw [← hG2] at hGW
        have hx2 : (bA (P ++ 58 :: r)).extract 0 P.length = bA P := by
          apply eq_bA
          rw [ByteArray.data_extract, Array.toList_extract, List.extract_eq_take_drop, List.drop_zero, bA_toList]
          simp
        have hPs : (bA P).size = P.length := bA_size P
        have hPle : P.length ≤ (bA (P ++ 58 :: r)).size := by omega
        generalize bA (P ++ 58 :: r) = BR at *
        clear hG2 hlen hdrop hP hRs3
        have HAK := Lib.hid hak
        have HK := Lib.hid hK
        clear hak hK HX
        obtain ⟨BP, hBP⟩ : ∃ BP, bA P = BP := ⟨_, rfl⟩
        have hPl : P = BP.data.toList := by rw [← hBP, bA_toList]
        rw [hBP] at hx2 hPs
        obtain ⟨n, hnn⟩ : ∃ n, P.length = n := ⟨_, rfl⟩
        rw [hnn] at hGW HK hPs hPle cF hx2 hRs hRl
        rw [hPl] at hGW
        clear hBP hPl hnn

        have cD := fun W => rdigits_any BP W (by omega)
        rcases pr_tests BP with ⟨hp, hok, hsize⟩ | ⟨hp, hbad⟩
        · rw [if_pos hp] at hGW
          rw [hok] at cD
          have HAP := Lib.hid ((M.okD_iff _ _).1 hok).2
          have hv60 := (M.pr_facts hp).2.2.2.1
          obtain ⟨vP, hvv⟩ : ∃ vP, M.val 10 BP.data.toList = vP := ⟨_, rfl⟩
          rw [hvv] at hGW hv60
          have HVP := Lib.hid hvv
          have HA2 := Lib.hid (grow_1000 (k' := k + 1 + n) HAK.out (show vP < 1000 by omega) (by omega))
          have HG2 := Lib.hid hGW
          have cM := fun W => rmul_yes a 60 vP W hroom (by omega) (by omega)
          clear hvv hGW hp hok hroom
          generalize tx (a : Int) = A at *
          rcases hsize with hP1 | ⟨hP2, h53⟩
          · clear HAK
            have hsz : BP.size = 1 := hP1
            go_wp2_with fail
            refine (cF _).mono ?_
            rintro r w' ⟨rfl, rfl⟩
            go_wp2_with fail
            refine (cD _).mono ?_
            rintro r w' ⟨rfl, rfl⟩
            go_wp2
            go_loop [10, 11] (fun vv iv => ∃ i v : Nat, iv = .int .i64 i ∧ vv = .int .i64 v ∧ i ≤ BP.size ∧ v < 1000 ∧ Hid (M.val 10 (BP.data.toList.take i) = v)) (fun _ iv => BP.size - (intOf iv).toNat)
            case atStart => exact ⟨0, 0, rfl, rfl, Nat.zero_le _, by omega, rfl⟩
            case round =>
              obtain ⟨i, v, rfl, rfl, hi, hv, hst⟩ := hrel
              by_cases hlt : i < BP.size
              · have hltd : decide (i < BP.size) = true := by simpa using hlt
                have hdv : M.dv BP[i] < 10 := (M.allD_iff _ _).1 HAP.out _ (List.mem_of_getElem? (get_list BP i hlt))
                obtain ⟨g1, g2, g3⟩ := M.dv_lt10 hdv
                have hvs := M.val_snoc 10 (BP.data.toList.take i) BP[i]
                rw [← take_snoc BP i hlt, hst.out, g3] at hvs
                have hal : M.allD 10 (BP.data.toList.take (i + 1)) = true := by
                  rw [M.allD_iff]; intro c hc; exact (M.allD_iff _ _).1 HAP.out c (List.mem_of_mem_take hc)
                have hvl := M.val_lt 10 _ hal
                have hle : (BP.data.toList.take (i + 1)).length ≤ 2 := by rw [List.length_take]; omega
                have hvl2 : M.val 10 (BP.data.toList.take (i + 1)) < 100 := Nat.lt_of_lt_of_le hvl (Nat.pow_le_pow_right (by omega) hle)
                rw [hvs] at hvl2
                have HS := Lib.hid hvs
                clear hvs hvl hdv g3 hst hal hle cF cD cM
                obtain ⟨m, hm⟩ : ∃ m, BP[i].toNat = 48 + m := ⟨BP[i].toNat - 48, by omega⟩
                rw [hm, Nat.add_sub_cancel_left] at hvl2 HS
                rw [hm] at g1 g2
                go_wp2
                go_round
                case rel => exact ⟨i + 1, v * 10 + m, by go_num, by go_num, by omega, by omega, HS.out⟩
                case measure => simp [intOf]; omega
              · obtain rfl : i = BP.size := by omega
                have hltd : decide (BP.size < BP.size) = false := by simp
                have h1 := hst.out
                rw [take_all, HVP.out] at h1
                subst h1
                clear hst cF cD
                go_wp2_with fail
                refine (cM _).mono ?_
                rintro r w4 ⟨rfl, hb4⟩
                clear cM
                go_wp2
                go_roundw
                case rel => exact ⟨k + 1 + n, a * 60 + vP, by go_num, rfl, HK.out, HA2.out, HG2.out, hbw.trans (hb4.mono hbw.size)⟩
                case measure => have := HK.out; simp [intOf]; omega
          · have hq : decide ((53 : Int) < (BP[0].toNat : Int)) = false := by simp; omega
            clear HAK
            have hsz : BP.size = 2 := hP2
            go_wp2_with fail
            refine (cF _).mono ?_
            rintro r w' ⟨rfl, rfl⟩
            go_wp2_with fail
            refine (cD _).mono ?_
            rintro r w' ⟨rfl, rfl⟩
            go_wp2
            go_loop [10, 11] (fun vv iv => ∃ i v : Nat, iv = .int .i64 i ∧ vv = .int .i64 v ∧ i ≤ BP.size ∧ v < 1000 ∧ Hid (M.val 10 (BP.data.toList.take i) = v)) (fun _ iv => BP.size - (intOf iv).toNat)
            case atStart => exact ⟨0, 0, rfl, rfl, Nat.zero_le _, by omega, rfl⟩
            case round =>
              obtain ⟨i, v, rfl, rfl, hi, hv, hst⟩ := hrel
              by_cases hlt : i < BP.size
              · have hltd : decide (i < BP.size) = true := by simpa using hlt
                have hdv : M.dv BP[i] < 10 := (M.allD_iff _ _).1 HAP.out _ (List.mem_of_getElem? (get_list BP i hlt))
                obtain ⟨g1, g2, g3⟩ := M.dv_lt10 hdv
                have hvs := M.val_snoc 10 (BP.data.toList.take i) BP[i]
                rw [← take_snoc BP i hlt, hst.out, g3] at hvs
                have hal : M.allD 10 (BP.data.toList.take (i + 1)) = true := by
                  rw [M.allD_iff]; intro c hc; exact (M.allD_iff _ _).1 HAP.out c (List.mem_of_mem_take hc)
                have hvl := M.val_lt 10 _ hal
                have hle : (BP.data.toList.take (i + 1)).length ≤ 2 := by rw [List.length_take]; omega
                have hvl2 : M.val 10 (BP.data.toList.take (i + 1)) < 100 := Nat.lt_of_lt_of_le hvl (Nat.pow_le_pow_right (by omega) hle)
                rw [hvs] at hvl2
                have HS := Lib.hid hvs
                clear hvs hvl hdv g3 hst hal hle cF cD cM
                obtain ⟨m, hm⟩ : ∃ m, BP[i].toNat = 48 + m := ⟨BP[i].toNat - 48, by omega⟩
                rw [hm, Nat.add_sub_cancel_left] at hvl2 HS
                rw [hm] at g1 g2
                go_wp2
                go_round
                case rel => exact ⟨i + 1, v * 10 + m, by go_num, by go_num, by omega, by omega, HS.out⟩
                case measure => simp [intOf]; omega
              · obtain rfl : i = BP.size := by omega
                have hltd : decide (BP.size < BP.size) = false := by simp
                have h1 := hst.out
                rw [take_all, HVP.out] at h1
                subst h1
                clear hst cF cD
                go_wp2_with fail
                refine (cM _).mono ?_
                rintro r w4 ⟨rfl, hb4⟩
                clear cM
                go_wp2
                go_roundw
                case rel => exact ⟨k + 1 + n, a * 60 + vP, by go_num, rfl, HK.out, HA2.out, HG2.out, hbw.trans (hb4.mono hbw.size)⟩
                case measure => have := HK.out; simp [intOf]; omega
        · rw [hp] at hGW
          rw [if_neg (by simp)] at hGW
          have HW := hGW.symm
          clear hGW hroom HAK HK
          generalize tx (a : Int) = A at *
          rcases hbad with hok | ⟨hok, hP3 | ⟨hP2, h53⟩⟩
          · rw [hok] at cD
            clear hok hp
            subst HW
            go_wp2_with fail
            refine (cF _).mono ?_
            rintro r w' ⟨rfl, rfl⟩
            go_wp2_with fail
            refine (cD _).mono ?_
            rintro r w' ⟨rfl, rfl⟩
            go_wp2
            go_ret2
            exact ⟨rfl, hbw⟩
          · rw [hok] at cD
            clear hok hp
            have hlen : decide ((2 : Int) < (BP.size : Int)) = true := by simp; omega
            subst HW
            go_wp2_with fail
            refine (cF _).mono ?_
            rintro r w' ⟨rfl, rfl⟩
            go_wp2_with fail
            refine (cD _).mono ?_
            rintro r w' ⟨rfl, rfl⟩
            go_wp2
            go_ret2
            exact ⟨rfl, hbw⟩
          · rw [hok] at cD
            have hq : decide ((53 : Int) < (BP[0].toNat : Int)) = true := by simp; omega
            clear hok hp
            have hsz : BP.size = 2 := hP2
            subst HW
            go_wp2_with fail
            refine (cF _).mono ?_
            rintro r w' ⟨rfl, rfl⟩
            go_wp2_with fail
            refine (cD _).mono ?_
            rintro r w' ⟨rfl, rfl⟩
            go_wp2
            go_ret2
            exact ⟨rfl, hbw⟩
end Go.Proofs.YtipgipgehnhgkaaGreatDoor

namespace Go.Proofs.YtipgipgehnhgkaaGreatDoor
open Go.RowKit

theorem rsixty_no (s : ByteArray) (w : World) (hs : s.size ≤ 1000) (h : ∀ c ∈ s.data.toList, c ≠ 58) :
    Calls Tryz.prog 68 #[.string s] w fun e w' => e = .returned (ansV none) ∧ w = w' := by
  have c1 := fun W => rfind_no s W hs h
  clear h
  go_enter Tryz.func68, Tryz.ntmps68
  go_wp2_with fail
  refine (c1 _).mono ?_
  rintro r w' ⟨rfl, rfl⟩
  go_wp2
  go_ret2
  exact ⟨rfl, rfl⟩
set_option maxRecDepth 100000 in
set_option maxHeartbeats 1000000 in
theorem rsixty_bad (s : ByteArray) (D R0 : List UInt8) (w : World) (hs : s.size ≤ 1000) (h0 : 0 < s.size) (he : s.data.toList = D ++ 58 :: R0) (hD : ∀ c ∈ D, c ≠ 58) (hD0 : 0 < D.length) (hd0 : M.dv s[0] < 10) (hal : M.allD 10 (M.gone D) = false) :
    Calls Tryz.prog 68 #[.string s] w fun e w' => e = .returned (ansV none) ∧ Below w.heap.size w w' := by
  have c1 := fun W => rfind_yes s D R0 W hs he hD
  have c2 := fun W => isDigit_any s[0] W
  rw [decide_eq_true hd0] at c2
  have hDs : D.length < s.size := by rw [sz_list, he]; simp
  have hx : s.extract 0 D.length = bA D := by
    apply eq_bA
    rw [ByteArray.data_extract, Array.toList_extract, List.extract_eq_take_drop, List.drop_zero, he]
    simp
  have c3 := fun W => rbare_any (bA D) 10 W (by rw [bA_size]; omega) (by omega)
  rw [bA_toList] at c3
  unfold bareV at c3
  rw [if_neg (by rw [hal]; simp)] at c3
  clear hal hd0 he hD
  generalize hBD : bA D = BD at *
  generalize hkk : D.length = k0 at *
  clear hBD hkk D R0
  have hk1 : decide ((k0 : Int) < 1) = false := by simp; omega
  go_enter Tryz.func68, Tryz.ntmps68
  go_wp2_with fail
  refine (c1 _).mono ?_
  rintro r w' ⟨rfl, rfl⟩
  go_wp2_with fail
  refine (c2 _).mono ?_
  rintro r w' ⟨rfl, rfl⟩
  go_wp2_with fail
  refine (c3 _).mono ?_
  rintro r w1 ⟨rfl, hb1⟩
  clear c1 c2 c3 hx
  go_wp2
  go_ret2
  exact ⟨rfl, hb1⟩
theorem rsixty_any (c : UInt8) (r : List UInt8) (hl : r.length ≤ 990) (hc : M.dv c < 10) (h48 : c ≠ 48) : ∃ o : Option Nat, (∀ w, Calls Tryz.prog 68 #[.string (bA (c :: r))] w fun e w' => e = .returned (ansV o) ∧ Below w.heap.size w w') ∧ (M.fA r = 6 → o = some (M.num (c :: r))) ∧ (M.fA r ≠ 6 → o = none) := by
  have hsz : (bA (c :: r)).size ≤ 1000 := by rw [bA_size]; simp; omega
  have h0 : 0 < (bA (c :: r)).size := by rw [bA_size]; simp
  have hhead : (bA (c :: r))[0] = c := by
    have := get_list (bA (c :: r)) 0 h0
    rw [bA_toList] at this; simpa using this.symm
  have h95 : c ≠ 95 := M.ne95 hc (by omega)
  have h58 : c ≠ 58 := M.ne58 hc (by omega)
  have hB : M.fB (c :: r) = M.fA r := by rw [M.fB, if_neg h48, if_pos hc]
  rcases M.split_at 58 r with hn | ⟨D, R, rfl, hD⟩
  · refine ⟨none, fun w => (rsixty_no _ w hsz ?_).mono (fun e w' h => ⟨h.1, h.2 ▸ Below.refl _ _⟩), fun h => ?_, fun _ => rfl⟩
    · rw [bA_toList]
      intro x hx
      rcases List.mem_cons.1 hx with rfl | hx
      · exact h58
      · exact hn x hx
    · rw [M.fA_no r hn] at h
      split at h <;> omega
  · have hD' : ∀ x ∈ c :: D, x ≠ 58 := by
      intro x hx
      rcases List.mem_cons.1 hx with rfl | hx
      · exact h58
      · exact hD x hx
    have hall : M.allD 10 (M.gone (c :: D)) = M.allD 10 (M.gone D) := by
      rw [M.gone_ne _ h95, M.allD_cons, decide_eq_true hc, Bool.true_and]
    have he : (bA (c :: (D ++ 58 :: R))).data.toList = (c :: D) ++ 58 :: R := by rw [bA_toList]; rfl
    have hf := M.fA_yes D R hD
    by_cases ha : M.allD 10 (M.gone D) = true
    · rw [if_pos ha] at hf
      refine ⟨_, fun w => rsixty_loop _ (c :: D) R w hsz h0 he hD' (by simp) (by rw [hhead]; exact hc) (by rw [hall]; exact ha) (by rw [M.gone_ne _ h95]; simp), fun h => ?_, fun h => ?_⟩
      · rw [hf] at h
        show (if M.fS 1 R = 6 then some _ else none) = _
        rw [if_pos h]
        unfold M.num
        rw [hB, hf, h, if_neg (by omega), if_neg (by omega), if_neg (by omega), if_pos rfl]
        rw [show c :: (D ++ 58 :: R) = (c :: D) ++ 58 :: R from rfl, M.gone_append, M.gone_ne R (by decide), M.fS_gone (by omega : M.fS 1 R ≠ 0)]
        have hg58 : ∀ x ∈ M.gone (c :: D), x ≠ 58 := fun x hx => hD' x (M.mem_gone.1 hx).1
        rw [M.sx_yes 0 _ R hg58, Nat.zero_mul, Nat.zero_add]
      · rw [hf] at h
        show (if M.fS 1 R = 6 then some _ else none) = _
        rw [if_neg h]
    · rw [if_neg ha] at hf
      refine ⟨none, fun w => rsixty_bad _ (c :: D) R w hsz h0 he hD' (by simp) (by rw [hhead]; exact hc) (by rw [hall]; simpa using ha), fun h => by omega, fun _ => rfl⟩
end Go.Proofs.YtipgipgehnhgkaaGreatDoor
