/- The law UtfWrong: its walk. -/
import Derived.Test.YthlbeoakaebcpaaDoorLc
import Derived.Laws.AppendOwnNone
namespace Go.Proofs.YthlbeoakaebcpaaDoor
open Go.RowKit

/-- What is told of a slice of bytes that came in: so many bytes; of an empty one nothing else. -/
def InB (w : World) (a : Option Addr) (cap : Nat) (l : List UInt8) : Prop := l.length ≤ cap ∧ (a = none → l = [] ∧ cap = 0) ∧ (l ≠ [] → ∃ b off, a = some ⟨b, off, none⟩ ∧ HasBytes w b off l ∧ b < w.heap.size)

theorem bcell_one (l : List UInt8) : ∀ u ∈ l.map bcell, u.oneCell' = true := by
  intro u hu
  obtain ⟨x, _, rfl⟩ := List.mem_map.1 hu
  rfl
theorem has_news {w : World} {b off : Nat} {l : List UInt8} (h : HasBytes w b off l) : ∀ (j : Nat) (u : Value), (l.map bcell)[j]? = some u → w.cell? ((⟨b, off, none⟩ : Addr).add j) = some u := by
  intro j u hj
  have hlt : j < l.length := by have := (List.getElem?_eq_some_iff.1 hj).1; simpa using this
  rw [List.getElem?_map, List.getElem?_eq_getElem hlt, Option.map_some, Option.some.injEq] at hj
  rw [← hj, bcell_by8 l j hlt, Addr.add_lit]
  exact h j hlt
theorem own_has {w : World} {B : Nat} {v : Value} {l : List UInt8} (h : w.ownsRow B 5 1 v l.length (l.map bcell)) (hl : l ≠ []) : ∃ g cap, v = .slice (some ⟨g, 0, none⟩) l.length cap ∧ l.length ≤ cap ∧ B ≤ g ∧ g < w.heap.size ∧ HasBytes w g 0 l := by
  obtain ⟨h1, ⟨_, h2⟩ | ⟨g, cap, cur, hv, hg, hh, hc, hm, hsz, ht⟩⟩ := h
  · exact absurd (List.length_eq_zero_iff.1 h2) hl
  · refine ⟨g, cap, hv, hc, hg, lt_of_block hh, fun j hj => ?_⟩
    have := Lib.bytes_of_row hh (by rw [Nat.mul_one] at ht; rw [ht]; rfl) j hj
    rw [Addr.add_lit] at this
    rw [this, ← bcell_by8 l j hj]; rfl

/-- Bytes that are no scalar behind a marked text are refused where they begin. -/
theorem decode_wrong (e : Nat) (he : 1 ≤ e ∧ e ≤ 5) (cs : List Nat) (hs : ∀ c ∈ cs, M.IsScalar c) (hm : ∀ c ∈ cs, mayB c = true) (hl : cs.length ≤ 2000) (bad r : List UInt8) (hr : r.length ≤ 50) (hb0 : bad ≠ []) (hbl : bad.length ≤ 4) (hbad : (M.nx e (bad ++ r)).2 = 0) (h3 : e = 3 → ¬ (M.by8 (bad ++ r) 0 = 0 ∧ M.by8 (bad ++ r) 1 = 0))
    (g cap : Nat) (w : World) (hT : Tabs w) (hg : g < w.heap.size) (hcap : (M.encAll e (65279 :: cs) ++ bad ++ r).length ≤ cap) (hb : HasBytes w g 0 (M.encAll e (65279 :: cs) ++ bad ++ r)) :
    Calls Tryd.prog 13 #[.slice (some ⟨g, 0, none⟩) (M.encAll e (65279 :: cs) ++ bad ++ r).length cap] w fun q w' => q = badEnd (M.encAll e (65279 :: cs)).length ∧ Below w.heap.size w w' := by
  have hlb := M.encAll_le e (65279 :: cs)
  rw [List.length_cons] at hlb
  refine (decode_any g 0 cap _ w hT hb hg hcap (by rw [List.length_append, List.length_append]; omega)).mono ?_
  rintro q w' ⟨h, hbw⟩
  have hd : det (M.encAll e (65279 :: cs) ++ bad ++ r) = ((e : Int), (((M.enc1 e 65279).length : Nat) : Int)) := by
    rw [M.encAll_cons, List.append_assoc, List.append_assoc]
    refine det_bom e he _ (fun h3' => ?_)
    subst h3'
    by_cases hc : cs = []
    · subst hc; intro h; exact h3 rfl ⟨h.1, h.2.1⟩
    · intro h
      exact le_head cs (bad ++ r) hm hs hc ⟨h.1, h.2.1⟩
  rw [hd] at h
  simp only [Int.toNat_natCast] at h
  have S := M.Steps.enc e he cs hs (bad ++ r)
  have hdrop : (M.encAll e (65279 :: cs) ++ bad ++ r).drop (M.enc1 e 65279).length = M.encAll e cs ++ (bad ++ r) := by
    rw [M.encAll_cons, List.append_assoc, List.append_assoc, List.drop_left]
  rw [← hdrop] at S
  have hne : bad ++ r ≠ [] := by intro h; exact hb0 (List.append_eq_nil_iff.1 h).1
  refine ⟨?_, hbw⟩
  rw [h.bad S hbad hne, List.append_assoc, List.length_append, Nat.add_sub_cancel]

theorem badd1 (r : List UInt8) : (M.nx 1 ([255] ++ r)).2 = 0 := by
  rw [M.nx_1, nx8_bad _ (Or.inr (by rw [List.cons_append, M.by8_0]; decide))]
theorem badd1l (r : List UInt8) : (M.nx 1 ([192, 128] ++ r)).2 = 0 := by
  have hd : M.dN ([192, 128] ++ r) = (65533, 1) := by
    unfold M.dN
    rw [List.cons_append, List.cons_append, M.by8_0, M.by8_1]
    unfold Lib.decodeN
    rw [if_neg (by decide), if_pos ⟨by decide, by simp, by decide⟩, if_neg (by decide)]
  rw [M.nx_1, M.nx8, if_pos (Or.inr hd)]
theorem badd2 (r : List UInt8) : (M.nx 2 ([220, 1] ++ r)).2 = 0 := by
  have e : M.rd2 true ([220, 1] ++ r) 0 = 56321 := by unfold M.rd2; rw [List.cons_append, List.cons_append, M.by8_0, M.by8_1]; decide
  rw [M.nx_2, M.nx16, if_neg (by simp), e, if_neg (by omega), if_pos (Or.inl (by omega))]
theorem badd3 (r : List UInt8) : (M.nx 3 ([1, 223] ++ r)).2 = 0 := by
  have e : M.rd2 false ([1, 223] ++ r) 0 = 57089 := by unfold M.rd2; rw [List.cons_append, List.cons_append, M.by8_0, M.by8_1]; decide
  rw [M.nx_3, M.nx16, if_neg (by simp), e, if_neg (by omega), if_pos (Or.inl (by omega))]
theorem badd4 (r : List UInt8) : (M.nx 4 ([0, 17, 0, 0] ++ r)).2 = 0 := by
  have e : M.rd4 true ([0, 17, 0, 0] ++ r) = 1114112 := by unfold M.rd4; simp only [List.cons_append]; rw [M.by8_0, M.by8_1, M.by8_2, M.by8_3]; decide
  rw [M.nx_4, M.nx32, if_neg (by simp), e, if_pos (Or.inl (by omega))]
theorem badd4l (r : List UInt8) : (M.nx 4 ([0, 0, 216, 0] ++ r)).2 = 0 := by
  have e : M.rd4 true ([0, 0, 216, 0] ++ r) = 55296 := by unfold M.rd4; simp only [List.cons_append]; rw [M.by8_0, M.by8_1, M.by8_2, M.by8_3]; decide
  rw [M.nx_4, M.nx32, if_neg (by simp), e, if_pos (Or.inr (by omega))]
theorem badd5 (r : List UInt8) : (M.nx 5 ([0, 0, 17, 0] ++ r)).2 = 0 := by
  have e : M.rd4 false ([0, 0, 17, 0] ++ r) = 1114112 := by unfold M.rd4; simp only [List.cons_append]; rw [M.by8_0, M.by8_1, M.by8_2, M.by8_3]; decide
  rw [M.nx_5, M.nx32, if_neg (by simp), e, if_pos (Or.inl (by omega))]
theorem badd5l (r : List UInt8) : (M.nx 5 ([255, 223, 0, 0] ++ r)).2 = 0 := by
  have e : M.rd4 false ([255, 223, 0, 0] ++ r) = 57343 := by unfold M.rd4; simp only [List.cons_append]; rw [M.by8_0, M.by8_1, M.by8_2, M.by8_3]; decide
  rw [M.nx_5, M.nx32, if_neg (by simp), e, if_pos (Or.inr (by omega))]

set_option maxRecDepth 100000 in
set_option maxHeartbeats 4000000 in
/-- A text whose signs may not be, or too many bytes behind it. -/
theorem wrong_out (s : ByteArray) (a : Option Addr) (n cap : Nat) (x : Int) (low : Bool) (w : World) (hT : Tabs w) (hs : s.size ≤ maxLen) (hn : 50 < n) :
    Calls Tryd.prog 7 #[.string s, .slice a n cap, .int .u8 x, .bool low] w fun r w' => r = .returned (.bool true) ∧ Below w.heap.size w w' := by
  have hfew := fun w => few_any s w hs
  unfold maxLen at hs
  have dn : decide ((50 : Int) < (n : Int)) = true := by simp; omega
  go_enter Tryd.func7, Tryd.ntmps7
  go_wp2_with fail
  refine (known_any _ hT).mono ?_
  rintro r w1 ⟨rfl, hb⟩
  go_wp2_with fail
  refine (hfew _).mono ?_
  rintro r w2 ⟨⟨b, rfl, hf⟩, rfl⟩
  clear hf hfew
  cases b
  all_goals
    go_wp2
    go_ret
    exact ⟨rfl, hb⟩

set_option maxRecDepth 100000 in
set_option maxHeartbeats 1000000 in
theorem wrong_1 (s : ByteArray) (a : Option Addr) (cap : Nat) (l : List UInt8) (x : Int) (w : World) (hT : Tabs w) (hs : s.size ≤ maxLen) (hx : 0 ≤ x ∧ x ≤ 255) (hxe : x % 5 = 0) (hn : l.length ≤ 50) (hin : InB w a cap l) :
    Calls Tryd.prog 7 #[.string s, .slice a l.length cap, .int .u8 x, .bool false] w fun r w' => r = .returned (.bool true) ∧ Below w.heap.size w w' := by
  have hfew := fun w => few_any s w hs
  unfold maxLen at hs
  have dn : decide ((50 : Int) < (l.length : Int)) = false := by simp; omega
  obtain ⟨i0, hi, hz0, hz1, hz2⟩ := info_parts Tryd.info5
  go_enter Tryd.func7, Tryd.ntmps7
  go_wp2_with fail
  refine (known_any _ hT).mono ?_
  rintro r w1 ⟨rfl, hb⟩
  have hT1 := hT.below hb
  go_wp2_with fail
  refine (hfew _).mono ?_
  rintro r w2 ⟨⟨b, rfl, hf⟩, rfl⟩
  cases b with
  | false =>
    clear hf hfew
    go_wp2
    go_ret
    exact ⟨rfl, hb⟩
  | true =>
    obtain ⟨hs3, cs, hw, hm⟩ := hf rfl
    have HM := Lib.hid hm
    have HW := Lib.hid hw
    have hcl := M.wf_len hw
    rw [← sz_list] at hcl
    clear hm hw hf hfew
    go_wp2_with fail
    obtain ⟨W, hWe⟩ : ∃ W, W = (w1.alloc (.cells #[.int .u8 255] 5)) := ⟨_, rfl⟩
    have hbW : Below w1.heap.size w1 W := by rw [hWe]; exact ((Below.refl w1.heap.size w1).alloc (Nat.le_refl _) _)
    have hBad : HasBytes W (w1.heap.size) 0 [255] := by
      rw [hWe]
      have h := HasBytes.lit w1 [255]
      have hz : w1.heap.size = w1.heap.size := by simp
      rw [hz] at h
      exact h
    have hgW : w1.heap.size < W.heap.size := by rw [hWe]; simp
    rw [← hWe]
    clear hWe
    obtain ⟨gb, hgb⟩ : ∃ gb, gb = w1.heap.size := ⟨_, rfl⟩
    rw [← hgb] at hBad hgW ⊢
    clear hgb
    have hTW := hT1.below hbW
    have hb0W := hb.trans (hbW.mono hb.size)
    have hinW : l ≠ [] → ∃ b off, a = some ⟨b, off, none⟩ ∧ HasBytes W b off l ∧ b < W.heap.size := fun hne => by
      obtain ⟨b, off, h1, h2, h3⟩ := hin.2.2 hne
      exact ⟨b, off, h1, h2.below h3 hb0W, by have := hb0W.size; omega⟩
    have hnil := hin.2.1
    have hlc := hin.1
    clear hin hb hbW hT1 hT
    have c1 := encode_ne 1 (by omega) (bomS ++ s) (65279 :: cs) W hTW (by rw [append_sz, show bomS.size = 3 from rfl]; omega) (wf_bom_s HW.out) (by simp)
    unfold bomS at c1
    refine c1.mono ?_
    rintro r w3 ⟨g, rfl, hg1, hg2, hB, hb3⟩
    have c2 := fun gg cp w' hT' hg hc' hb' => decode_wrong 1 (by omega) cs HW.out.1 HM.out (by omega) [255] l hn (by simp) (by simp) (badd1 l) (by intro h; omega) gg cp w' hT' hg hc' hb'
    unfold badEnd at c2
    have hT3 := hTW.below hb3
    have hb03 := hb0W.trans (hb3.mono hb0W.size)
    have hBad3 := hBad.below hgW hb3
    have hgb3 : gb < w3.heap.size := by have := hb3.size; omega
    have hin3 : l ≠ [] → ∃ b off, a = some ⟨b, off, none⟩ ∧ HasBytes w3 b off l ∧ b < w3.heap.size := fun hne => by
      obtain ⟨b, off, h1, h2, h3⟩ := hinW hne
      exact ⟨b, off, h1, h2.below h3 hb3, by have := hb3.size; omega⟩
    have hLb := M.encAll_le 1 (65279 :: cs)
    rw [List.length_cons] at hLb
    generalize hLL : M.encAll 1 (65279 :: cs) = LL at *
    clear hLL c1 hBad hinW hb3 hTW hb0W hgW
    have hLb2 : LL.length ≤ 1300 := by omega
    have HIN := Lib.hid hin3
    have HNIL := Lib.hid hnil
    have HLC := Lib.hid hlc
    clear hin3 hnil hlc hLb
    cases a with
    | none =>
      obtain ⟨rfl, rfl⟩ := HNIL.out rfl
      go_wp2_with (first | (at_builtin; refine wpList_append_own _ rfl (.const (.slice none 0 0)) (.tmp 53) 22 rfl w3.heap.size 5 i0 (.int .u8 0) 1 1 Tryd.underlying22 hi hz0 hz1 hz2 rfl (by decide) (.slice none 0 0) 0 [] rfl (World.ownsRow_nil _ _ _ _) ⟨g, 0, none⟩ LL.length LL.length (LL.map bcell) rfl (by simp) (has_news hB) (bcell_one _) (by unfold maxLen; omega) (by omega) (Nat.le_refl _) ?_; intro v4 w4 hown4 hgrow4 _; simp only [Nat.zero_add, List.nil_append] at hown4; have hb34 : Below w3.heap.size w3 w4 := (Below.refl _ _).grown hgrow4 (Nat.le_refl _) (fun k hk => absurd (show (none : Option Nat) = some k from hk) (by simp)); have hBad4 := hBad3.below hgb3 hb34; clear hgrow4) | (at_builtin; refine wpList_append_own _ rfl (.tmp 54) (.tmp 55) 22 rfl w3.heap.size 5 i0 (.int .u8 0) 1 1 Tryd.underlying22 hi hz0 hz1 hz2 rfl (by decide) v4 LL.length (LL.map bcell) rfl hown4 ⟨gb, 0, none⟩ 1 1 (([255] : List UInt8).map bcell) rfl (by simp) (has_news hBad4) (bcell_one _) (by unfold maxLen; omega) (by omega) hb34.size ?_; intro v5 w5 hown5 hgrow5 _; have hb35 : Below w3.heap.size w3 w5 := hb34.grown hgrow5 hb34.size (fun k hk => (hown4.lt k hk).1); clear hgrow5 hBad4 hown4) | (at_builtin; refine wpList_append_own_none rfl (.tmp 56) (.tmp 57) 22 rfl w3.heap.size 5 i0 1 Tryd.underlying22 hi v5 (LL.length + 1) (LL.map bcell ++ ([255] : List UInt8).map bcell) rfl hown5 rfl ?_; have hown6' : w5.ownsRow w3.heap.size 5 1 v5 (LL ++ [255] ++ []).length ((LL ++ [255] ++ []).map bcell) := (by simpa using hown5); obtain ⟨gg, cp, hv6, hcp, hgg1, hgg2, hBB⟩ := own_has hown6' (by simp); obtain ⟨N, hN⟩ : ∃ N, (LL ++ [255] ++ ([] : List UInt8)).length = N := ⟨_, rfl⟩; rw [hN] at hv6; rw [hv6]; have HN := Lib.hid hN; have HCP := Lib.hid hcp; have HBB := Lib.hid hBB; clear hown5 hown6' hv6 hN hcp hBB) | fail)
      have c3 := c2 gg cp w5 (hT3.below hb35) hgg2 HCP.out HBB.out
      rw [HN.out] at c3
      refine c3.mono ?_
      rintro r w7 ⟨rfl, hb7⟩
      have hb07 := (hb03.trans (hb35.mono hb03.size)).trans (hb7.mono (by have := hb03.size; have := hb35.size; omega))
      clear c2 c3
      go_wp2
      go_ret
      exact ⟨rfl, (hb07.alloc hb07.size _).alloc (by have := hb07.size; simp; omega) _⟩
    | some ad =>
      have hnews : ∀ W', Below w3.heap.size w3 W' → ∀ (j : Nat) (u : Value), (l.map bcell)[j]? = some u → W'.cell? (ad.add j) = some u := by
        intro W' hW' j u hj
        have hne : l ≠ [] := by intro h; rw [h] at hj; simp at hj
        obtain ⟨b, off, h1, h2, h3⟩ := HIN.out hne
        cases h1
        exact has_news (h2.below h3 hW') j u hj
      go_wp2_with (first | (at_builtin; refine wpList_append_own _ rfl (.const (.slice none 0 0)) (.tmp 53) 22 rfl w3.heap.size 5 i0 (.int .u8 0) 1 1 Tryd.underlying22 hi hz0 hz1 hz2 rfl (by decide) (.slice none 0 0) 0 [] rfl (World.ownsRow_nil _ _ _ _) ⟨g, 0, none⟩ LL.length LL.length (LL.map bcell) rfl (by simp) (has_news hB) (bcell_one _) (by unfold maxLen; omega) (by omega) (Nat.le_refl _) ?_; intro v4 w4 hown4 hgrow4 _; simp only [Nat.zero_add, List.nil_append] at hown4; have hb34 : Below w3.heap.size w3 w4 := (Below.refl _ _).grown hgrow4 (Nat.le_refl _) (fun k hk => absurd (show (none : Option Nat) = some k from hk) (by simp)); have hBad4 := hBad3.below hgb3 hb34; clear hgrow4) | (at_builtin; refine wpList_append_own _ rfl (.tmp 54) (.tmp 55) 22 rfl w3.heap.size 5 i0 (.int .u8 0) 1 1 Tryd.underlying22 hi hz0 hz1 hz2 rfl (by decide) v4 LL.length (LL.map bcell) rfl hown4 ⟨gb, 0, none⟩ 1 1 (([255] : List UInt8).map bcell) rfl (by simp) (has_news hBad4) (bcell_one _) (by unfold maxLen; omega) (by omega) hb34.size ?_; intro v5 w5 hown5 hgrow5 _; have hb35 : Below w3.heap.size w3 w5 := hb34.grown hgrow5 hb34.size (fun k hk => (hown4.lt k hk).1); clear hgrow5 hBad4 hown4) | (at_builtin; refine wpList_append_own _ rfl (.tmp 56) (.tmp 57) 22 rfl w3.heap.size 5 i0 (.int .u8 0) 1 1 Tryd.underlying22 hi hz0 hz1 hz2 rfl (by decide) v5 (LL.length + 1) (LL.map bcell ++ ([255] : List UInt8).map bcell) rfl hown5 ad l.length cap (l.map bcell) rfl (by simp) (hnews w5 hb35) (bcell_one _) (by unfold maxLen; omega) (by omega) hb35.size ?_; intro v6 w6 hown6 hgrow6 _; have hb36 : Below w3.heap.size w3 w6 := hb35.grown hgrow6 hb35.size (fun k hk => (hown5.lt k hk).1); have hown6' : w6.ownsRow w3.heap.size 5 1 v6 (LL ++ [255] ++ l).length ((LL ++ [255] ++ l).map bcell) := (by rw [List.length_append, List.length_append, List.map_append, List.map_append]; exact hown6); obtain ⟨gg, cp, hv6, hcp, hgg1, hgg2, hBB⟩ := own_has hown6' (by simp); obtain ⟨N, hN⟩ : ∃ N, (LL ++ [255] ++ l).length = N := ⟨_, rfl⟩; rw [hN] at hv6; rw [hv6]; have HN := Lib.hid hN; have HCP := Lib.hid hcp; have HBB := Lib.hid hBB; clear hgrow6 hown5 hown6 hown6' hv6 hN hcp hBB) | fail)
      have c3 := c2 gg cp w6 (hT3.below hb36) hgg2 HCP.out HBB.out
      rw [HN.out] at c3
      refine c3.mono ?_
      rintro r w7 ⟨rfl, hb7⟩
      have hb07 := (hb03.trans (hb36.mono hb03.size)).trans (hb7.mono (by have := hb03.size; have := hb36.size; omega))
      clear c2 c3 hnews
      go_wp2
      go_ret
      exact ⟨rfl, (hb07.alloc hb07.size _).alloc (by have := hb07.size; simp; omega) _⟩

set_option maxRecDepth 100000 in
set_option maxHeartbeats 1000000 in
theorem wrong_1l (s : ByteArray) (a : Option Addr) (cap : Nat) (l : List UInt8) (x : Int) (w : World) (hT : Tabs w) (hs : s.size ≤ maxLen) (hx : 0 ≤ x ∧ x ≤ 255) (hxe : x % 5 = 0) (hn : l.length ≤ 50) (hin : InB w a cap l) :
    Calls Tryd.prog 7 #[.string s, .slice a l.length cap, .int .u8 x, .bool true] w fun r w' => r = .returned (.bool true) ∧ Below w.heap.size w w' := by
  have hfew := fun w => few_any s w hs
  unfold maxLen at hs
  have dn : decide ((50 : Int) < (l.length : Int)) = false := by simp; omega
  obtain ⟨i0, hi, hz0, hz1, hz2⟩ := info_parts Tryd.info5
  go_enter Tryd.func7, Tryd.ntmps7
  go_wp2_with fail
  refine (known_any _ hT).mono ?_
  rintro r w1 ⟨rfl, hb⟩
  have hT1 := hT.below hb
  go_wp2_with fail
  refine (hfew _).mono ?_
  rintro r w2 ⟨⟨b, rfl, hf⟩, rfl⟩
  cases b with
  | false =>
    clear hf hfew
    go_wp2
    go_ret
    exact ⟨rfl, hb⟩
  | true =>
    obtain ⟨hs3, cs, hw, hm⟩ := hf rfl
    have HM := Lib.hid hm
    have HW := Lib.hid hw
    have hcl := M.wf_len hw
    rw [← sz_list] at hcl
    clear hm hw hf hfew
    go_wp2_with fail
    obtain ⟨W, hWe⟩ : ∃ W, W = ((w1.alloc (.cells #[.int .u8 255] 5)).alloc (.cells #[.int .u8 192, .int .u8 128] 5)) := ⟨_, rfl⟩
    have hbW : Below w1.heap.size w1 W := by rw [hWe]; exact (((Below.refl w1.heap.size w1).alloc (Nat.le_refl _) _).alloc (by simp; try omega) _)
    have hBad : HasBytes W (w1.heap.size + 1) 0 [192, 128] := by
      rw [hWe]
      have h := HasBytes.lit (w1.alloc (.cells #[.int .u8 255] 5)) [192, 128]
      have hz : (w1.alloc (.cells #[.int .u8 255] 5)).heap.size = w1.heap.size + 1 := by simp
      rw [hz] at h
      exact h
    have hgW : w1.heap.size + 1 < W.heap.size := by rw [hWe]; simp
    rw [← hWe]
    clear hWe
    obtain ⟨gb, hgb⟩ : ∃ gb, gb = w1.heap.size + 1 := ⟨_, rfl⟩
    rw [← hgb] at hBad hgW ⊢
    clear hgb
    have hTW := hT1.below hbW
    have hb0W := hb.trans (hbW.mono hb.size)
    have hinW : l ≠ [] → ∃ b off, a = some ⟨b, off, none⟩ ∧ HasBytes W b off l ∧ b < W.heap.size := fun hne => by
      obtain ⟨b, off, h1, h2, h3⟩ := hin.2.2 hne
      exact ⟨b, off, h1, h2.below h3 hb0W, by have := hb0W.size; omega⟩
    have hnil := hin.2.1
    have hlc := hin.1
    clear hin hb hbW hT1 hT
    have c1 := encode_ne 1 (by omega) (bomS ++ s) (65279 :: cs) W hTW (by rw [append_sz, show bomS.size = 3 from rfl]; omega) (wf_bom_s HW.out) (by simp)
    unfold bomS at c1
    refine c1.mono ?_
    rintro r w3 ⟨g, rfl, hg1, hg2, hB, hb3⟩
    have c2 := fun gg cp w' hT' hg hc' hb' => decode_wrong 1 (by omega) cs HW.out.1 HM.out (by omega) [192, 128] l hn (by simp) (by simp) (badd1l l) (by intro h; omega) gg cp w' hT' hg hc' hb'
    unfold badEnd at c2
    have hT3 := hTW.below hb3
    have hb03 := hb0W.trans (hb3.mono hb0W.size)
    have hBad3 := hBad.below hgW hb3
    have hgb3 : gb < w3.heap.size := by have := hb3.size; omega
    have hin3 : l ≠ [] → ∃ b off, a = some ⟨b, off, none⟩ ∧ HasBytes w3 b off l ∧ b < w3.heap.size := fun hne => by
      obtain ⟨b, off, h1, h2, h3⟩ := hinW hne
      exact ⟨b, off, h1, h2.below h3 hb3, by have := hb3.size; omega⟩
    have hLb := M.encAll_le 1 (65279 :: cs)
    rw [List.length_cons] at hLb
    generalize hLL : M.encAll 1 (65279 :: cs) = LL at *
    clear hLL c1 hBad hinW hb3 hTW hb0W hgW
    have hLb2 : LL.length ≤ 1300 := by omega
    have HIN := Lib.hid hin3
    have HNIL := Lib.hid hnil
    have HLC := Lib.hid hlc
    clear hin3 hnil hlc hLb
    cases a with
    | none =>
      obtain ⟨rfl, rfl⟩ := HNIL.out rfl
      go_wp2_with (first | (at_builtin; refine wpList_append_own _ rfl (.const (.slice none 0 0)) (.tmp 53) 22 rfl w3.heap.size 5 i0 (.int .u8 0) 1 1 Tryd.underlying22 hi hz0 hz1 hz2 rfl (by decide) (.slice none 0 0) 0 [] rfl (World.ownsRow_nil _ _ _ _) ⟨g, 0, none⟩ LL.length LL.length (LL.map bcell) rfl (by simp) (has_news hB) (bcell_one _) (by unfold maxLen; omega) (by omega) (Nat.le_refl _) ?_; intro v4 w4 hown4 hgrow4 _; simp only [Nat.zero_add, List.nil_append] at hown4; have hb34 : Below w3.heap.size w3 w4 := (Below.refl _ _).grown hgrow4 (Nat.le_refl _) (fun k hk => absurd (show (none : Option Nat) = some k from hk) (by simp)); have hBad4 := hBad3.below hgb3 hb34; clear hgrow4) | (at_builtin; refine wpList_append_own _ rfl (.tmp 54) (.tmp 55) 22 rfl w3.heap.size 5 i0 (.int .u8 0) 1 1 Tryd.underlying22 hi hz0 hz1 hz2 rfl (by decide) v4 LL.length (LL.map bcell) rfl hown4 ⟨gb, 0, none⟩ 2 2 (([192, 128] : List UInt8).map bcell) rfl (by simp) (has_news hBad4) (bcell_one _) (by unfold maxLen; omega) (by omega) hb34.size ?_; intro v5 w5 hown5 hgrow5 _; have hb35 : Below w3.heap.size w3 w5 := hb34.grown hgrow5 hb34.size (fun k hk => (hown4.lt k hk).1); clear hgrow5 hBad4 hown4) | (at_builtin; refine wpList_append_own_none rfl (.tmp 56) (.tmp 57) 22 rfl w3.heap.size 5 i0 1 Tryd.underlying22 hi v5 (LL.length + 2) (LL.map bcell ++ ([192, 128] : List UInt8).map bcell) rfl hown5 rfl ?_; have hown6' : w5.ownsRow w3.heap.size 5 1 v5 (LL ++ [192, 128] ++ []).length ((LL ++ [192, 128] ++ []).map bcell) := (by simpa using hown5); obtain ⟨gg, cp, hv6, hcp, hgg1, hgg2, hBB⟩ := own_has hown6' (by simp); obtain ⟨N, hN⟩ : ∃ N, (LL ++ [192, 128] ++ ([] : List UInt8)).length = N := ⟨_, rfl⟩; rw [hN] at hv6; rw [hv6]; have HN := Lib.hid hN; have HCP := Lib.hid hcp; have HBB := Lib.hid hBB; clear hown5 hown6' hv6 hN hcp hBB) | fail)
      have c3 := c2 gg cp w5 (hT3.below hb35) hgg2 HCP.out HBB.out
      rw [HN.out] at c3
      refine c3.mono ?_
      rintro r w7 ⟨rfl, hb7⟩
      have hb07 := (hb03.trans (hb35.mono hb03.size)).trans (hb7.mono (by have := hb03.size; have := hb35.size; omega))
      clear c2 c3
      go_wp2
      go_ret
      exact ⟨rfl, (hb07.alloc hb07.size _).alloc (by have := hb07.size; simp; omega) _⟩
    | some ad =>
      have hnews : ∀ W', Below w3.heap.size w3 W' → ∀ (j : Nat) (u : Value), (l.map bcell)[j]? = some u → W'.cell? (ad.add j) = some u := by
        intro W' hW' j u hj
        have hne : l ≠ [] := by intro h; rw [h] at hj; simp at hj
        obtain ⟨b, off, h1, h2, h3⟩ := HIN.out hne
        cases h1
        exact has_news (h2.below h3 hW') j u hj
      go_wp2_with (first | (at_builtin; refine wpList_append_own _ rfl (.const (.slice none 0 0)) (.tmp 53) 22 rfl w3.heap.size 5 i0 (.int .u8 0) 1 1 Tryd.underlying22 hi hz0 hz1 hz2 rfl (by decide) (.slice none 0 0) 0 [] rfl (World.ownsRow_nil _ _ _ _) ⟨g, 0, none⟩ LL.length LL.length (LL.map bcell) rfl (by simp) (has_news hB) (bcell_one _) (by unfold maxLen; omega) (by omega) (Nat.le_refl _) ?_; intro v4 w4 hown4 hgrow4 _; simp only [Nat.zero_add, List.nil_append] at hown4; have hb34 : Below w3.heap.size w3 w4 := (Below.refl _ _).grown hgrow4 (Nat.le_refl _) (fun k hk => absurd (show (none : Option Nat) = some k from hk) (by simp)); have hBad4 := hBad3.below hgb3 hb34; clear hgrow4) | (at_builtin; refine wpList_append_own _ rfl (.tmp 54) (.tmp 55) 22 rfl w3.heap.size 5 i0 (.int .u8 0) 1 1 Tryd.underlying22 hi hz0 hz1 hz2 rfl (by decide) v4 LL.length (LL.map bcell) rfl hown4 ⟨gb, 0, none⟩ 2 2 (([192, 128] : List UInt8).map bcell) rfl (by simp) (has_news hBad4) (bcell_one _) (by unfold maxLen; omega) (by omega) hb34.size ?_; intro v5 w5 hown5 hgrow5 _; have hb35 : Below w3.heap.size w3 w5 := hb34.grown hgrow5 hb34.size (fun k hk => (hown4.lt k hk).1); clear hgrow5 hBad4 hown4) | (at_builtin; refine wpList_append_own _ rfl (.tmp 56) (.tmp 57) 22 rfl w3.heap.size 5 i0 (.int .u8 0) 1 1 Tryd.underlying22 hi hz0 hz1 hz2 rfl (by decide) v5 (LL.length + 2) (LL.map bcell ++ ([192, 128] : List UInt8).map bcell) rfl hown5 ad l.length cap (l.map bcell) rfl (by simp) (hnews w5 hb35) (bcell_one _) (by unfold maxLen; omega) (by omega) hb35.size ?_; intro v6 w6 hown6 hgrow6 _; have hb36 : Below w3.heap.size w3 w6 := hb35.grown hgrow6 hb35.size (fun k hk => (hown5.lt k hk).1); have hown6' : w6.ownsRow w3.heap.size 5 1 v6 (LL ++ [192, 128] ++ l).length ((LL ++ [192, 128] ++ l).map bcell) := (by rw [List.length_append, List.length_append, List.map_append, List.map_append]; exact hown6); obtain ⟨gg, cp, hv6, hcp, hgg1, hgg2, hBB⟩ := own_has hown6' (by simp); obtain ⟨N, hN⟩ : ∃ N, (LL ++ [192, 128] ++ l).length = N := ⟨_, rfl⟩; rw [hN] at hv6; rw [hv6]; have HN := Lib.hid hN; have HCP := Lib.hid hcp; have HBB := Lib.hid hBB; clear hgrow6 hown5 hown6 hown6' hv6 hN hcp hBB) | fail)
      have c3 := c2 gg cp w6 (hT3.below hb36) hgg2 HCP.out HBB.out
      rw [HN.out] at c3
      refine c3.mono ?_
      rintro r w7 ⟨rfl, hb7⟩
      have hb07 := (hb03.trans (hb36.mono hb03.size)).trans (hb7.mono (by have := hb03.size; have := hb36.size; omega))
      clear c2 c3 hnews
      go_wp2
      go_ret
      exact ⟨rfl, (hb07.alloc hb07.size _).alloc (by have := hb07.size; simp; omega) _⟩

set_option maxRecDepth 100000 in
set_option maxHeartbeats 1000000 in
theorem wrong_2 (s : ByteArray) (a : Option Addr) (cap : Nat) (l : List UInt8) (x : Int) (low : Bool) (w : World) (hT : Tabs w) (hs : s.size ≤ maxLen) (hx : 0 ≤ x ∧ x ≤ 255) (hxe : x % 5 = 1) (hn : l.length ≤ 50) (hin : InB w a cap l) :
    Calls Tryd.prog 7 #[.string s, .slice a l.length cap, .int .u8 x, .bool low] w fun r w' => r = .returned (.bool true) ∧ Below w.heap.size w w' := by
  have hfew := fun w => few_any s w hs
  unfold maxLen at hs
  have dn : decide ((50 : Int) < (l.length : Int)) = false := by simp; omega
  obtain ⟨i0, hi, hz0, hz1, hz2⟩ := info_parts Tryd.info5
  go_enter Tryd.func7, Tryd.ntmps7
  go_wp2_with fail
  refine (known_any _ hT).mono ?_
  rintro r w1 ⟨rfl, hb⟩
  have hT1 := hT.below hb
  go_wp2_with fail
  refine (hfew _).mono ?_
  rintro r w2 ⟨⟨b, rfl, hf⟩, rfl⟩
  cases b with
  | false =>
    clear hf hfew
    go_wp2
    go_ret
    exact ⟨rfl, hb⟩
  | true =>
    obtain ⟨hs3, cs, hw, hm⟩ := hf rfl
    have HM := Lib.hid hm
    have HW := Lib.hid hw
    have hcl := M.wf_len hw
    rw [← sz_list] at hcl
    clear hm hw hf hfew
    go_wp2_with fail
    obtain ⟨W, hWe⟩ : ∃ W, W = ((w1.alloc (.cells #[.int .u8 255] 5)).alloc (.cells #[.int .u8 220, .int .u8 1] 5)) := ⟨_, rfl⟩
    have hbW : Below w1.heap.size w1 W := by rw [hWe]; exact (((Below.refl w1.heap.size w1).alloc (Nat.le_refl _) _).alloc (by simp; try omega) _)
    have hBad : HasBytes W (w1.heap.size + 1) 0 [220, 1] := by
      rw [hWe]
      have h := HasBytes.lit (w1.alloc (.cells #[.int .u8 255] 5)) [220, 1]
      have hz : (w1.alloc (.cells #[.int .u8 255] 5)).heap.size = w1.heap.size + 1 := by simp
      rw [hz] at h
      exact h
    have hgW : w1.heap.size + 1 < W.heap.size := by rw [hWe]; simp
    rw [← hWe]
    clear hWe
    obtain ⟨gb, hgb⟩ : ∃ gb, gb = w1.heap.size + 1 := ⟨_, rfl⟩
    rw [← hgb] at hBad hgW ⊢
    clear hgb
    have hTW := hT1.below hbW
    have hb0W := hb.trans (hbW.mono hb.size)
    have hinW : l ≠ [] → ∃ b off, a = some ⟨b, off, none⟩ ∧ HasBytes W b off l ∧ b < W.heap.size := fun hne => by
      obtain ⟨b, off, h1, h2, h3⟩ := hin.2.2 hne
      exact ⟨b, off, h1, h2.below h3 hb0W, by have := hb0W.size; omega⟩
    have hnil := hin.2.1
    have hlc := hin.1
    clear hin hb hbW hT1 hT
    have c1 := encode_ne 2 (by omega) (bomS ++ s) (65279 :: cs) W hTW (by rw [append_sz, show bomS.size = 3 from rfl]; omega) (wf_bom_s HW.out) (by simp)
    unfold bomS at c1
    refine c1.mono ?_
    rintro r w3 ⟨g, rfl, hg1, hg2, hB, hb3⟩
    have c2 := fun gg cp w' hT' hg hc' hb' => decode_wrong 2 (by omega) cs HW.out.1 HM.out (by omega) [220, 1] l hn (by simp) (by simp) (badd2 l) (by intro h; omega) gg cp w' hT' hg hc' hb'
    unfold badEnd at c2
    have hT3 := hTW.below hb3
    have hb03 := hb0W.trans (hb3.mono hb0W.size)
    have hBad3 := hBad.below hgW hb3
    have hgb3 : gb < w3.heap.size := by have := hb3.size; omega
    have hin3 : l ≠ [] → ∃ b off, a = some ⟨b, off, none⟩ ∧ HasBytes w3 b off l ∧ b < w3.heap.size := fun hne => by
      obtain ⟨b, off, h1, h2, h3⟩ := hinW hne
      exact ⟨b, off, h1, h2.below h3 hb3, by have := hb3.size; omega⟩
    have hLb := M.encAll_le 2 (65279 :: cs)
    rw [List.length_cons] at hLb
    generalize hLL : M.encAll 2 (65279 :: cs) = LL at *
    clear hLL c1 hBad hinW hb3 hTW hb0W hgW
    have hLb2 : LL.length ≤ 1300 := by omega
    have HIN := Lib.hid hin3
    have HNIL := Lib.hid hnil
    have HLC := Lib.hid hlc
    clear hin3 hnil hlc hLb
    cases a with
    | none =>
      obtain ⟨rfl, rfl⟩ := HNIL.out rfl
      go_wp2_with (first | (at_builtin; refine wpList_append_own _ rfl (.const (.slice none 0 0)) (.tmp 53) 22 rfl w3.heap.size 5 i0 (.int .u8 0) 1 1 Tryd.underlying22 hi hz0 hz1 hz2 rfl (by decide) (.slice none 0 0) 0 [] rfl (World.ownsRow_nil _ _ _ _) ⟨g, 0, none⟩ LL.length LL.length (LL.map bcell) rfl (by simp) (has_news hB) (bcell_one _) (by unfold maxLen; omega) (by omega) (Nat.le_refl _) ?_; intro v4 w4 hown4 hgrow4 _; simp only [Nat.zero_add, List.nil_append] at hown4; have hb34 : Below w3.heap.size w3 w4 := (Below.refl _ _).grown hgrow4 (Nat.le_refl _) (fun k hk => absurd (show (none : Option Nat) = some k from hk) (by simp)); have hBad4 := hBad3.below hgb3 hb34; clear hgrow4) | (at_builtin; refine wpList_append_own _ rfl (.tmp 54) (.tmp 55) 22 rfl w3.heap.size 5 i0 (.int .u8 0) 1 1 Tryd.underlying22 hi hz0 hz1 hz2 rfl (by decide) v4 LL.length (LL.map bcell) rfl hown4 ⟨gb, 0, none⟩ 2 2 (([220, 1] : List UInt8).map bcell) rfl (by simp) (has_news hBad4) (bcell_one _) (by unfold maxLen; omega) (by omega) hb34.size ?_; intro v5 w5 hown5 hgrow5 _; have hb35 : Below w3.heap.size w3 w5 := hb34.grown hgrow5 hb34.size (fun k hk => (hown4.lt k hk).1); clear hgrow5 hBad4 hown4) | (at_builtin; refine wpList_append_own_none rfl (.tmp 56) (.tmp 57) 22 rfl w3.heap.size 5 i0 1 Tryd.underlying22 hi v5 (LL.length + 2) (LL.map bcell ++ ([220, 1] : List UInt8).map bcell) rfl hown5 rfl ?_; have hown6' : w5.ownsRow w3.heap.size 5 1 v5 (LL ++ [220, 1] ++ []).length ((LL ++ [220, 1] ++ []).map bcell) := (by simpa using hown5); obtain ⟨gg, cp, hv6, hcp, hgg1, hgg2, hBB⟩ := own_has hown6' (by simp); obtain ⟨N, hN⟩ : ∃ N, (LL ++ [220, 1] ++ ([] : List UInt8)).length = N := ⟨_, rfl⟩; rw [hN] at hv6; rw [hv6]; have HN := Lib.hid hN; have HCP := Lib.hid hcp; have HBB := Lib.hid hBB; clear hown5 hown6' hv6 hN hcp hBB) | fail)
      have c3 := c2 gg cp w5 (hT3.below hb35) hgg2 HCP.out HBB.out
      rw [HN.out] at c3
      refine c3.mono ?_
      rintro r w7 ⟨rfl, hb7⟩
      have hb07 := (hb03.trans (hb35.mono hb03.size)).trans (hb7.mono (by have := hb03.size; have := hb35.size; omega))
      clear c2 c3
      go_wp2
      go_ret
      exact ⟨rfl, (hb07.alloc hb07.size _).alloc (by have := hb07.size; simp; omega) _⟩
    | some ad =>
      have hnews : ∀ W', Below w3.heap.size w3 W' → ∀ (j : Nat) (u : Value), (l.map bcell)[j]? = some u → W'.cell? (ad.add j) = some u := by
        intro W' hW' j u hj
        have hne : l ≠ [] := by intro h; rw [h] at hj; simp at hj
        obtain ⟨b, off, h1, h2, h3⟩ := HIN.out hne
        cases h1
        exact has_news (h2.below h3 hW') j u hj
      go_wp2_with (first | (at_builtin; refine wpList_append_own _ rfl (.const (.slice none 0 0)) (.tmp 53) 22 rfl w3.heap.size 5 i0 (.int .u8 0) 1 1 Tryd.underlying22 hi hz0 hz1 hz2 rfl (by decide) (.slice none 0 0) 0 [] rfl (World.ownsRow_nil _ _ _ _) ⟨g, 0, none⟩ LL.length LL.length (LL.map bcell) rfl (by simp) (has_news hB) (bcell_one _) (by unfold maxLen; omega) (by omega) (Nat.le_refl _) ?_; intro v4 w4 hown4 hgrow4 _; simp only [Nat.zero_add, List.nil_append] at hown4; have hb34 : Below w3.heap.size w3 w4 := (Below.refl _ _).grown hgrow4 (Nat.le_refl _) (fun k hk => absurd (show (none : Option Nat) = some k from hk) (by simp)); have hBad4 := hBad3.below hgb3 hb34; clear hgrow4) | (at_builtin; refine wpList_append_own _ rfl (.tmp 54) (.tmp 55) 22 rfl w3.heap.size 5 i0 (.int .u8 0) 1 1 Tryd.underlying22 hi hz0 hz1 hz2 rfl (by decide) v4 LL.length (LL.map bcell) rfl hown4 ⟨gb, 0, none⟩ 2 2 (([220, 1] : List UInt8).map bcell) rfl (by simp) (has_news hBad4) (bcell_one _) (by unfold maxLen; omega) (by omega) hb34.size ?_; intro v5 w5 hown5 hgrow5 _; have hb35 : Below w3.heap.size w3 w5 := hb34.grown hgrow5 hb34.size (fun k hk => (hown4.lt k hk).1); clear hgrow5 hBad4 hown4) | (at_builtin; refine wpList_append_own _ rfl (.tmp 56) (.tmp 57) 22 rfl w3.heap.size 5 i0 (.int .u8 0) 1 1 Tryd.underlying22 hi hz0 hz1 hz2 rfl (by decide) v5 (LL.length + 2) (LL.map bcell ++ ([220, 1] : List UInt8).map bcell) rfl hown5 ad l.length cap (l.map bcell) rfl (by simp) (hnews w5 hb35) (bcell_one _) (by unfold maxLen; omega) (by omega) hb35.size ?_; intro v6 w6 hown6 hgrow6 _; have hb36 : Below w3.heap.size w3 w6 := hb35.grown hgrow6 hb35.size (fun k hk => (hown5.lt k hk).1); have hown6' : w6.ownsRow w3.heap.size 5 1 v6 (LL ++ [220, 1] ++ l).length ((LL ++ [220, 1] ++ l).map bcell) := (by rw [List.length_append, List.length_append, List.map_append, List.map_append]; exact hown6); obtain ⟨gg, cp, hv6, hcp, hgg1, hgg2, hBB⟩ := own_has hown6' (by simp); obtain ⟨N, hN⟩ : ∃ N, (LL ++ [220, 1] ++ l).length = N := ⟨_, rfl⟩; rw [hN] at hv6; rw [hv6]; have HN := Lib.hid hN; have HCP := Lib.hid hcp; have HBB := Lib.hid hBB; clear hgrow6 hown5 hown6 hown6' hv6 hN hcp hBB) | fail)
      have c3 := c2 gg cp w6 (hT3.below hb36) hgg2 HCP.out HBB.out
      rw [HN.out] at c3
      refine c3.mono ?_
      rintro r w7 ⟨rfl, hb7⟩
      have hb07 := (hb03.trans (hb36.mono hb03.size)).trans (hb7.mono (by have := hb03.size; have := hb36.size; omega))
      clear c2 c3 hnews
      go_wp2
      go_ret
      exact ⟨rfl, (hb07.alloc hb07.size _).alloc (by have := hb07.size; simp; omega) _⟩

set_option maxRecDepth 100000 in
set_option maxHeartbeats 1000000 in
theorem wrong_3 (s : ByteArray) (a : Option Addr) (cap : Nat) (l : List UInt8) (x : Int) (low : Bool) (w : World) (hT : Tabs w) (hs : s.size ≤ maxLen) (hx : 0 ≤ x ∧ x ≤ 255) (hxe : x % 5 = 2) (hn : l.length ≤ 50) (hin : InB w a cap l) :
    Calls Tryd.prog 7 #[.string s, .slice a l.length cap, .int .u8 x, .bool low] w fun r w' => r = .returned (.bool true) ∧ Below w.heap.size w w' := by
  have hfew := fun w => few_any s w hs
  unfold maxLen at hs
  have dn : decide ((50 : Int) < (l.length : Int)) = false := by simp; omega
  obtain ⟨i0, hi, hz0, hz1, hz2⟩ := info_parts Tryd.info5
  go_enter Tryd.func7, Tryd.ntmps7
  go_wp2_with fail
  refine (known_any _ hT).mono ?_
  rintro r w1 ⟨rfl, hb⟩
  have hT1 := hT.below hb
  go_wp2_with fail
  refine (hfew _).mono ?_
  rintro r w2 ⟨⟨b, rfl, hf⟩, rfl⟩
  cases b with
  | false =>
    clear hf hfew
    go_wp2
    go_ret
    exact ⟨rfl, hb⟩
  | true =>
    obtain ⟨hs3, cs, hw, hm⟩ := hf rfl
    have HM := Lib.hid hm
    have HW := Lib.hid hw
    have hcl := M.wf_len hw
    rw [← sz_list] at hcl
    clear hm hw hf hfew
    go_wp2_with fail
    obtain ⟨W, hWe⟩ : ∃ W, W = ((w1.alloc (.cells #[.int .u8 255] 5)).alloc (.cells #[.int .u8 1, .int .u8 223] 5)) := ⟨_, rfl⟩
    have hbW : Below w1.heap.size w1 W := by rw [hWe]; exact (((Below.refl w1.heap.size w1).alloc (Nat.le_refl _) _).alloc (by simp; try omega) _)
    have hBad : HasBytes W (w1.heap.size + 1) 0 [1, 223] := by
      rw [hWe]
      have h := HasBytes.lit (w1.alloc (.cells #[.int .u8 255] 5)) [1, 223]
      have hz : (w1.alloc (.cells #[.int .u8 255] 5)).heap.size = w1.heap.size + 1 := by simp
      rw [hz] at h
      exact h
    have hgW : w1.heap.size + 1 < W.heap.size := by rw [hWe]; simp
    rw [← hWe]
    clear hWe
    obtain ⟨gb, hgb⟩ : ∃ gb, gb = w1.heap.size + 1 := ⟨_, rfl⟩
    rw [← hgb] at hBad hgW ⊢
    clear hgb
    have hTW := hT1.below hbW
    have hb0W := hb.trans (hbW.mono hb.size)
    have hinW : l ≠ [] → ∃ b off, a = some ⟨b, off, none⟩ ∧ HasBytes W b off l ∧ b < W.heap.size := fun hne => by
      obtain ⟨b, off, h1, h2, h3⟩ := hin.2.2 hne
      exact ⟨b, off, h1, h2.below h3 hb0W, by have := hb0W.size; omega⟩
    have hnil := hin.2.1
    have hlc := hin.1
    clear hin hb hbW hT1 hT
    have c1 := encode_ne 3 (by omega) (bomS ++ s) (65279 :: cs) W hTW (by rw [append_sz, show bomS.size = 3 from rfl]; omega) (wf_bom_s HW.out) (by simp)
    unfold bomS at c1
    refine c1.mono ?_
    rintro r w3 ⟨g, rfl, hg1, hg2, hB, hb3⟩
    have c2 := fun gg cp w' hT' hg hc' hb' => decode_wrong 3 (by omega) cs HW.out.1 HM.out (by omega) [1, 223] l hn (by simp) (by simp) (badd3 l) (by intro _ h; exact absurd h.1 (by rw [List.cons_append, M.by8_0]; decide)) gg cp w' hT' hg hc' hb'
    unfold badEnd at c2
    have hT3 := hTW.below hb3
    have hb03 := hb0W.trans (hb3.mono hb0W.size)
    have hBad3 := hBad.below hgW hb3
    have hgb3 : gb < w3.heap.size := by have := hb3.size; omega
    have hin3 : l ≠ [] → ∃ b off, a = some ⟨b, off, none⟩ ∧ HasBytes w3 b off l ∧ b < w3.heap.size := fun hne => by
      obtain ⟨b, off, h1, h2, h3⟩ := hinW hne
      exact ⟨b, off, h1, h2.below h3 hb3, by have := hb3.size; omega⟩
    have hLb := M.encAll_le 3 (65279 :: cs)
    rw [List.length_cons] at hLb
    generalize hLL : M.encAll 3 (65279 :: cs) = LL at *
    clear hLL c1 hBad hinW hb3 hTW hb0W hgW
    have hLb2 : LL.length ≤ 1300 := by omega
    have HIN := Lib.hid hin3
    have HNIL := Lib.hid hnil
    have HLC := Lib.hid hlc
    clear hin3 hnil hlc hLb
    cases a with
    | none =>
      obtain ⟨rfl, rfl⟩ := HNIL.out rfl
      go_wp2_with (first | (at_builtin; refine wpList_append_own _ rfl (.const (.slice none 0 0)) (.tmp 53) 22 rfl w3.heap.size 5 i0 (.int .u8 0) 1 1 Tryd.underlying22 hi hz0 hz1 hz2 rfl (by decide) (.slice none 0 0) 0 [] rfl (World.ownsRow_nil _ _ _ _) ⟨g, 0, none⟩ LL.length LL.length (LL.map bcell) rfl (by simp) (has_news hB) (bcell_one _) (by unfold maxLen; omega) (by omega) (Nat.le_refl _) ?_; intro v4 w4 hown4 hgrow4 _; simp only [Nat.zero_add, List.nil_append] at hown4; have hb34 : Below w3.heap.size w3 w4 := (Below.refl _ _).grown hgrow4 (Nat.le_refl _) (fun k hk => absurd (show (none : Option Nat) = some k from hk) (by simp)); have hBad4 := hBad3.below hgb3 hb34; clear hgrow4) | (at_builtin; refine wpList_append_own _ rfl (.tmp 54) (.tmp 55) 22 rfl w3.heap.size 5 i0 (.int .u8 0) 1 1 Tryd.underlying22 hi hz0 hz1 hz2 rfl (by decide) v4 LL.length (LL.map bcell) rfl hown4 ⟨gb, 0, none⟩ 2 2 (([1, 223] : List UInt8).map bcell) rfl (by simp) (has_news hBad4) (bcell_one _) (by unfold maxLen; omega) (by omega) hb34.size ?_; intro v5 w5 hown5 hgrow5 _; have hb35 : Below w3.heap.size w3 w5 := hb34.grown hgrow5 hb34.size (fun k hk => (hown4.lt k hk).1); clear hgrow5 hBad4 hown4) | (at_builtin; refine wpList_append_own_none rfl (.tmp 56) (.tmp 57) 22 rfl w3.heap.size 5 i0 1 Tryd.underlying22 hi v5 (LL.length + 2) (LL.map bcell ++ ([1, 223] : List UInt8).map bcell) rfl hown5 rfl ?_; have hown6' : w5.ownsRow w3.heap.size 5 1 v5 (LL ++ [1, 223] ++ []).length ((LL ++ [1, 223] ++ []).map bcell) := (by simpa using hown5); obtain ⟨gg, cp, hv6, hcp, hgg1, hgg2, hBB⟩ := own_has hown6' (by simp); obtain ⟨N, hN⟩ : ∃ N, (LL ++ [1, 223] ++ ([] : List UInt8)).length = N := ⟨_, rfl⟩; rw [hN] at hv6; rw [hv6]; have HN := Lib.hid hN; have HCP := Lib.hid hcp; have HBB := Lib.hid hBB; clear hown5 hown6' hv6 hN hcp hBB) | fail)
      have c3 := c2 gg cp w5 (hT3.below hb35) hgg2 HCP.out HBB.out
      rw [HN.out] at c3
      refine c3.mono ?_
      rintro r w7 ⟨rfl, hb7⟩
      have hb07 := (hb03.trans (hb35.mono hb03.size)).trans (hb7.mono (by have := hb03.size; have := hb35.size; omega))
      clear c2 c3
      go_wp2
      go_ret
      exact ⟨rfl, (hb07.alloc hb07.size _).alloc (by have := hb07.size; simp; omega) _⟩
    | some ad =>
      have hnews : ∀ W', Below w3.heap.size w3 W' → ∀ (j : Nat) (u : Value), (l.map bcell)[j]? = some u → W'.cell? (ad.add j) = some u := by
        intro W' hW' j u hj
        have hne : l ≠ [] := by intro h; rw [h] at hj; simp at hj
        obtain ⟨b, off, h1, h2, h3⟩ := HIN.out hne
        cases h1
        exact has_news (h2.below h3 hW') j u hj
      go_wp2_with (first | (at_builtin; refine wpList_append_own _ rfl (.const (.slice none 0 0)) (.tmp 53) 22 rfl w3.heap.size 5 i0 (.int .u8 0) 1 1 Tryd.underlying22 hi hz0 hz1 hz2 rfl (by decide) (.slice none 0 0) 0 [] rfl (World.ownsRow_nil _ _ _ _) ⟨g, 0, none⟩ LL.length LL.length (LL.map bcell) rfl (by simp) (has_news hB) (bcell_one _) (by unfold maxLen; omega) (by omega) (Nat.le_refl _) ?_; intro v4 w4 hown4 hgrow4 _; simp only [Nat.zero_add, List.nil_append] at hown4; have hb34 : Below w3.heap.size w3 w4 := (Below.refl _ _).grown hgrow4 (Nat.le_refl _) (fun k hk => absurd (show (none : Option Nat) = some k from hk) (by simp)); have hBad4 := hBad3.below hgb3 hb34; clear hgrow4) | (at_builtin; refine wpList_append_own _ rfl (.tmp 54) (.tmp 55) 22 rfl w3.heap.size 5 i0 (.int .u8 0) 1 1 Tryd.underlying22 hi hz0 hz1 hz2 rfl (by decide) v4 LL.length (LL.map bcell) rfl hown4 ⟨gb, 0, none⟩ 2 2 (([1, 223] : List UInt8).map bcell) rfl (by simp) (has_news hBad4) (bcell_one _) (by unfold maxLen; omega) (by omega) hb34.size ?_; intro v5 w5 hown5 hgrow5 _; have hb35 : Below w3.heap.size w3 w5 := hb34.grown hgrow5 hb34.size (fun k hk => (hown4.lt k hk).1); clear hgrow5 hBad4 hown4) | (at_builtin; refine wpList_append_own _ rfl (.tmp 56) (.tmp 57) 22 rfl w3.heap.size 5 i0 (.int .u8 0) 1 1 Tryd.underlying22 hi hz0 hz1 hz2 rfl (by decide) v5 (LL.length + 2) (LL.map bcell ++ ([1, 223] : List UInt8).map bcell) rfl hown5 ad l.length cap (l.map bcell) rfl (by simp) (hnews w5 hb35) (bcell_one _) (by unfold maxLen; omega) (by omega) hb35.size ?_; intro v6 w6 hown6 hgrow6 _; have hb36 : Below w3.heap.size w3 w6 := hb35.grown hgrow6 hb35.size (fun k hk => (hown5.lt k hk).1); have hown6' : w6.ownsRow w3.heap.size 5 1 v6 (LL ++ [1, 223] ++ l).length ((LL ++ [1, 223] ++ l).map bcell) := (by rw [List.length_append, List.length_append, List.map_append, List.map_append]; exact hown6); obtain ⟨gg, cp, hv6, hcp, hgg1, hgg2, hBB⟩ := own_has hown6' (by simp); obtain ⟨N, hN⟩ : ∃ N, (LL ++ [1, 223] ++ l).length = N := ⟨_, rfl⟩; rw [hN] at hv6; rw [hv6]; have HN := Lib.hid hN; have HCP := Lib.hid hcp; have HBB := Lib.hid hBB; clear hgrow6 hown5 hown6 hown6' hv6 hN hcp hBB) | fail)
      have c3 := c2 gg cp w6 (hT3.below hb36) hgg2 HCP.out HBB.out
      rw [HN.out] at c3
      refine c3.mono ?_
      rintro r w7 ⟨rfl, hb7⟩
      have hb07 := (hb03.trans (hb36.mono hb03.size)).trans (hb7.mono (by have := hb03.size; have := hb36.size; omega))
      clear c2 c3 hnews
      go_wp2
      go_ret
      exact ⟨rfl, (hb07.alloc hb07.size _).alloc (by have := hb07.size; simp; omega) _⟩

set_option maxRecDepth 100000 in
set_option maxHeartbeats 1000000 in
theorem wrong_4 (s : ByteArray) (a : Option Addr) (cap : Nat) (l : List UInt8) (x : Int) (w : World) (hT : Tabs w) (hs : s.size ≤ maxLen) (hx : 0 ≤ x ∧ x ≤ 255) (hxe : x % 5 = 3) (hn : l.length ≤ 50) (hin : InB w a cap l) :
    Calls Tryd.prog 7 #[.string s, .slice a l.length cap, .int .u8 x, .bool false] w fun r w' => r = .returned (.bool true) ∧ Below w.heap.size w w' := by
  have hfew := fun w => few_any s w hs
  unfold maxLen at hs
  have dn : decide ((50 : Int) < (l.length : Int)) = false := by simp; omega
  obtain ⟨i0, hi, hz0, hz1, hz2⟩ := info_parts Tryd.info5
  go_enter Tryd.func7, Tryd.ntmps7
  go_wp2_with fail
  refine (known_any _ hT).mono ?_
  rintro r w1 ⟨rfl, hb⟩
  have hT1 := hT.below hb
  go_wp2_with fail
  refine (hfew _).mono ?_
  rintro r w2 ⟨⟨b, rfl, hf⟩, rfl⟩
  cases b with
  | false =>
    clear hf hfew
    go_wp2
    go_ret
    exact ⟨rfl, hb⟩
  | true =>
    obtain ⟨hs3, cs, hw, hm⟩ := hf rfl
    have HM := Lib.hid hm
    have HW := Lib.hid hw
    have hcl := M.wf_len hw
    rw [← sz_list] at hcl
    clear hm hw hf hfew
    go_wp2_with fail
    obtain ⟨W, hWe⟩ : ∃ W, W = ((w1.alloc (.cells #[.int .u8 255] 5)).alloc (.cells #[.int .u8 0, .int .u8 17, .int .u8 0, .int .u8 0] 5)) := ⟨_, rfl⟩
    have hbW : Below w1.heap.size w1 W := by rw [hWe]; exact (((Below.refl w1.heap.size w1).alloc (Nat.le_refl _) _).alloc (by simp; try omega) _)
    have hBad : HasBytes W (w1.heap.size + 1) 0 [0, 17, 0, 0] := by
      rw [hWe]
      have h := HasBytes.lit (w1.alloc (.cells #[.int .u8 255] 5)) [0, 17, 0, 0]
      have hz : (w1.alloc (.cells #[.int .u8 255] 5)).heap.size = w1.heap.size + 1 := by simp
      rw [hz] at h
      exact h
    have hgW : w1.heap.size + 1 < W.heap.size := by rw [hWe]; simp
    rw [← hWe]
    clear hWe
    obtain ⟨gb, hgb⟩ : ∃ gb, gb = w1.heap.size + 1 := ⟨_, rfl⟩
    rw [← hgb] at hBad hgW ⊢
    clear hgb
    have hTW := hT1.below hbW
    have hb0W := hb.trans (hbW.mono hb.size)
    have hinW : l ≠ [] → ∃ b off, a = some ⟨b, off, none⟩ ∧ HasBytes W b off l ∧ b < W.heap.size := fun hne => by
      obtain ⟨b, off, h1, h2, h3⟩ := hin.2.2 hne
      exact ⟨b, off, h1, h2.below h3 hb0W, by have := hb0W.size; omega⟩
    have hnil := hin.2.1
    have hlc := hin.1
    clear hin hb hbW hT1 hT
    have c1 := encode_ne 4 (by omega) (bomS ++ s) (65279 :: cs) W hTW (by rw [append_sz, show bomS.size = 3 from rfl]; omega) (wf_bom_s HW.out) (by simp)
    unfold bomS at c1
    refine c1.mono ?_
    rintro r w3 ⟨g, rfl, hg1, hg2, hB, hb3⟩
    have c2 := fun gg cp w' hT' hg hc' hb' => decode_wrong 4 (by omega) cs HW.out.1 HM.out (by omega) [0, 17, 0, 0] l hn (by simp) (by simp) (badd4 l) (by intro h; omega) gg cp w' hT' hg hc' hb'
    unfold badEnd at c2
    have hT3 := hTW.below hb3
    have hb03 := hb0W.trans (hb3.mono hb0W.size)
    have hBad3 := hBad.below hgW hb3
    have hgb3 : gb < w3.heap.size := by have := hb3.size; omega
    have hin3 : l ≠ [] → ∃ b off, a = some ⟨b, off, none⟩ ∧ HasBytes w3 b off l ∧ b < w3.heap.size := fun hne => by
      obtain ⟨b, off, h1, h2, h3⟩ := hinW hne
      exact ⟨b, off, h1, h2.below h3 hb3, by have := hb3.size; omega⟩
    have hLb := M.encAll_le 4 (65279 :: cs)
    rw [List.length_cons] at hLb
    generalize hLL : M.encAll 4 (65279 :: cs) = LL at *
    clear hLL c1 hBad hinW hb3 hTW hb0W hgW
    have hLb2 : LL.length ≤ 1300 := by omega
    have HIN := Lib.hid hin3
    have HNIL := Lib.hid hnil
    have HLC := Lib.hid hlc
    clear hin3 hnil hlc hLb
    cases a with
    | none =>
      obtain ⟨rfl, rfl⟩ := HNIL.out rfl
      go_wp2_with (first | (at_builtin; refine wpList_append_own _ rfl (.const (.slice none 0 0)) (.tmp 53) 22 rfl w3.heap.size 5 i0 (.int .u8 0) 1 1 Tryd.underlying22 hi hz0 hz1 hz2 rfl (by decide) (.slice none 0 0) 0 [] rfl (World.ownsRow_nil _ _ _ _) ⟨g, 0, none⟩ LL.length LL.length (LL.map bcell) rfl (by simp) (has_news hB) (bcell_one _) (by unfold maxLen; omega) (by omega) (Nat.le_refl _) ?_; intro v4 w4 hown4 hgrow4 _; simp only [Nat.zero_add, List.nil_append] at hown4; have hb34 : Below w3.heap.size w3 w4 := (Below.refl _ _).grown hgrow4 (Nat.le_refl _) (fun k hk => absurd (show (none : Option Nat) = some k from hk) (by simp)); have hBad4 := hBad3.below hgb3 hb34; clear hgrow4) | (at_builtin; refine wpList_append_own _ rfl (.tmp 54) (.tmp 55) 22 rfl w3.heap.size 5 i0 (.int .u8 0) 1 1 Tryd.underlying22 hi hz0 hz1 hz2 rfl (by decide) v4 LL.length (LL.map bcell) rfl hown4 ⟨gb, 0, none⟩ 4 4 (([0, 17, 0, 0] : List UInt8).map bcell) rfl (by simp) (has_news hBad4) (bcell_one _) (by unfold maxLen; omega) (by omega) hb34.size ?_; intro v5 w5 hown5 hgrow5 _; have hb35 : Below w3.heap.size w3 w5 := hb34.grown hgrow5 hb34.size (fun k hk => (hown4.lt k hk).1); clear hgrow5 hBad4 hown4) | (at_builtin; refine wpList_append_own_none rfl (.tmp 56) (.tmp 57) 22 rfl w3.heap.size 5 i0 1 Tryd.underlying22 hi v5 (LL.length + 4) (LL.map bcell ++ ([0, 17, 0, 0] : List UInt8).map bcell) rfl hown5 rfl ?_; have hown6' : w5.ownsRow w3.heap.size 5 1 v5 (LL ++ [0, 17, 0, 0] ++ []).length ((LL ++ [0, 17, 0, 0] ++ []).map bcell) := (by simpa using hown5); obtain ⟨gg, cp, hv6, hcp, hgg1, hgg2, hBB⟩ := own_has hown6' (by simp); obtain ⟨N, hN⟩ : ∃ N, (LL ++ [0, 17, 0, 0] ++ ([] : List UInt8)).length = N := ⟨_, rfl⟩; rw [hN] at hv6; rw [hv6]; have HN := Lib.hid hN; have HCP := Lib.hid hcp; have HBB := Lib.hid hBB; clear hown5 hown6' hv6 hN hcp hBB) | fail)
      have c3 := c2 gg cp w5 (hT3.below hb35) hgg2 HCP.out HBB.out
      rw [HN.out] at c3
      refine c3.mono ?_
      rintro r w7 ⟨rfl, hb7⟩
      have hb07 := (hb03.trans (hb35.mono hb03.size)).trans (hb7.mono (by have := hb03.size; have := hb35.size; omega))
      clear c2 c3
      go_wp2
      go_ret
      exact ⟨rfl, (hb07.alloc hb07.size _).alloc (by have := hb07.size; simp; omega) _⟩
    | some ad =>
      have hnews : ∀ W', Below w3.heap.size w3 W' → ∀ (j : Nat) (u : Value), (l.map bcell)[j]? = some u → W'.cell? (ad.add j) = some u := by
        intro W' hW' j u hj
        have hne : l ≠ [] := by intro h; rw [h] at hj; simp at hj
        obtain ⟨b, off, h1, h2, h3⟩ := HIN.out hne
        cases h1
        exact has_news (h2.below h3 hW') j u hj
      go_wp2_with (first | (at_builtin; refine wpList_append_own _ rfl (.const (.slice none 0 0)) (.tmp 53) 22 rfl w3.heap.size 5 i0 (.int .u8 0) 1 1 Tryd.underlying22 hi hz0 hz1 hz2 rfl (by decide) (.slice none 0 0) 0 [] rfl (World.ownsRow_nil _ _ _ _) ⟨g, 0, none⟩ LL.length LL.length (LL.map bcell) rfl (by simp) (has_news hB) (bcell_one _) (by unfold maxLen; omega) (by omega) (Nat.le_refl _) ?_; intro v4 w4 hown4 hgrow4 _; simp only [Nat.zero_add, List.nil_append] at hown4; have hb34 : Below w3.heap.size w3 w4 := (Below.refl _ _).grown hgrow4 (Nat.le_refl _) (fun k hk => absurd (show (none : Option Nat) = some k from hk) (by simp)); have hBad4 := hBad3.below hgb3 hb34; clear hgrow4) | (at_builtin; refine wpList_append_own _ rfl (.tmp 54) (.tmp 55) 22 rfl w3.heap.size 5 i0 (.int .u8 0) 1 1 Tryd.underlying22 hi hz0 hz1 hz2 rfl (by decide) v4 LL.length (LL.map bcell) rfl hown4 ⟨gb, 0, none⟩ 4 4 (([0, 17, 0, 0] : List UInt8).map bcell) rfl (by simp) (has_news hBad4) (bcell_one _) (by unfold maxLen; omega) (by omega) hb34.size ?_; intro v5 w5 hown5 hgrow5 _; have hb35 : Below w3.heap.size w3 w5 := hb34.grown hgrow5 hb34.size (fun k hk => (hown4.lt k hk).1); clear hgrow5 hBad4 hown4) | (at_builtin; refine wpList_append_own _ rfl (.tmp 56) (.tmp 57) 22 rfl w3.heap.size 5 i0 (.int .u8 0) 1 1 Tryd.underlying22 hi hz0 hz1 hz2 rfl (by decide) v5 (LL.length + 4) (LL.map bcell ++ ([0, 17, 0, 0] : List UInt8).map bcell) rfl hown5 ad l.length cap (l.map bcell) rfl (by simp) (hnews w5 hb35) (bcell_one _) (by unfold maxLen; omega) (by omega) hb35.size ?_; intro v6 w6 hown6 hgrow6 _; have hb36 : Below w3.heap.size w3 w6 := hb35.grown hgrow6 hb35.size (fun k hk => (hown5.lt k hk).1); have hown6' : w6.ownsRow w3.heap.size 5 1 v6 (LL ++ [0, 17, 0, 0] ++ l).length ((LL ++ [0, 17, 0, 0] ++ l).map bcell) := (by rw [List.length_append, List.length_append, List.map_append, List.map_append]; exact hown6); obtain ⟨gg, cp, hv6, hcp, hgg1, hgg2, hBB⟩ := own_has hown6' (by simp); obtain ⟨N, hN⟩ : ∃ N, (LL ++ [0, 17, 0, 0] ++ l).length = N := ⟨_, rfl⟩; rw [hN] at hv6; rw [hv6]; have HN := Lib.hid hN; have HCP := Lib.hid hcp; have HBB := Lib.hid hBB; clear hgrow6 hown5 hown6 hown6' hv6 hN hcp hBB) | fail)
      have c3 := c2 gg cp w6 (hT3.below hb36) hgg2 HCP.out HBB.out
      rw [HN.out] at c3
      refine c3.mono ?_
      rintro r w7 ⟨rfl, hb7⟩
      have hb07 := (hb03.trans (hb36.mono hb03.size)).trans (hb7.mono (by have := hb03.size; have := hb36.size; omega))
      clear c2 c3 hnews
      go_wp2
      go_ret
      exact ⟨rfl, (hb07.alloc hb07.size _).alloc (by have := hb07.size; simp; omega) _⟩

set_option maxRecDepth 100000 in
set_option maxHeartbeats 1000000 in
theorem wrong_4l (s : ByteArray) (a : Option Addr) (cap : Nat) (l : List UInt8) (x : Int) (w : World) (hT : Tabs w) (hs : s.size ≤ maxLen) (hx : 0 ≤ x ∧ x ≤ 255) (hxe : x % 5 = 3) (hn : l.length ≤ 50) (hin : InB w a cap l) :
    Calls Tryd.prog 7 #[.string s, .slice a l.length cap, .int .u8 x, .bool true] w fun r w' => r = .returned (.bool true) ∧ Below w.heap.size w w' := by
  have hfew := fun w => few_any s w hs
  unfold maxLen at hs
  have dn : decide ((50 : Int) < (l.length : Int)) = false := by simp; omega
  obtain ⟨i0, hi, hz0, hz1, hz2⟩ := info_parts Tryd.info5
  go_enter Tryd.func7, Tryd.ntmps7
  go_wp2_with fail
  refine (known_any _ hT).mono ?_
  rintro r w1 ⟨rfl, hb⟩
  have hT1 := hT.below hb
  go_wp2_with fail
  refine (hfew _).mono ?_
  rintro r w2 ⟨⟨b, rfl, hf⟩, rfl⟩
  cases b with
  | false =>
    clear hf hfew
    go_wp2
    go_ret
    exact ⟨rfl, hb⟩
  | true =>
    obtain ⟨hs3, cs, hw, hm⟩ := hf rfl
    have HM := Lib.hid hm
    have HW := Lib.hid hw
    have hcl := M.wf_len hw
    rw [← sz_list] at hcl
    clear hm hw hf hfew
    go_wp2_with fail
    obtain ⟨W, hWe⟩ : ∃ W, W = (((w1.alloc (.cells #[.int .u8 255] 5)).alloc (.cells #[.int .u8 0, .int .u8 17, .int .u8 0, .int .u8 0] 5)).alloc (.cells #[.int .u8 0, .int .u8 0, .int .u8 216, .int .u8 0] 5)) := ⟨_, rfl⟩
    have hbW : Below w1.heap.size w1 W := by rw [hWe]; exact ((((Below.refl w1.heap.size w1).alloc (Nat.le_refl _) _).alloc (by simp; try omega) _).alloc (by simp; try omega) _)
    have hBad : HasBytes W (w1.heap.size + 1 + 1) 0 [0, 0, 216, 0] := by
      rw [hWe]
      have h := HasBytes.lit ((w1.alloc (.cells #[.int .u8 255] 5)).alloc (.cells #[.int .u8 0, .int .u8 17, .int .u8 0, .int .u8 0] 5)) [0, 0, 216, 0]
      have hz : ((w1.alloc (.cells #[.int .u8 255] 5)).alloc (.cells #[.int .u8 0, .int .u8 17, .int .u8 0, .int .u8 0] 5)).heap.size = w1.heap.size + 1 + 1 := by simp
      rw [hz] at h
      exact h
    have hgW : w1.heap.size + 1 + 1 < W.heap.size := by rw [hWe]; simp
    rw [← hWe]
    clear hWe
    obtain ⟨gb, hgb⟩ : ∃ gb, gb = w1.heap.size + 1 + 1 := ⟨_, rfl⟩
    rw [← hgb] at hBad hgW ⊢
    clear hgb
    have hTW := hT1.below hbW
    have hb0W := hb.trans (hbW.mono hb.size)
    have hinW : l ≠ [] → ∃ b off, a = some ⟨b, off, none⟩ ∧ HasBytes W b off l ∧ b < W.heap.size := fun hne => by
      obtain ⟨b, off, h1, h2, h3⟩ := hin.2.2 hne
      exact ⟨b, off, h1, h2.below h3 hb0W, by have := hb0W.size; omega⟩
    have hnil := hin.2.1
    have hlc := hin.1
    clear hin hb hbW hT1 hT
    have c1 := encode_ne 4 (by omega) (bomS ++ s) (65279 :: cs) W hTW (by rw [append_sz, show bomS.size = 3 from rfl]; omega) (wf_bom_s HW.out) (by simp)
    unfold bomS at c1
    refine c1.mono ?_
    rintro r w3 ⟨g, rfl, hg1, hg2, hB, hb3⟩
    have c2 := fun gg cp w' hT' hg hc' hb' => decode_wrong 4 (by omega) cs HW.out.1 HM.out (by omega) [0, 0, 216, 0] l hn (by simp) (by simp) (badd4l l) (by intro h; omega) gg cp w' hT' hg hc' hb'
    unfold badEnd at c2
    have hT3 := hTW.below hb3
    have hb03 := hb0W.trans (hb3.mono hb0W.size)
    have hBad3 := hBad.below hgW hb3
    have hgb3 : gb < w3.heap.size := by have := hb3.size; omega
    have hin3 : l ≠ [] → ∃ b off, a = some ⟨b, off, none⟩ ∧ HasBytes w3 b off l ∧ b < w3.heap.size := fun hne => by
      obtain ⟨b, off, h1, h2, h3⟩ := hinW hne
      exact ⟨b, off, h1, h2.below h3 hb3, by have := hb3.size; omega⟩
    have hLb := M.encAll_le 4 (65279 :: cs)
    rw [List.length_cons] at hLb
    generalize hLL : M.encAll 4 (65279 :: cs) = LL at *
    clear hLL c1 hBad hinW hb3 hTW hb0W hgW
    have hLb2 : LL.length ≤ 1300 := by omega
    have HIN := Lib.hid hin3
    have HNIL := Lib.hid hnil
    have HLC := Lib.hid hlc
    clear hin3 hnil hlc hLb
    cases a with
    | none =>
      obtain ⟨rfl, rfl⟩ := HNIL.out rfl
      go_wp2_with (first | (at_builtin; refine wpList_append_own _ rfl (.const (.slice none 0 0)) (.tmp 53) 22 rfl w3.heap.size 5 i0 (.int .u8 0) 1 1 Tryd.underlying22 hi hz0 hz1 hz2 rfl (by decide) (.slice none 0 0) 0 [] rfl (World.ownsRow_nil _ _ _ _) ⟨g, 0, none⟩ LL.length LL.length (LL.map bcell) rfl (by simp) (has_news hB) (bcell_one _) (by unfold maxLen; omega) (by omega) (Nat.le_refl _) ?_; intro v4 w4 hown4 hgrow4 _; simp only [Nat.zero_add, List.nil_append] at hown4; have hb34 : Below w3.heap.size w3 w4 := (Below.refl _ _).grown hgrow4 (Nat.le_refl _) (fun k hk => absurd (show (none : Option Nat) = some k from hk) (by simp)); have hBad4 := hBad3.below hgb3 hb34; clear hgrow4) | (at_builtin; refine wpList_append_own _ rfl (.tmp 54) (.tmp 55) 22 rfl w3.heap.size 5 i0 (.int .u8 0) 1 1 Tryd.underlying22 hi hz0 hz1 hz2 rfl (by decide) v4 LL.length (LL.map bcell) rfl hown4 ⟨gb, 0, none⟩ 4 4 (([0, 0, 216, 0] : List UInt8).map bcell) rfl (by simp) (has_news hBad4) (bcell_one _) (by unfold maxLen; omega) (by omega) hb34.size ?_; intro v5 w5 hown5 hgrow5 _; have hb35 : Below w3.heap.size w3 w5 := hb34.grown hgrow5 hb34.size (fun k hk => (hown4.lt k hk).1); clear hgrow5 hBad4 hown4) | (at_builtin; refine wpList_append_own_none rfl (.tmp 56) (.tmp 57) 22 rfl w3.heap.size 5 i0 1 Tryd.underlying22 hi v5 (LL.length + 4) (LL.map bcell ++ ([0, 0, 216, 0] : List UInt8).map bcell) rfl hown5 rfl ?_; have hown6' : w5.ownsRow w3.heap.size 5 1 v5 (LL ++ [0, 0, 216, 0] ++ []).length ((LL ++ [0, 0, 216, 0] ++ []).map bcell) := (by simpa using hown5); obtain ⟨gg, cp, hv6, hcp, hgg1, hgg2, hBB⟩ := own_has hown6' (by simp); obtain ⟨N, hN⟩ : ∃ N, (LL ++ [0, 0, 216, 0] ++ ([] : List UInt8)).length = N := ⟨_, rfl⟩; rw [hN] at hv6; rw [hv6]; have HN := Lib.hid hN; have HCP := Lib.hid hcp; have HBB := Lib.hid hBB; clear hown5 hown6' hv6 hN hcp hBB) | fail)
      have c3 := c2 gg cp w5 (hT3.below hb35) hgg2 HCP.out HBB.out
      rw [HN.out] at c3
      refine c3.mono ?_
      rintro r w7 ⟨rfl, hb7⟩
      have hb07 := (hb03.trans (hb35.mono hb03.size)).trans (hb7.mono (by have := hb03.size; have := hb35.size; omega))
      clear c2 c3
      go_wp2
      go_ret
      exact ⟨rfl, (hb07.alloc hb07.size _).alloc (by have := hb07.size; simp; omega) _⟩
    | some ad =>
      have hnews : ∀ W', Below w3.heap.size w3 W' → ∀ (j : Nat) (u : Value), (l.map bcell)[j]? = some u → W'.cell? (ad.add j) = some u := by
        intro W' hW' j u hj
        have hne : l ≠ [] := by intro h; rw [h] at hj; simp at hj
        obtain ⟨b, off, h1, h2, h3⟩ := HIN.out hne
        cases h1
        exact has_news (h2.below h3 hW') j u hj
      go_wp2_with (first | (at_builtin; refine wpList_append_own _ rfl (.const (.slice none 0 0)) (.tmp 53) 22 rfl w3.heap.size 5 i0 (.int .u8 0) 1 1 Tryd.underlying22 hi hz0 hz1 hz2 rfl (by decide) (.slice none 0 0) 0 [] rfl (World.ownsRow_nil _ _ _ _) ⟨g, 0, none⟩ LL.length LL.length (LL.map bcell) rfl (by simp) (has_news hB) (bcell_one _) (by unfold maxLen; omega) (by omega) (Nat.le_refl _) ?_; intro v4 w4 hown4 hgrow4 _; simp only [Nat.zero_add, List.nil_append] at hown4; have hb34 : Below w3.heap.size w3 w4 := (Below.refl _ _).grown hgrow4 (Nat.le_refl _) (fun k hk => absurd (show (none : Option Nat) = some k from hk) (by simp)); have hBad4 := hBad3.below hgb3 hb34; clear hgrow4) | (at_builtin; refine wpList_append_own _ rfl (.tmp 54) (.tmp 55) 22 rfl w3.heap.size 5 i0 (.int .u8 0) 1 1 Tryd.underlying22 hi hz0 hz1 hz2 rfl (by decide) v4 LL.length (LL.map bcell) rfl hown4 ⟨gb, 0, none⟩ 4 4 (([0, 0, 216, 0] : List UInt8).map bcell) rfl (by simp) (has_news hBad4) (bcell_one _) (by unfold maxLen; omega) (by omega) hb34.size ?_; intro v5 w5 hown5 hgrow5 _; have hb35 : Below w3.heap.size w3 w5 := hb34.grown hgrow5 hb34.size (fun k hk => (hown4.lt k hk).1); clear hgrow5 hBad4 hown4) | (at_builtin; refine wpList_append_own _ rfl (.tmp 56) (.tmp 57) 22 rfl w3.heap.size 5 i0 (.int .u8 0) 1 1 Tryd.underlying22 hi hz0 hz1 hz2 rfl (by decide) v5 (LL.length + 4) (LL.map bcell ++ ([0, 0, 216, 0] : List UInt8).map bcell) rfl hown5 ad l.length cap (l.map bcell) rfl (by simp) (hnews w5 hb35) (bcell_one _) (by unfold maxLen; omega) (by omega) hb35.size ?_; intro v6 w6 hown6 hgrow6 _; have hb36 : Below w3.heap.size w3 w6 := hb35.grown hgrow6 hb35.size (fun k hk => (hown5.lt k hk).1); have hown6' : w6.ownsRow w3.heap.size 5 1 v6 (LL ++ [0, 0, 216, 0] ++ l).length ((LL ++ [0, 0, 216, 0] ++ l).map bcell) := (by rw [List.length_append, List.length_append, List.map_append, List.map_append]; exact hown6); obtain ⟨gg, cp, hv6, hcp, hgg1, hgg2, hBB⟩ := own_has hown6' (by simp); obtain ⟨N, hN⟩ : ∃ N, (LL ++ [0, 0, 216, 0] ++ l).length = N := ⟨_, rfl⟩; rw [hN] at hv6; rw [hv6]; have HN := Lib.hid hN; have HCP := Lib.hid hcp; have HBB := Lib.hid hBB; clear hgrow6 hown5 hown6 hown6' hv6 hN hcp hBB) | fail)
      have c3 := c2 gg cp w6 (hT3.below hb36) hgg2 HCP.out HBB.out
      rw [HN.out] at c3
      refine c3.mono ?_
      rintro r w7 ⟨rfl, hb7⟩
      have hb07 := (hb03.trans (hb36.mono hb03.size)).trans (hb7.mono (by have := hb03.size; have := hb36.size; omega))
      clear c2 c3 hnews
      go_wp2
      go_ret
      exact ⟨rfl, (hb07.alloc hb07.size _).alloc (by have := hb07.size; simp; omega) _⟩

set_option maxRecDepth 100000 in
set_option maxHeartbeats 1000000 in
theorem wrong_5 (s : ByteArray) (a : Option Addr) (cap : Nat) (l : List UInt8) (x : Int) (w : World) (hT : Tabs w) (hs : s.size ≤ maxLen) (hx : 0 ≤ x ∧ x ≤ 255) (hxe : x % 5 = 4) (hn : l.length ≤ 50) (hin : InB w a cap l) :
    Calls Tryd.prog 7 #[.string s, .slice a l.length cap, .int .u8 x, .bool false] w fun r w' => r = .returned (.bool true) ∧ Below w.heap.size w w' := by
  have hfew := fun w => few_any s w hs
  unfold maxLen at hs
  have dn : decide ((50 : Int) < (l.length : Int)) = false := by simp; omega
  obtain ⟨i0, hi, hz0, hz1, hz2⟩ := info_parts Tryd.info5
  go_enter Tryd.func7, Tryd.ntmps7
  go_wp2_with fail
  refine (known_any _ hT).mono ?_
  rintro r w1 ⟨rfl, hb⟩
  have hT1 := hT.below hb
  go_wp2_with fail
  refine (hfew _).mono ?_
  rintro r w2 ⟨⟨b, rfl, hf⟩, rfl⟩
  cases b with
  | false =>
    clear hf hfew
    go_wp2
    go_ret
    exact ⟨rfl, hb⟩
  | true =>
    obtain ⟨hs3, cs, hw, hm⟩ := hf rfl
    have HM := Lib.hid hm
    have HW := Lib.hid hw
    have hcl := M.wf_len hw
    rw [← sz_list] at hcl
    clear hm hw hf hfew
    go_wp2_with fail
    obtain ⟨W, hWe⟩ : ∃ W, W = ((w1.alloc (.cells #[.int .u8 255] 5)).alloc (.cells #[.int .u8 0, .int .u8 0, .int .u8 17, .int .u8 0] 5)) := ⟨_, rfl⟩
    have hbW : Below w1.heap.size w1 W := by rw [hWe]; exact (((Below.refl w1.heap.size w1).alloc (Nat.le_refl _) _).alloc (by simp; try omega) _)
    have hBad : HasBytes W (w1.heap.size + 1) 0 [0, 0, 17, 0] := by
      rw [hWe]
      have h := HasBytes.lit (w1.alloc (.cells #[.int .u8 255] 5)) [0, 0, 17, 0]
      have hz : (w1.alloc (.cells #[.int .u8 255] 5)).heap.size = w1.heap.size + 1 := by simp
      rw [hz] at h
      exact h
    have hgW : w1.heap.size + 1 < W.heap.size := by rw [hWe]; simp
    rw [← hWe]
    clear hWe
    obtain ⟨gb, hgb⟩ : ∃ gb, gb = w1.heap.size + 1 := ⟨_, rfl⟩
    rw [← hgb] at hBad hgW ⊢
    clear hgb
    have hTW := hT1.below hbW
    have hb0W := hb.trans (hbW.mono hb.size)
    have hinW : l ≠ [] → ∃ b off, a = some ⟨b, off, none⟩ ∧ HasBytes W b off l ∧ b < W.heap.size := fun hne => by
      obtain ⟨b, off, h1, h2, h3⟩ := hin.2.2 hne
      exact ⟨b, off, h1, h2.below h3 hb0W, by have := hb0W.size; omega⟩
    have hnil := hin.2.1
    have hlc := hin.1
    clear hin hb hbW hT1 hT
    have c1 := encode_ne 5 (by omega) (bomS ++ s) (65279 :: cs) W hTW (by rw [append_sz, show bomS.size = 3 from rfl]; omega) (wf_bom_s HW.out) (by simp)
    unfold bomS at c1
    refine c1.mono ?_
    rintro r w3 ⟨g, rfl, hg1, hg2, hB, hb3⟩
    have c2 := fun gg cp w' hT' hg hc' hb' => decode_wrong 5 (by omega) cs HW.out.1 HM.out (by omega) [0, 0, 17, 0] l hn (by simp) (by simp) (badd5 l) (by intro h; omega) gg cp w' hT' hg hc' hb'
    unfold badEnd at c2
    have hT3 := hTW.below hb3
    have hb03 := hb0W.trans (hb3.mono hb0W.size)
    have hBad3 := hBad.below hgW hb3
    have hgb3 : gb < w3.heap.size := by have := hb3.size; omega
    have hin3 : l ≠ [] → ∃ b off, a = some ⟨b, off, none⟩ ∧ HasBytes w3 b off l ∧ b < w3.heap.size := fun hne => by
      obtain ⟨b, off, h1, h2, h3⟩ := hinW hne
      exact ⟨b, off, h1, h2.below h3 hb3, by have := hb3.size; omega⟩
    have hLb := M.encAll_le 5 (65279 :: cs)
    rw [List.length_cons] at hLb
    generalize hLL : M.encAll 5 (65279 :: cs) = LL at *
    clear hLL c1 hBad hinW hb3 hTW hb0W hgW
    have hLb2 : LL.length ≤ 1300 := by omega
    have HIN := Lib.hid hin3
    have HNIL := Lib.hid hnil
    have HLC := Lib.hid hlc
    clear hin3 hnil hlc hLb
    cases a with
    | none =>
      obtain ⟨rfl, rfl⟩ := HNIL.out rfl
      go_wp2_with (first | (at_builtin; refine wpList_append_own _ rfl (.const (.slice none 0 0)) (.tmp 53) 22 rfl w3.heap.size 5 i0 (.int .u8 0) 1 1 Tryd.underlying22 hi hz0 hz1 hz2 rfl (by decide) (.slice none 0 0) 0 [] rfl (World.ownsRow_nil _ _ _ _) ⟨g, 0, none⟩ LL.length LL.length (LL.map bcell) rfl (by simp) (has_news hB) (bcell_one _) (by unfold maxLen; omega) (by omega) (Nat.le_refl _) ?_; intro v4 w4 hown4 hgrow4 _; simp only [Nat.zero_add, List.nil_append] at hown4; have hb34 : Below w3.heap.size w3 w4 := (Below.refl _ _).grown hgrow4 (Nat.le_refl _) (fun k hk => absurd (show (none : Option Nat) = some k from hk) (by simp)); have hBad4 := hBad3.below hgb3 hb34; clear hgrow4) | (at_builtin; refine wpList_append_own _ rfl (.tmp 54) (.tmp 55) 22 rfl w3.heap.size 5 i0 (.int .u8 0) 1 1 Tryd.underlying22 hi hz0 hz1 hz2 rfl (by decide) v4 LL.length (LL.map bcell) rfl hown4 ⟨gb, 0, none⟩ 4 4 (([0, 0, 17, 0] : List UInt8).map bcell) rfl (by simp) (has_news hBad4) (bcell_one _) (by unfold maxLen; omega) (by omega) hb34.size ?_; intro v5 w5 hown5 hgrow5 _; have hb35 : Below w3.heap.size w3 w5 := hb34.grown hgrow5 hb34.size (fun k hk => (hown4.lt k hk).1); clear hgrow5 hBad4 hown4) | (at_builtin; refine wpList_append_own_none rfl (.tmp 56) (.tmp 57) 22 rfl w3.heap.size 5 i0 1 Tryd.underlying22 hi v5 (LL.length + 4) (LL.map bcell ++ ([0, 0, 17, 0] : List UInt8).map bcell) rfl hown5 rfl ?_; have hown6' : w5.ownsRow w3.heap.size 5 1 v5 (LL ++ [0, 0, 17, 0] ++ []).length ((LL ++ [0, 0, 17, 0] ++ []).map bcell) := (by simpa using hown5); obtain ⟨gg, cp, hv6, hcp, hgg1, hgg2, hBB⟩ := own_has hown6' (by simp); obtain ⟨N, hN⟩ : ∃ N, (LL ++ [0, 0, 17, 0] ++ ([] : List UInt8)).length = N := ⟨_, rfl⟩; rw [hN] at hv6; rw [hv6]; have HN := Lib.hid hN; have HCP := Lib.hid hcp; have HBB := Lib.hid hBB; clear hown5 hown6' hv6 hN hcp hBB) | fail)
      have c3 := c2 gg cp w5 (hT3.below hb35) hgg2 HCP.out HBB.out
      rw [HN.out] at c3
      refine c3.mono ?_
      rintro r w7 ⟨rfl, hb7⟩
      have hb07 := (hb03.trans (hb35.mono hb03.size)).trans (hb7.mono (by have := hb03.size; have := hb35.size; omega))
      clear c2 c3
      go_wp2
      go_ret
      exact ⟨rfl, (hb07.alloc hb07.size _).alloc (by have := hb07.size; simp; omega) _⟩
    | some ad =>
      have hnews : ∀ W', Below w3.heap.size w3 W' → ∀ (j : Nat) (u : Value), (l.map bcell)[j]? = some u → W'.cell? (ad.add j) = some u := by
        intro W' hW' j u hj
        have hne : l ≠ [] := by intro h; rw [h] at hj; simp at hj
        obtain ⟨b, off, h1, h2, h3⟩ := HIN.out hne
        cases h1
        exact has_news (h2.below h3 hW') j u hj
      go_wp2_with (first | (at_builtin; refine wpList_append_own _ rfl (.const (.slice none 0 0)) (.tmp 53) 22 rfl w3.heap.size 5 i0 (.int .u8 0) 1 1 Tryd.underlying22 hi hz0 hz1 hz2 rfl (by decide) (.slice none 0 0) 0 [] rfl (World.ownsRow_nil _ _ _ _) ⟨g, 0, none⟩ LL.length LL.length (LL.map bcell) rfl (by simp) (has_news hB) (bcell_one _) (by unfold maxLen; omega) (by omega) (Nat.le_refl _) ?_; intro v4 w4 hown4 hgrow4 _; simp only [Nat.zero_add, List.nil_append] at hown4; have hb34 : Below w3.heap.size w3 w4 := (Below.refl _ _).grown hgrow4 (Nat.le_refl _) (fun k hk => absurd (show (none : Option Nat) = some k from hk) (by simp)); have hBad4 := hBad3.below hgb3 hb34; clear hgrow4) | (at_builtin; refine wpList_append_own _ rfl (.tmp 54) (.tmp 55) 22 rfl w3.heap.size 5 i0 (.int .u8 0) 1 1 Tryd.underlying22 hi hz0 hz1 hz2 rfl (by decide) v4 LL.length (LL.map bcell) rfl hown4 ⟨gb, 0, none⟩ 4 4 (([0, 0, 17, 0] : List UInt8).map bcell) rfl (by simp) (has_news hBad4) (bcell_one _) (by unfold maxLen; omega) (by omega) hb34.size ?_; intro v5 w5 hown5 hgrow5 _; have hb35 : Below w3.heap.size w3 w5 := hb34.grown hgrow5 hb34.size (fun k hk => (hown4.lt k hk).1); clear hgrow5 hBad4 hown4) | (at_builtin; refine wpList_append_own _ rfl (.tmp 56) (.tmp 57) 22 rfl w3.heap.size 5 i0 (.int .u8 0) 1 1 Tryd.underlying22 hi hz0 hz1 hz2 rfl (by decide) v5 (LL.length + 4) (LL.map bcell ++ ([0, 0, 17, 0] : List UInt8).map bcell) rfl hown5 ad l.length cap (l.map bcell) rfl (by simp) (hnews w5 hb35) (bcell_one _) (by unfold maxLen; omega) (by omega) hb35.size ?_; intro v6 w6 hown6 hgrow6 _; have hb36 : Below w3.heap.size w3 w6 := hb35.grown hgrow6 hb35.size (fun k hk => (hown5.lt k hk).1); have hown6' : w6.ownsRow w3.heap.size 5 1 v6 (LL ++ [0, 0, 17, 0] ++ l).length ((LL ++ [0, 0, 17, 0] ++ l).map bcell) := (by rw [List.length_append, List.length_append, List.map_append, List.map_append]; exact hown6); obtain ⟨gg, cp, hv6, hcp, hgg1, hgg2, hBB⟩ := own_has hown6' (by simp); obtain ⟨N, hN⟩ : ∃ N, (LL ++ [0, 0, 17, 0] ++ l).length = N := ⟨_, rfl⟩; rw [hN] at hv6; rw [hv6]; have HN := Lib.hid hN; have HCP := Lib.hid hcp; have HBB := Lib.hid hBB; clear hgrow6 hown5 hown6 hown6' hv6 hN hcp hBB) | fail)
      have c3 := c2 gg cp w6 (hT3.below hb36) hgg2 HCP.out HBB.out
      rw [HN.out] at c3
      refine c3.mono ?_
      rintro r w7 ⟨rfl, hb7⟩
      have hb07 := (hb03.trans (hb36.mono hb03.size)).trans (hb7.mono (by have := hb03.size; have := hb36.size; omega))
      clear c2 c3 hnews
      go_wp2
      go_ret
      exact ⟨rfl, (hb07.alloc hb07.size _).alloc (by have := hb07.size; simp; omega) _⟩

set_option maxRecDepth 100000 in
set_option maxHeartbeats 1000000 in
theorem wrong_5l (s : ByteArray) (a : Option Addr) (cap : Nat) (l : List UInt8) (x : Int) (w : World) (hT : Tabs w) (hs : s.size ≤ maxLen) (hx : 0 ≤ x ∧ x ≤ 255) (hxe : x % 5 = 4) (hn : l.length ≤ 50) (hin : InB w a cap l) :
    Calls Tryd.prog 7 #[.string s, .slice a l.length cap, .int .u8 x, .bool true] w fun r w' => r = .returned (.bool true) ∧ Below w.heap.size w w' := by
  have hfew := fun w => few_any s w hs
  unfold maxLen at hs
  have dn : decide ((50 : Int) < (l.length : Int)) = false := by simp; omega
  obtain ⟨i0, hi, hz0, hz1, hz2⟩ := info_parts Tryd.info5
  go_enter Tryd.func7, Tryd.ntmps7
  go_wp2_with fail
  refine (known_any _ hT).mono ?_
  rintro r w1 ⟨rfl, hb⟩
  have hT1 := hT.below hb
  go_wp2_with fail
  refine (hfew _).mono ?_
  rintro r w2 ⟨⟨b, rfl, hf⟩, rfl⟩
  cases b with
  | false =>
    clear hf hfew
    go_wp2
    go_ret
    exact ⟨rfl, hb⟩
  | true =>
    obtain ⟨hs3, cs, hw, hm⟩ := hf rfl
    have HM := Lib.hid hm
    have HW := Lib.hid hw
    have hcl := M.wf_len hw
    rw [← sz_list] at hcl
    clear hm hw hf hfew
    go_wp2_with fail
    obtain ⟨W, hWe⟩ : ∃ W, W = (((w1.alloc (.cells #[.int .u8 255] 5)).alloc (.cells #[.int .u8 0, .int .u8 0, .int .u8 17, .int .u8 0] 5)).alloc (.cells #[.int .u8 255, .int .u8 223, .int .u8 0, .int .u8 0] 5)) := ⟨_, rfl⟩
    have hbW : Below w1.heap.size w1 W := by rw [hWe]; exact ((((Below.refl w1.heap.size w1).alloc (Nat.le_refl _) _).alloc (by simp; try omega) _).alloc (by simp; try omega) _)
    have hBad : HasBytes W (w1.heap.size + 1 + 1) 0 [255, 223, 0, 0] := by
      rw [hWe]
      have h := HasBytes.lit ((w1.alloc (.cells #[.int .u8 255] 5)).alloc (.cells #[.int .u8 0, .int .u8 0, .int .u8 17, .int .u8 0] 5)) [255, 223, 0, 0]
      have hz : ((w1.alloc (.cells #[.int .u8 255] 5)).alloc (.cells #[.int .u8 0, .int .u8 0, .int .u8 17, .int .u8 0] 5)).heap.size = w1.heap.size + 1 + 1 := by simp
      rw [hz] at h
      exact h
    have hgW : w1.heap.size + 1 + 1 < W.heap.size := by rw [hWe]; simp
    rw [← hWe]
    clear hWe
    obtain ⟨gb, hgb⟩ : ∃ gb, gb = w1.heap.size + 1 + 1 := ⟨_, rfl⟩
    rw [← hgb] at hBad hgW ⊢
    clear hgb
    have hTW := hT1.below hbW
    have hb0W := hb.trans (hbW.mono hb.size)
    have hinW : l ≠ [] → ∃ b off, a = some ⟨b, off, none⟩ ∧ HasBytes W b off l ∧ b < W.heap.size := fun hne => by
      obtain ⟨b, off, h1, h2, h3⟩ := hin.2.2 hne
      exact ⟨b, off, h1, h2.below h3 hb0W, by have := hb0W.size; omega⟩
    have hnil := hin.2.1
    have hlc := hin.1
    clear hin hb hbW hT1 hT
    have c1 := encode_ne 5 (by omega) (bomS ++ s) (65279 :: cs) W hTW (by rw [append_sz, show bomS.size = 3 from rfl]; omega) (wf_bom_s HW.out) (by simp)
    unfold bomS at c1
    refine c1.mono ?_
    rintro r w3 ⟨g, rfl, hg1, hg2, hB, hb3⟩
    have c2 := fun gg cp w' hT' hg hc' hb' => decode_wrong 5 (by omega) cs HW.out.1 HM.out (by omega) [255, 223, 0, 0] l hn (by simp) (by simp) (badd5l l) (by intro h; omega) gg cp w' hT' hg hc' hb'
    unfold badEnd at c2
    have hT3 := hTW.below hb3
    have hb03 := hb0W.trans (hb3.mono hb0W.size)
    have hBad3 := hBad.below hgW hb3
    have hgb3 : gb < w3.heap.size := by have := hb3.size; omega
    have hin3 : l ≠ [] → ∃ b off, a = some ⟨b, off, none⟩ ∧ HasBytes w3 b off l ∧ b < w3.heap.size := fun hne => by
      obtain ⟨b, off, h1, h2, h3⟩ := hinW hne
      exact ⟨b, off, h1, h2.below h3 hb3, by have := hb3.size; omega⟩
    have hLb := M.encAll_le 5 (65279 :: cs)
    rw [List.length_cons] at hLb
    generalize hLL : M.encAll 5 (65279 :: cs) = LL at *
    clear hLL c1 hBad hinW hb3 hTW hb0W hgW
    have hLb2 : LL.length ≤ 1300 := by omega
    have HIN := Lib.hid hin3
    have HNIL := Lib.hid hnil
    have HLC := Lib.hid hlc
    clear hin3 hnil hlc hLb
    cases a with
    | none =>
      obtain ⟨rfl, rfl⟩ := HNIL.out rfl
      go_wp2_with (first | (at_builtin; refine wpList_append_own _ rfl (.const (.slice none 0 0)) (.tmp 53) 22 rfl w3.heap.size 5 i0 (.int .u8 0) 1 1 Tryd.underlying22 hi hz0 hz1 hz2 rfl (by decide) (.slice none 0 0) 0 [] rfl (World.ownsRow_nil _ _ _ _) ⟨g, 0, none⟩ LL.length LL.length (LL.map bcell) rfl (by simp) (has_news hB) (bcell_one _) (by unfold maxLen; omega) (by omega) (Nat.le_refl _) ?_; intro v4 w4 hown4 hgrow4 _; simp only [Nat.zero_add, List.nil_append] at hown4; have hb34 : Below w3.heap.size w3 w4 := (Below.refl _ _).grown hgrow4 (Nat.le_refl _) (fun k hk => absurd (show (none : Option Nat) = some k from hk) (by simp)); have hBad4 := hBad3.below hgb3 hb34; clear hgrow4) | (at_builtin; refine wpList_append_own _ rfl (.tmp 54) (.tmp 55) 22 rfl w3.heap.size 5 i0 (.int .u8 0) 1 1 Tryd.underlying22 hi hz0 hz1 hz2 rfl (by decide) v4 LL.length (LL.map bcell) rfl hown4 ⟨gb, 0, none⟩ 4 4 (([255, 223, 0, 0] : List UInt8).map bcell) rfl (by simp) (has_news hBad4) (bcell_one _) (by unfold maxLen; omega) (by omega) hb34.size ?_; intro v5 w5 hown5 hgrow5 _; have hb35 : Below w3.heap.size w3 w5 := hb34.grown hgrow5 hb34.size (fun k hk => (hown4.lt k hk).1); clear hgrow5 hBad4 hown4) | (at_builtin; refine wpList_append_own_none rfl (.tmp 56) (.tmp 57) 22 rfl w3.heap.size 5 i0 1 Tryd.underlying22 hi v5 (LL.length + 4) (LL.map bcell ++ ([255, 223, 0, 0] : List UInt8).map bcell) rfl hown5 rfl ?_; have hown6' : w5.ownsRow w3.heap.size 5 1 v5 (LL ++ [255, 223, 0, 0] ++ []).length ((LL ++ [255, 223, 0, 0] ++ []).map bcell) := (by simpa using hown5); obtain ⟨gg, cp, hv6, hcp, hgg1, hgg2, hBB⟩ := own_has hown6' (by simp); obtain ⟨N, hN⟩ : ∃ N, (LL ++ [255, 223, 0, 0] ++ ([] : List UInt8)).length = N := ⟨_, rfl⟩; rw [hN] at hv6; rw [hv6]; have HN := Lib.hid hN; have HCP := Lib.hid hcp; have HBB := Lib.hid hBB; clear hown5 hown6' hv6 hN hcp hBB) | fail)
      have c3 := c2 gg cp w5 (hT3.below hb35) hgg2 HCP.out HBB.out
      rw [HN.out] at c3
      refine c3.mono ?_
      rintro r w7 ⟨rfl, hb7⟩
      have hb07 := (hb03.trans (hb35.mono hb03.size)).trans (hb7.mono (by have := hb03.size; have := hb35.size; omega))
      clear c2 c3
      go_wp2
      go_ret
      exact ⟨rfl, (hb07.alloc hb07.size _).alloc (by have := hb07.size; simp; omega) _⟩
    | some ad =>
      have hnews : ∀ W', Below w3.heap.size w3 W' → ∀ (j : Nat) (u : Value), (l.map bcell)[j]? = some u → W'.cell? (ad.add j) = some u := by
        intro W' hW' j u hj
        have hne : l ≠ [] := by intro h; rw [h] at hj; simp at hj
        obtain ⟨b, off, h1, h2, h3⟩ := HIN.out hne
        cases h1
        exact has_news (h2.below h3 hW') j u hj
      go_wp2_with (first | (at_builtin; refine wpList_append_own _ rfl (.const (.slice none 0 0)) (.tmp 53) 22 rfl w3.heap.size 5 i0 (.int .u8 0) 1 1 Tryd.underlying22 hi hz0 hz1 hz2 rfl (by decide) (.slice none 0 0) 0 [] rfl (World.ownsRow_nil _ _ _ _) ⟨g, 0, none⟩ LL.length LL.length (LL.map bcell) rfl (by simp) (has_news hB) (bcell_one _) (by unfold maxLen; omega) (by omega) (Nat.le_refl _) ?_; intro v4 w4 hown4 hgrow4 _; simp only [Nat.zero_add, List.nil_append] at hown4; have hb34 : Below w3.heap.size w3 w4 := (Below.refl _ _).grown hgrow4 (Nat.le_refl _) (fun k hk => absurd (show (none : Option Nat) = some k from hk) (by simp)); have hBad4 := hBad3.below hgb3 hb34; clear hgrow4) | (at_builtin; refine wpList_append_own _ rfl (.tmp 54) (.tmp 55) 22 rfl w3.heap.size 5 i0 (.int .u8 0) 1 1 Tryd.underlying22 hi hz0 hz1 hz2 rfl (by decide) v4 LL.length (LL.map bcell) rfl hown4 ⟨gb, 0, none⟩ 4 4 (([255, 223, 0, 0] : List UInt8).map bcell) rfl (by simp) (has_news hBad4) (bcell_one _) (by unfold maxLen; omega) (by omega) hb34.size ?_; intro v5 w5 hown5 hgrow5 _; have hb35 : Below w3.heap.size w3 w5 := hb34.grown hgrow5 hb34.size (fun k hk => (hown4.lt k hk).1); clear hgrow5 hBad4 hown4) | (at_builtin; refine wpList_append_own _ rfl (.tmp 56) (.tmp 57) 22 rfl w3.heap.size 5 i0 (.int .u8 0) 1 1 Tryd.underlying22 hi hz0 hz1 hz2 rfl (by decide) v5 (LL.length + 4) (LL.map bcell ++ ([255, 223, 0, 0] : List UInt8).map bcell) rfl hown5 ad l.length cap (l.map bcell) rfl (by simp) (hnews w5 hb35) (bcell_one _) (by unfold maxLen; omega) (by omega) hb35.size ?_; intro v6 w6 hown6 hgrow6 _; have hb36 : Below w3.heap.size w3 w6 := hb35.grown hgrow6 hb35.size (fun k hk => (hown5.lt k hk).1); have hown6' : w6.ownsRow w3.heap.size 5 1 v6 (LL ++ [255, 223, 0, 0] ++ l).length ((LL ++ [255, 223, 0, 0] ++ l).map bcell) := (by rw [List.length_append, List.length_append, List.map_append, List.map_append]; exact hown6); obtain ⟨gg, cp, hv6, hcp, hgg1, hgg2, hBB⟩ := own_has hown6' (by simp); obtain ⟨N, hN⟩ : ∃ N, (LL ++ [255, 223, 0, 0] ++ l).length = N := ⟨_, rfl⟩; rw [hN] at hv6; rw [hv6]; have HN := Lib.hid hN; have HCP := Lib.hid hcp; have HBB := Lib.hid hBB; clear hgrow6 hown5 hown6 hown6' hv6 hN hcp hBB) | fail)
      have c3 := c2 gg cp w6 (hT3.below hb36) hgg2 HCP.out HBB.out
      rw [HN.out] at c3
      refine c3.mono ?_
      rintro r w7 ⟨rfl, hb7⟩
      have hb07 := (hb03.trans (hb36.mono hb03.size)).trans (hb7.mono (by have := hb03.size; have := hb36.size; omega))
      clear c2 c3 hnews
      go_wp2
      go_ret
      exact ⟨rfl, (hb07.alloc hb07.size _).alloc (by have := hb07.size; simp; omega) _⟩

theorem wrong_any (s : ByteArray) (a : Option Addr) (cap : Nat) (l : List UInt8) (x : Int) (low : Bool) (w : World) (hT : Tabs w) (hs : s.size ≤ maxLen) (hx : 0 ≤ x ∧ x ≤ 255) (hin : InB w a cap l) :
    Calls Tryd.prog 7 #[.string s, .slice a l.length cap, .int .u8 x, .bool low] w fun r w' => r = .returned (.bool true) ∧ Below w.heap.size w w' := by
  by_cases hn : 50 < l.length
  · exact wrong_out s a l.length cap x low w hT hs hn
  have hn' : l.length ≤ 50 := by omega
  rcases (show x % 5 = 0 ∨ x % 5 = 1 ∨ x % 5 = 2 ∨ x % 5 = 3 ∨ x % 5 = 4 by omega) with h | h | h | h | h
  · cases low with
    | false => exact wrong_1 s a cap l x w hT hs hx h hn' hin
    | true => exact wrong_1l s a cap l x w hT hs hx h hn' hin
  · exact wrong_2 s a cap l x low w hT hs hx h hn' hin
  · exact wrong_3 s a cap l x low w hT hs hx h hn' hin
  · cases low with
    | false => exact wrong_4 s a cap l x w hT hs hx h hn' hin
    | true => exact wrong_4l s a cap l x w hT hs hx h hn' hin
  · cases low with
    | false => exact wrong_5 s a cap l x w hT hs hx h hn' hin
    | true => exact wrong_5l s a cap l x w hT hs hx h hn' hin

end Go.Proofs.YthlbeoakaebcpaaDoor
