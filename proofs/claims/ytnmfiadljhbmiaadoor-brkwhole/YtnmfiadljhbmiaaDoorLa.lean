/- The law BrkWhole: its walk. -/
import Derived.Test.YtnmfiadljhbmiaaDoorLb
import Derived.IntWalk
set_option linter.unusedVariables false
namespace Go.Proofs.YtnmfiadljhbmiaaDoor
open Go.RowKit

/-- Where the k-th line begins. -/
def begin3 (ls : List (Nat × Nat × Nat)) : Nat → Nat
  | 0 => 0
  | k + 1 => match ls[k]? with | some x => x.2.2 | none => 0
theorem good_at (o : Bool) (L : List UInt8) : ∀ (ls : List (Nat × Nat × Nat)) (p : Nat), M.Good o L p ls → ∀ (k : Nat) (h : k < ls.length),
    (ls[k]).1 = (if k = 0 then p else begin3 ls k) ∧ (ls[k]).1 ≤ (ls[k]).2.1 ∧ (ls[k]).2.1 ≤ (ls[k]).2.2 ∧ (ls[k]).2.2 ≤ L.length ∧ (ls[k]).1 < L.length ∧ (ls[k]).2.2 - (ls[k]).2.1 = M.brkN o (L.drop (ls[k]).2.1) ∧
      (∀ j, (ls[k]).1 ≤ j → j < (ls[k]).2.1 → M.brkN o (L.drop j) = 0) ∧ ((ls[k]).2.2 = (ls[k]).2.1 → k + 1 = ls.length) := by
  intro ls
  induction ls with
  | nil => intro p _ k h; exact absurd h (by simp)
  | cons y r ih =>
    obtain ⟨a, e, x⟩ := y
    intro p hg k h
    obtain ⟨g1, g2, g3, g4, g5, g6, g7, g8, g9⟩ := hg
    match k, h with
    | 0, h =>
      refine ⟨g1, g2, g3, g4, g5, g6, g7, fun hx => ?_⟩
      rw [g8 hx]; rfl
    | k + 1, h =>
      have h' : k < r.length := by simpa using h
      have q := ih x g9 k h'
      simp only [List.getElem_cons_succ, Nat.add_one_ne_zero, if_false]
      refine ⟨?_, q.2.1, q.2.2.1, q.2.2.2.1, q.2.2.2.2.1, q.2.2.2.2.2.1, q.2.2.2.2.2.2.1, fun hx => by have := q.2.2.2.2.2.2.2 hx; simp; omega⟩
      rw [q.1]
      cases k with
      | zero => rfl
      | succ k => rfl
theorem good_end (o : Bool) (L : List UInt8) : ∀ (ls : List (Nat × Nat × Nat)) (p : Nat), M.Good o L p ls → (if ls.length = 0 then p else begin3 ls ls.length) = L.length := by
  intro ls
  induction ls with
  | nil => intro p h; exact h
  | cons y r ih =>
    obtain ⟨a, e, x⟩ := y
    intro p hg
    have q := ih x hg.2.2.2.2.2.2.2.2
    rw [if_neg (by simp)]
    cases r with
    | nil => exact q
    | cons z r =>
      rw [if_neg (by simp)] at q
      exact q
theorem begin3_succ (ls : List (Nat × Nat × Nat)) (k : Nat) (h : k < ls.length) : begin3 ls (k + 1) = (ls[k]).2.2 := by
  simp only [begin3, List.getElem?_eq_getElem h]

/-- What the law asks of lines. -/
structure Facts (o : Bool) (L : List UInt8) (n : Nat) (X : List (Nat × Nat × Nat)) : Prop where
  row : ∀ (k : Nat) (h : k < X.length), ∃ a e x N, X[k] = (a, e, x) ∧ a = (if k = 0 then 0 else begin3 X k) ∧ a ≤ e ∧ e ≤ x ∧ x ≤ n ∧ a < n ∧ x = e + N ∧ N = M.brkN o (L.drop e) ∧ (∀ j, a ≤ j → j < e → M.brkN o (L.drop j) = 0) ∧ (x = e → k + 1 = X.length) ∧ begin3 X (k + 1) = x
  stop : (if X.length = 0 then 0 else begin3 X X.length) = n
  few : X.length ≤ n + 1
theorem facts_of (o : Bool) (s : ByteArray) : Facts o s.data.toList s.size (M.lines o s.data.toList) := by
  have hg := M.good_lines o s.data.toList
  refine ⟨fun k h => ?_, ?_, ?_⟩
  · have q := good_at o s.data.toList _ _ hg k h
    rw [← sz_list] at q
    have e3 := begin3_succ _ k h
    obtain ⟨⟨a, e, x⟩, hx⟩ : ∃ y, (M.lines o s.data.toList)[k] = y := ⟨_, rfl⟩
    rw [hx] at q e3
    simp only at q e3
    exact ⟨a, e, x, x - e, hx, q.1, q.2.1, q.2.2.1, q.2.2.2.1, q.2.2.2.2.1, by omega, q.2.2.2.2.2.1, q.2.2.2.2.2.2.1, q.2.2.2.2.2.2.2, e3⟩
  · have := good_end o s.data.toList _ _ hg
    rw [← sz_list] at this; exact this
  · have := lines_le o s.data.toList
    rw [← sz_list] at this; exact this

set_option maxRecDepth 100000 in
set_option maxHeartbeats 4000000 in
theorem whole_any (s : ByteArray) (old : Bool) (w : World) (hT : Tabs w) (hs : s.size ≤ maxLen) :
    Calls Tryd.prog 4 #[.string s, .bool old] w fun r w' => r = .returned (.bool true) ∧ Below w.heap.size w w' := by
  unfold maxLen at hs
  have HLs := Lib.hid (sz_list s)
  go_enter Tryd.func4, Tryd.ntmps4
  go_wp2_with fail
  refine (known_any w hT).mono ?_
  rintro r w1 ⟨rfl, b1⟩
  by_cases h3 : 300 < s.size
  · have d3 : decide ((300 : Int) < (s.size : Int)) = true := by simp; omega
    go_wp2
    go_ret
    exact ⟨rfl, b1⟩
  have d3 : decide ((300 : Int) < (s.size : Int)) = false := by simp; omega
  have hs3 : s.size ≤ 300 := by omega
  clear h3 hs
  go_wp2_with fail
  refine (version_any old _).mono ?_
  rintro r w1' ⟨rfl, rfl⟩
  obtain ⟨V, hV⟩ : ∃ V : Int, (if old = true then 11 else 12) = V := ⟨_, rfl⟩
  rw [hV]
  clear hV
  go_wp2_with fail
  refine (lines_any V s _ (by omega)).mono ?_
  rintro r w2 ⟨⟨v2, rfl, o2⟩, b2⟩
  have hF := facts_of (isOld V) s
  obtain ⟨X, hX⟩ : ∃ X, M.lines (isOld V) s.data.toList = X := ⟨_, rfl⟩
  rw [hX] at o2 hF
  clear hX
  have B2 : Below w.heap.size w w2 := b1.trans (b2.mono b1.size)
  clear b1 b2
  obtain ⟨ad, cp, hv2, hrow⟩ := o2.sl
  rw [hv2]
  clear hv2 o2
  have cB := fun i W => break_any V s i W (by omega)
  have hXl := hF.few
  have HF := Lib.hid hF
  have HRow := Lib.hid hrow
  clear hF hrow
  go_wp2_with fail
  go_loopw [7, 8] (fun p v wr => ∃ k : Nat, v = .int .i64 k ∧ k ≤ X.length ∧ p = .int .i64 (if k = 0 then 0 else begin3 X k : Nat) ∧ Below w2.heap.size w2 wr) (fun _ v _ => X.length - (intOf v).toNat)
  case atStart => exact ⟨0, rfl, Nat.zero_le _, rfl, Below.refl _ _⟩
  case round =>
    obtain ⟨k, rfl, hk, rfl, hbw⟩ := hrel
    by_cases hlt : k < X.length
    · have hltd : decide (k < X.length) = true := by simpa using hlt
      obtain ⟨a, e, x, n, hXk, hA, h1, h2, h3, h4, h5, h6, h7, h8, h9⟩ := HF.out.row k hlt
      rw [← hA]
      obtain ⟨g, rfl, hrows, hgl⟩ := HRow.out (by intro h; rw [h] at hlt; simp at hlt)
      obtain ⟨r0, r1, r2⟩ := (hrows.below hgl hbw) k hlt
      rw [hXk] at r0 r1 r2
      simp only at r0 r1 r2
      have cE := cB e
      rw [brkZ_nat, ← h6] at cE
      have H7 := Lib.hid h7
      have H9 := Lib.hid h9
      have t1 : decide (e < a) = false := by simp; omega
      have t2 : decide (x < e) = false := by simp; omega
      have t3 : decide (s.size < x) = false := by simp; omega
      have t4 : ((x : Int) - (e : Int) != (n : Int)) = false := by simp; omega
      have t6 : ((x : Int) == (e : Int)) = true ∧ decide ((k : Int) < (X.length : Int) - 1) = false ∨ ((x : Int) == (e : Int)) = false := by
        by_cases hxe : x = e
        · left; exact ⟨by simp; omega, by have := h8 hxe; simp; omega⟩
        · right; simp; omega
      have hX1 : 1 ≤ X.length := by omega
      have q1 : IntKind.i64.wrap ((X.length : Int) - 1) = (X.length : Int) - 1 := IntWalk.i64_in _ (by omega)
      have q2 : IntKind.i64.wrap ((x : Int) - (e : Int)) = (x : Int) - (e : Int) := IntWalk.i64_in _ (by omega)
      have HCB := Lib.hid cB
      clear hXk hA hrows h5 h6 h7 h8 h9 cB
      rcases t6 with ⟨t6, t7⟩ | t6
      · go_wp2_with fail
        go_quiet ((go_at_call 10; exact Calls.quiet_of_same ((cE _).mono fun _ _ h => ⟨h.1, h.2.symm⟩)))
        clear q1 q2 cE
        go_wp2_with fail
        go_loop [9] (fun v => ∃ j : Nat, v = .int .i64 j ∧ a ≤ j ∧ j ≤ e) (fun v => e - (intOf v).toNat)
        case atStart => exact ⟨a, rfl, Nat.le_refl _, h1⟩
        case round =>
          obtain ⟨j, rfl, hj1, hj2⟩ := hrel
          by_cases hje : j < e
          · have hjd : decide (j < e) = true := by simpa using hje
            have cJ := HCB.out (j : Int)
            rw [brkZ_nat, H7.out j hj1 hje] at cJ
            go_wp2_with fail
            refine (cJ _).mono ?_
            rintro r w' ⟨rfl, rfl⟩
            go_wp2
            go_round
            case rel => exact ⟨j + 1, by go_num, by omega, by omega⟩
            case measure => simp [intOf]; omega
          · obtain rfl : j = e := by omega
            have hjd : decide (j < j) = false := by simp
            go_wp2
            go_roundw
            case rel => exact ⟨k + 1, by go_num, by omega, by rw [if_neg (by omega), H9.out], below_dN hbw _⟩
            case measure => simp [intOf]; omega
      · go_wp2_with fail
        go_quiet ((go_at_call 10; exact Calls.quiet_of_same ((cE _).mono fun _ _ h => ⟨h.1, h.2.symm⟩)))
        clear q1 q2 cE
        go_wp2_with fail
        go_loop [9] (fun v => ∃ j : Nat, v = .int .i64 j ∧ a ≤ j ∧ j ≤ e) (fun v => e - (intOf v).toNat)
        case atStart => exact ⟨a, rfl, Nat.le_refl _, h1⟩
        case round =>
          obtain ⟨j, rfl, hj1, hj2⟩ := hrel
          by_cases hje : j < e
          · have hjd : decide (j < e) = true := by simpa using hje
            have cJ := HCB.out (j : Int)
            rw [brkZ_nat, H7.out j hj1 hje] at cJ
            go_wp2_with fail
            refine (cJ _).mono ?_
            rintro r w' ⟨rfl, rfl⟩
            go_wp2
            go_round
            case rel => exact ⟨j + 1, by go_num, by omega, by omega⟩
            case measure => simp [intOf]; omega
          · obtain rfl : j = e := by omega
            have hjd : decide (j < j) = false := by simp
            go_wp2
            go_roundw
            case rel => exact ⟨k + 1, by go_num, by omega, by rw [if_neg (by omega), H9.out], below_dN hbw _⟩
            case measure => simp [intOf]; omega
    · obtain rfl : k = X.length := by omega
      have hltd : decide (X.length < X.length) = false := by simp
      have hend := HF.out.stop
      rw [hend]
      by_cases h0 : X = []
      · have z0 : X.length = 0 := by rw [h0]; rfl
        have z1 : ((X.length : Int) == 0) = true := by simp; omega
        clear hend hlt cB
        go_wp2
        go_ret
        exact ⟨rfl, B2.trans (hbw.mono B2.size)⟩
      · have z0 : 0 < X.length := List.length_pos_iff.2 h0
        have z1 : ((X.length : Int) == 0) = false := by simp; omega
        obtain ⟨a, e, x, n, hXk, hA, h1, h2, h3, h4, h5⟩ := HF.out.row (X.length - 1) (by omega)
        obtain ⟨g, rfl, hrows, hgl⟩ := HRow.out h0
        obtain ⟨r0, r1, r2⟩ := (hrows.below hgl hbw) (X.length - 1) (by omega)
        rw [hXk] at r0
        simp only at r0
        have t1 : decide (a < s.size) = true := by simpa using h4
        have q0 : ((X.length : Int) - 1).toNat = X.length - 1 := by omega
        clear hend hlt cB hXk hA h1 h2 h3 h4 h5 hrows r1 r2 h0
        go_wp2
        go_ret
        exact ⟨rfl, B2.trans (hbw.mono B2.size)⟩

end Go.Proofs.YtnmfiadljhbmiaaDoor
