/- Walks of targum/utf's putUnit and put: what they write, and that they write nothing else. -/
import Derived.Test.YthlbeoakaebcpaaDoorWg
import Derived.Lib.EndianMore
namespace Go.Proofs.YthlbeoakaebcpaaDoor
open Go.RowKit

/-- These cells were written from a place of a block on, and nothing else. -/
structure Wrote (w w' : World) (b off : Nat) (xs : List Value) : Prop where
  os : w'.os = w.os
  tape : w'.tape = w.tape
  output : w'.output = w.output
  size : w'.heap.size = w.heap.size
  block : ∀ k, k ≠ b → w'.heap[k]? = w.heap[k]?
  inn : ∀ j (h : j < xs.length), w'.cell? ⟨b, off + j, none⟩ = some xs[j]
  out : ∀ i, (i < off ∨ off + xs.length ≤ i) → w'.cell? ⟨b, i, none⟩ = w.cell? ⟨b, i, none⟩
  frozen : ∀ i, w'.frozen? ⟨b, i, none⟩ = w.frozen? ⟨b, i, none⟩
def Can (w : World) (b off k : Nat) : Prop := ∀ j, j < k → (w.cell? ⟨b, off + j, none⟩).isSome = true ∧ w.frozen? ⟨b, off + j, none⟩ = false

theorem Wrote.one (w : World) (b o : Nat) (v : Value) (h : (w.cell? ⟨b, o, none⟩).isSome = true) : Wrote w (w.setCell ⟨b, o, none⟩ v) b o [v] := by
  obtain ⟨u, hu⟩ := Option.isSome_iff_exists.1 h
  refine ⟨rfl, rfl, rfl, by simp [World.setCell], fun k hk => Below.heap_setCell w _ v k hk, ?_, ?_, fun i => World.frozen?_setCell ..⟩
  · intro j hj
    obtain rfl : j = 0 := by simp at hj; exact hj
    exact World.cell?_setCell_same _ _ _ hu
  · intro i hi
    refine World.cell?_setCell_other _ _ _ _ (fun e => ?_)
    have := congrArg Addr.off e
    simp at hi this
    omega
theorem Wrote.nil (w : World) (b o : Nat) : Wrote w w b o [] := ⟨rfl, rfl, rfl, rfl, fun _ _ => rfl, fun j h => by simp at h, fun _ _ => rfl, fun _ => rfl⟩
/-- The first part first. -/
theorem Wrote.trans {w w1 w2 : World} {b off : Nat} {xs ys : List Value} (h : Wrote w w1 b off xs) (k : Wrote w1 w2 b (off + xs.length) ys) : Wrote w w2 b off (xs ++ ys) := by
  refine ⟨k.os.trans h.os, k.tape.trans h.tape, k.output.trans h.output, k.size.trans h.size, fun i hi => (k.block i hi).trans (h.block i hi), ?_, ?_, fun i => (k.frozen i).trans (h.frozen i)⟩
  · intro j hj
    by_cases hx : j < xs.length
    · rw [k.out (off + j) (Or.inl (by omega)), h.inn j hx, List.getElem_append_left hx]
    · have := k.inn (j - xs.length) (by simp at hj; omega)
      rw [show off + xs.length + (j - xs.length) = off + j by omega] at this
      rw [this, List.getElem_append_right (by omega)]
  · intro i hi
    simp at hi
    rw [k.out i (by omega), h.out i (by omega)]
/-- The hinder part first. -/
theorem Wrote.back {w w1 w2 : World} {b off : Nat} {xs ys : List Value} (h : Wrote w w1 b (off + xs.length) ys) (k : Wrote w1 w2 b off xs) : Wrote w w2 b off (xs ++ ys) := by
  refine ⟨k.os.trans h.os, k.tape.trans h.tape, k.output.trans h.output, k.size.trans h.size, fun i hi => (k.block i hi).trans (h.block i hi), ?_, ?_, fun i => (k.frozen i).trans (h.frozen i)⟩
  · intro j hj
    by_cases hx : j < xs.length
    · rw [k.inn j hx, List.getElem_append_left hx]
    · rw [k.out (off + j) (Or.inr (by omega))]
      have := h.inn (j - xs.length) (by simp at hj; omega)
      rw [show off + xs.length + (j - xs.length) = off + j by omega] at this
      rw [this, List.getElem_append_right (by omega)]
  · intro i hi
    simp at hi
    rw [k.out i (by omega), h.out i (by omega)]
theorem Wrote.isSome {w w' : World} {b off : Nat} {xs : List Value} (h : Wrote w w' b off xs) (i : Nat) (hi : (w.cell? ⟨b, i, none⟩).isSome = true) : (w'.cell? ⟨b, i, none⟩).isSome = true := by
  by_cases hx : i < off ∨ off + xs.length ≤ i
  · rw [h.out i hx]; exact hi
  · have := h.inn (i - off) (by omega)
    rw [show off + (i - off) = i by omega] at this
    rw [this]; rfl
theorem Wrote.can {w w' : World} {b off : Nat} {xs : List Value} (h : Wrote w w' b off xs) {o k : Nat} (hc : Can w b o k) : Can w' b o k := fun j hj => ⟨h.isSome _ (hc j hj).1, (h.frozen _).trans (hc j hj).2⟩
theorem Wrote.setCells (b : Nat) : ∀ (vs : List Value) (o : Nat) (w : World), (∀ j, j < vs.length → (w.cell? ⟨b, o + j, none⟩).isSome = true) → Wrote w (w.setCells b o vs) b o vs
  | [], o, w, _ => Wrote.nil w b o
  | v :: r, o, w, h => by
    have h1 := Wrote.one w b o v (h 0 (by simp))
    have h2 := Wrote.setCells b r (o + 1) (w.setCell ⟨b, o, none⟩ v) (fun j hj => h1.isSome _ (by have := h (j + 1) (by simp; omega); rwa [show o + (j + 1) = o + 1 + j by omega] at this))
    exact h1.trans h2
theorem Can.drop {w : World} {b off k : Nat} (h : Can w b off k) (i : Nat) : Can w b (off + i) (k - i) := fun j hj => by
  have := h (i + j) (by omega)
  rwa [← Nat.add_assoc] at this
theorem Can.mono {w : World} {b off k k' : Nat} (h : Can w b off k) (hk : k' ≤ k) : Can w b off k' := fun j hj => h j (by omega)

theorem bcell_u8 (n : Nat) : bcell (M.u8 n) = .int .u8 ((n % 256 : Nat) : Int) := by unfold bcell; rw [M.u8_toNat]
theorem int_u8 {a : Int} {n : Nat} (h : a = ((n % 256 : Nat) : Int)) : Value.int .u8 a = bcell (M.u8 n) := by rw [bcell_u8, h]

theorem Wrote.two (w : World) (b off : Nat) (x y : Value) (hc : Can w b off 2) : Wrote w ((w.setCell ⟨b, off, none⟩ x).setCell ⟨b, off + 1, none⟩ y) b off [x, y] := by
  have h1 := Wrote.one w b off x (hc 0 (by omega)).1
  exact h1.trans (Wrote.one _ b (off + 1) y (h1.isSome _ (hc 1 (by omega)).1))
theorem Wrote.two' (w : World) (b off : Nat) (x y : Value) (hc : Can w b off 2) : Wrote w ((w.setCell ⟨b, off + 1, none⟩ y).setCell ⟨b, off, none⟩ x) b off [x, y] := by
  have h1 := Wrote.one w b (off + 1) y (hc 1 (by omega)).1
  exact Wrote.back (xs := [x]) h1 (Wrote.one _ b off x (h1.isSome _ (hc 0 (by omega)).1))

theorem Wrote.four (w : World) (b off : Nat) (x y z u : Value) (hc : Can w b off 4) : Wrote w ((((w.setCell ⟨b, off, none⟩ x).setCell ⟨b, off + 1, none⟩ y).setCell ⟨b, off + 2, none⟩ z).setCell ⟨b, off + 2 + 1, none⟩ u) b off [x, y, z, u] := by
  have h1 := Wrote.two w b off x y (hc.mono (by omega))
  have h2 := Wrote.two _ b (off + 2) z u (h1.can (hc.drop 2))
  exact h1.trans h2
theorem Wrote.four' (w : World) (b off : Nat) (x y z u : Value) (hc : Can w b off 4) : Wrote w ((((w.setCell ⟨b, off + 3, none⟩ u).setCell ⟨b, off + 2, none⟩ z).setCell ⟨b, off + 1, none⟩ y).setCell ⟨b, off, none⟩ x) b off [x, y, z, u] := by
  have h1 := Wrote.two' w b (off + 2) z u (hc.drop 2)
  have h2 := Wrote.two' _ b off x y ((h1.can hc).mono (by omega))
  exact Wrote.back (xs := [x, y]) h1 h2

set_option maxRecDepth 100000 in
set_option maxHeartbeats 1000000 in
theorem putUnit_two (e : Nat) (he : e = 2 ∨ e = 3) (b off cap n u : Nat) (w : World) (hn : 2 ≤ n) (hu : u < 65536) (hc : Can w b off 2) :
    Calls Tryd.prog 43 #[.int .i64 e, .slice (some ⟨b, off, none⟩) n cap, .int .u32 u] w fun r w' => r = .returned (.tuple #[]) ∧ Wrote w w' b off ((M.unit2 (e == 2) u).map bcell) := by
  obtain ⟨h0, f0⟩ := hc 0 (by omega)
  obtain ⟨h1, f1⟩ := hc 1 (by omega)
  obtain ⟨c0, h0⟩ := Option.isSome_iff_exists.1 h0
  obtain ⟨c1, h1⟩ := Option.isSome_iff_exists.1 h1
  rw [Nat.add_zero] at h0 f0
  have hn0 : (0 : Int) < (n : Int) := by omega
  have hn1 : (1 : Int) < (n : Int) := by omega
  rcases he with rfl | rfl
  · go_enter Tryd.func43, Tryd.ntmps43
    go_wp2
    go_end0
    refine ⟨rfl, ?_⟩
    have h := Wrote.two w b off (bcell (M.u8 (u / 256))) (bcell (M.u8 u)) hc
    rw [← int_u8 (show (u : Int) / 256 = _ by omega), ← int_u8 (show (u : Int) % 256 = _ by omega)] at h
    have e : (M.unit2 ((2 : Nat) == 2) u).map bcell = [.int .u8 ((u : Int) / 256), .int .u8 ((u : Int) % 256)] := by
      rw [int_u8 (show (u : Int) / 256 = ((u / 256 % 256 : Nat) : Int) by omega), int_u8 (show (u : Int) % 256 = ((u % 256 : Nat) : Int) by omega)]; rfl
    rw [e]
    exact h
  · go_enter Tryd.func43, Tryd.ntmps43
    go_wp2
    go_end0
    refine ⟨rfl, ?_⟩
    have e : (M.unit2 ((3 : Nat) == 2) u).map bcell = [.int .u8 ((u : Int) % 256), .int .u8 ((u : Int) / 256)] := by
      rw [int_u8 (show (u : Int) / 256 = ((u / 256 % 256 : Nat) : Int) by omega), int_u8 (show (u : Int) % 256 = ((u % 256 : Nat) : Int) by omega)]; rfl
    rw [e]
    exact Wrote.two' w b off _ _ hc

set_option maxRecDepth 100000 in
set_option maxHeartbeats 1000000 in
theorem putUnit_four (e : Nat) (he : e = 4 ∨ e = 5) (b off cap n u : Nat) (w : World) (hn : 4 ≤ n) (hcap : n ≤ cap) (hu : u ≤ 1114111) (hc : Can w b off 4) :
    Calls Tryd.prog 43 #[.int .i64 e, .slice (some ⟨b, off, none⟩) n cap, .int .u32 u] w fun r w' => r = .returned (.tuple #[]) ∧ Wrote w w' b off ((M.unit4 (e == 4) u).map bcell) := by
  obtain ⟨h0, f0⟩ := hc 0 (by omega)
  obtain ⟨h1, f1⟩ := hc 1 (by omega)
  obtain ⟨h2, f2⟩ := hc 2 (by omega)
  obtain ⟨h3, f3⟩ := hc 3 (by omega)
  obtain ⟨c0, h0⟩ := Option.isSome_iff_exists.1 h0
  obtain ⟨c1, h1⟩ := Option.isSome_iff_exists.1 h1
  obtain ⟨c2, h2⟩ := Option.isSome_iff_exists.1 h2
  obtain ⟨c3, h3⟩ := Option.isSome_iff_exists.1 h3
  rw [Nat.add_zero] at h0 f0
  have hn0 : (0 : Int) < (n : Int) := by omega
  have hn1 : (1 : Int) < (n : Int) := by omega
  have hn2 : (2 : Int) < (n : Int) := by omega
  have hn3 : (3 : Int) < (n : Int) := by omega
  rcases he with rfl | rfl
  · have h3' : w.cell? ⟨b, off + 2 + 1, none⟩ = some c3 := h3
    have f3' : w.frozen? ⟨b, off + 2 + 1, none⟩ = false := f3
    go_enter Tryd.func43, Tryd.ntmps43
    go_wp2
    go_end0
    refine ⟨rfl, ?_⟩
    have e : (M.unit4 ((4 : Nat) == 4) u).map bcell = [.int .u8 ((u : Int) / 16777216), .int .u8 ((u : Int) / 65536), .int .u8 ((u : Int) / 256 % 256), .int .u8 ((u : Int) % 256)] := by
      rw [int_u8 (show (u : Int) / 16777216 = ((u / 16777216 % 256 : Nat) : Int) by omega), int_u8 (show (u : Int) / 65536 = ((u / 65536 % 256 : Nat) : Int) by omega), int_u8 (show (u : Int) / 256 % 256 = ((u / 256 % 256 : Nat) : Int) by omega), int_u8 (show (u : Int) % 256 = ((u % 256 : Nat) : Int) by omega)]; rfl
    rw [e]
    exact Wrote.four w b off _ _ _ _ hc
  · go_enter Tryd.func43, Tryd.ntmps43
    go_wp2
    go_end0
    refine ⟨rfl, ?_⟩
    have e : (M.unit4 ((5 : Nat) == 4) u).map bcell = [.int .u8 ((u : Int) % 256), .int .u8 ((u : Int) / 256 % 256), .int .u8 ((u : Int) / 65536), .int .u8 ((u : Int) / 16777216)] := by
      rw [int_u8 (show (u : Int) / 16777216 = ((u / 16777216 % 256 : Nat) : Int) by omega), int_u8 (show (u : Int) / 65536 = ((u / 65536 % 256 : Nat) : Int) by omega), int_u8 (show (u : Int) / 256 % 256 = ((u / 256 % 256 : Nat) : Int) by omega), int_u8 (show (u : Int) % 256 = ((u % 256 : Nat) : Int) by omega)]; rfl
    rw [e]
    exact Wrote.four' w b off _ _ _ _ hc

theorem encodeRune_any (b off n cap c : Nat) (hc : M.IsScalar c) (w : World) (hl : (M.utf8 c).length ≤ n) (hcan : Can w b off (M.utf8 c).length) :
    Calls Tryd.prog 42 #[.slice (some ⟨b, off, none⟩) n cap, .int .i32 c] w fun e w' => e = .returned (.int .i64 (M.utf8 c).length) ∧ Wrote w w' b off ((M.utf8 c).map bcell) := by
  have hcb : c ≤ 1114111 := by unfold M.IsScalar at hc; omega
  have e := runeCells_utf8 c hc
  have el : (Lib.runeCells (c : Int)).length = (M.utf8 c).length := by rw [e, List.length_map]
  refine (Any7.utf8_EncodeRune Tryd.lays7n30 b off n cap c (by omega) (by omega) w (by rw [el]; exact hl) (fun j hj => (hcan j (by rw [← el]; exact hj)).1) (fun j hj => (hcan j (by rw [← el]; exact hj)).2)).mono ?_
  rintro r w' ⟨rfl, rfl⟩
  refine ⟨by rw [el], ?_⟩
  rw [e]
  exact Wrote.setCells b _ off w (fun j hj => (hcan j (by rw [List.length_map] at hj; exact hj)).1)

set_option maxRecDepth 100000 in
set_option maxHeartbeats 2000000 in
/-- utf.put: it lays a scalar's bytes, and nothing else. -/
theorem put_any (e : Nat) (he : 1 ≤ e ∧ e ≤ 5) (b off cap n c : Nat) (w : World) (hc : M.IsScalar c) (hl : (M.enc1 e c).length ≤ n) (hcap : n ≤ cap) (hcan : Can w b off (M.enc1 e c).length) :
    Calls Tryd.prog 30 #[.int .i64 e, .slice (some ⟨b, off, none⟩) n cap, .int .i32 c] w fun r w' => r = .returned (.tuple #[]) ∧ Wrote w w' b off ((M.enc1 e c).map bcell) := by
  have hcb : c ≤ 1114111 := by unfold M.IsScalar at hc; omega
  by_cases h1 : e = 1
  · subst h1
    rw [M.enc1_1] at hl hcan ⊢
    have c1 := encodeRune_any b off n cap c hc w hl hcan
    clear hc hcan
    generalize (M.utf8 c).map bcell = X at *
    generalize (M.utf8 c).length = k at *
    go_enter Tryd.func30, Tryd.ntmps30
    go_wp2_with (go_at_call 42; refine c1.mono ?_; rintro r w' ⟨rfl, hw⟩)
    go_end0
    exact ⟨rfl, hw⟩
  by_cases h2 : e = 2 ∨ e = 3
  · have hen : M.enc1 e c = M.utf16 (e == 2) c := by rcases h2 with rfl | rfl; exact M.enc1_2 c; exact M.enc1_3 c
    rw [hen] at hl hcan ⊢
    by_cases h3 : c < 65536
    · have hu : M.utf16 (e == 2) c = M.unit2 (e == 2) c := by unfold M.utf16; rw [if_pos h3]
      rw [hu] at hl hcan ⊢
      rw [M.unit2_length] at hl hcan
      have c1 := putUnit_two e h2 b off cap n c w hl h3 hcan
      have d1 : decide ((65536 : Int) ≤ (c : Int)) = false := by simp; omega
      have hcz : (c : Int) < 65536 := by omega
      clear hc hcan hen hu h3 hcb he h1
      generalize (M.unit2 (e == 2) c).map bcell = X at *
      rcases h2 with rfl | rfl
      all_goals
        go_enter Tryd.func30, Tryd.ntmps30
        go_wp2_with (go_at_call 43; refine c1.mono ?_; rintro r w' ⟨rfl, hw⟩)
        go_end0
        exact ⟨rfl, hw⟩
    · have hu : M.utf16 (e == 2) c = M.unit2 (e == 2) (55296 + (c - 65536) / 1024) ++ M.unit2 (e == 2) (56320 + (c - 65536) % 1024) := by unfold M.utf16; rw [if_neg h3]
      rw [hu] at hl hcan ⊢
      rw [List.length_append, M.unit2_length, M.unit2_length] at hl hcan
      obtain ⟨x, hx⟩ : ∃ x, c = x + 65536 := ⟨c - 65536, by omega⟩
      subst hx
      rw [show x + 65536 - 65536 = x by omega]
      have hxb : x < 1048576 := by omega
      have c1 := putUnit_two e h2 b off cap n (55296 + x / 1024) w (by omega) (by omega) (hcan.mono (by omega))
      have c2 := fun w' (h : Can w' b (off + 2) 2) => putUnit_two e h2 b (off + 2) (cap - 2) (n - 2) (56320 + x % 1024) w' (by omega) (by omega) h
      have d1 : decide ((65536 : Int) ≤ (x : Int) + 65536) = true := by simp; omega
      have hxz : (x : Int) < 1048576 := by omega
      have hnz : (2 : Int) ≤ (n : Int) := by omega
      have hand : bits .and .u32 (x : Int) 1023 = (x : Int) % 1024 := by
        have h := u32_and_nat x 1023 (by omega) (by omega)
        rw [nat_mask10] at h
        rw [show ((1023 : Nat) : Int) = 1023 from rfl] at h
        rw [h]; omega
      rw [show ((55296 + x / 1024 : Nat) : Int) = 55296 + (x : Int) / 1024 by omega] at c1
      rw [show ((56320 + x % 1024 : Nat) : Int) = 56320 + (x : Int) % 1024 by omega] at c2
      clear hc hen hu h3 hcb he h1 hxb
      rcases h2 with rfl | rfl
      all_goals
        go_enter Tryd.func30, Tryd.ntmps30
        go_wp2_with fail
        refine c1.mono ?_
        rintro r w1 ⟨rfl, hw1⟩
        have hcan1 := (hw1.can hcan).drop 2
        go_wp2_with fail
        refine (c2 _ hcan1).mono ?_
        rintro r w2 ⟨rfl, hw2⟩
        go_wp2
        refine bodyPost_ret (v := .tuple #[]) (results_none rfl _ _ _) rfl ⟨rfl, ?_⟩
        rw [List.map_append]
        exact hw1.trans (by rw [List.length_map, M.unit2_length]; exact hw2)
  · have h4 : e = 4 ∨ e = 5 := by omega
    have hen : M.enc1 e c = M.unit4 (e == 4) c := by rcases h4 with rfl | rfl; exact M.enc1_4 c; exact M.enc1_5 c
    rw [hen] at hl hcan ⊢
    rw [M.unit4_length] at hl hcan
    have c1 := putUnit_four e h4 b off cap n c w hl hcap hcb hcan
    clear hc hcan hen he h1 h2
    generalize (M.unit4 (e == 4) c).map bcell = X at *
    rcases h4 with rfl | rfl
    all_goals
      go_enter Tryd.func30, Tryd.ntmps30
      go_wp2_with (go_at_call 43; refine c1.mono ?_; rintro r w' ⟨rfl, hw⟩)
      go_end0
      exact ⟨rfl, hw⟩

end Go.Proofs.YthlbeoakaebcpaaDoor
