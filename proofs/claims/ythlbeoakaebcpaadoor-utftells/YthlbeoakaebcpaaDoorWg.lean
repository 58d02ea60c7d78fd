/- Walk of targum/utf's Decode. -/
import Derived.Test.YthlbeoakaebcpaaDoorWf
import Derived.Lib.BufferRead
namespace Go.Proofs.YthlbeoakaebcpaaDoor
open Go.RowKit

def bcell (x : UInt8) : Value := .int .u8 (x.toNat : Nat)
theorem conv_own {w : World} {B : Nat} {v : Value} {l : List UInt8} (h : w.ownsRow B 5 1 v l.length (l.map bcell)) : (convert 22 9 v).run Tryd.prog w = .ok (.string (bA l)) w := by
  obtain ⟨h1, ⟨rfl, h2⟩ | ⟨g, cap, cur, rfl, hg, hh, hc, hm, hsz, ht⟩⟩ := h
  · have : l = [] := by cases l <;> simp_all
    subst this
    exact Lib.run_convert_nil_bytes w 22 9 5 0 Tryd.underlying22 Tryd.underlying5 Tryd.underlying9
  · refine run_convert_bytes_back w 22 9 5 ⟨g, 0, none⟩ cap l Tryd.underlying22 Tryd.underlying5 Tryd.underlying9 ?_
    exact Lib.bytes_of_row hh (by rw [Nat.mul_one] at ht; rw [ht]; rfl)

theorem det_range (l : List UInt8) : 1 ≤ (det l).1 ∧ (det l).1 ≤ 5 ∧ 0 ≤ (det l).2 ∧ (det l).2 ≤ l.length ∧ (det l).2 ≤ 4 := by
  unfold det det3 det1 det4 det2
  repeat' split
  all_goals simp_all
  all_goals omega

/-- What Decode comes to: scalars up to the end, or up to a place at which none begins. -/
def DecPost (l : List UInt8) (e m : Nat) (r : Ending) : Prop :=
  ∃ cs i, m ≤ i ∧ i ≤ l.length ∧ M.Steps e (l.drop m) cs (l.drop i) ∧ (∀ c ∈ cs, M.IsScalar c) ∧
    ((i = l.length ∧ r = .returned (.tuple #[.agg #[.int .i64 e, .int .i64 m, .string (bA (M.encAll 1 cs))], .agg #[.int .i64 0, .int .i64 0]])) ∨
     (i < l.length ∧ (M.nx e (l.drop i)).2 = 0 ∧ r = .returned (.tuple #[.agg #[.int .i64 0, .int .i64 0, .string ⟨#[]⟩], .agg #[.int .i64 10, .int .i64 i]])))
/-- Decode's loop at its head: so many bytes are read, as these scalars. -/
def DecRel (l : List UInt8) (e m B : Nat) (w : World) (v : Value) (k : Nat) (cs : List Nat) (wr : World) : Prop :=
  m ≤ k ∧ k ≤ l.length ∧ cs.length ≤ k ∧ M.Steps e (l.drop m) cs (l.drop k) ∧ (∀ c ∈ cs, M.IsScalar c) ∧ wr.ownsRow B 5 1 v (M.encAll 1 cs).length ((M.encAll 1 cs).map bcell) ∧ Below B w wr

theorem HasBytes.below {w w' : World} {b off B : Nat} {l : List UInt8} (h : HasBytes w b off l) (hb : b < B) (hw : Below B w w') : HasBytes w' b off l :=
  fun j hj => (hw.cell (p := ⟨b, off + j, none⟩) hb).trans (h j hj)
theorem HasBytes.drop {w : World} {b off : Nat} {l : List UInt8} (h : HasBytes w b off l) (k : Nat) : HasBytes w b (off + k) (l.drop k) := fun j hj => by
  rw [List.length_drop] at hj
  rw [M.by8_drop, Nat.add_assoc]
  exact h (k + j) (by omega)

theorem ownsRow_below {B : Nat} {ty : TypeId} {sz : Nat} {v : Value} {n : Nat} {xs : List Value} {w w' : World} (h : w.ownsRow B ty sz v n xs) (hb : Below w.heap.size w w') : w'.ownsRow B ty sz v n xs := by
  obtain ⟨h1, h2 | ⟨g, cap, cur, hv, hg, hh, rest⟩⟩ := h
  · exact ⟨h1, Or.inl h2⟩
  · exact ⟨h1, Or.inr ⟨g, cap, cur, hv, hg, (hb.block g (lt_of_block hh)).trans hh, rest⟩⟩
theorem runeCells_utf8 (c : Nat) (hc : M.IsScalar c) : Lib.runeCells (c : Int) = (M.utf8 c).map bcell := by
  unfold M.IsScalar at hc
  have hb : ∀ n : Nat, n < 256 → bcell (M.u8 n) = .int .u8 (n : Int) := by
    intro n hn; unfold bcell; rw [M.u8_toNat, Nat.mod_eq_of_lt hn]
  unfold Lib.runeCells M.utf8
  by_cases h1 : c < 128
  · rw [if_pos h1, Lib.encodeRuneZ_one (by omega) (by omega)]
    simp only [List.map_cons, List.map_nil]
    rw [hb _ (by omega)]
  rw [if_neg h1]
  by_cases h2 : c < 2048
  · rw [if_pos h2, Lib.encodeRuneZ_two (by omega) (by omega)]
    simp only [List.map_cons, List.map_nil]
    rw [hb _ (by omega), hb _ (by omega)]
    rfl
  rw [if_neg h2]
  by_cases h3 : c < 65536
  · rw [if_pos h3, Lib.encodeRuneZ_three (by omega)]
    simp only [List.map_cons, List.map_nil]
    rw [hb _ (by omega), hb _ (by omega), hb _ (by omega)]
    rfl
  rw [if_neg h3, Lib.encodeRuneZ_four (by omega) (by omega)]
  simp only [List.map_cons, List.map_nil]
  rw [hb _ (by omega), hb _ (by omega), hb _ (by omega), hb _ (by omega)]
  rfl
theorem encAll_snoc (cs : List Nat) (c : Nat) : M.encAll 1 (cs ++ [c]) = M.encAll 1 cs ++ M.utf8 c := by
  rw [M.encAll_append, M.encAll_cons, M.encAll_nil, List.append_nil, M.enc1_1]

/-- The two results' cells, which the call lays first. -/
structure Res (K : Nat) (w : World) : Prop where
  h0 : w.heap[K]? = some (.cells #[.int .i64 0, .int .i64 0, .string ⟨#[]⟩] 27 (0, 0))
  h1 : w.heap[K + 1]? = some (.cells #[.int .i64 0, .int .i64 0] 30 (0, 0))
theorem Res.below {K : Nat} {w w' : World} (h : Res K w) (hb : Below (K + 2) w w') : Res K w' := ⟨(hb.block K (by omega)).trans h.h0, (hb.block (K + 1) (by omega)).trans h.h1⟩
theorem Res.c0 {K : Nat} {w : World} (h : Res K w) : w.cell? ⟨K, 0, none⟩ = some (.int .i64 0) := by simp [World.cell?, h.h0]
theorem Res.c1 {K : Nat} {w : World} (h : Res K w) : w.cell? ⟨K, 1, none⟩ = some (.int .i64 0) := by simp [World.cell?, h.h0]
theorem Res.c2 {K : Nat} {w : World} (h : Res K w) : w.cell? ⟨K, 2, none⟩ = some (.string ⟨#[]⟩) := by simp [World.cell?, h.h0]
theorem Res.d0 {K : Nat} {w : World} (h : Res K w) : w.cell? ⟨K + 1, 0, none⟩ = some (.int .i64 0) := by simp [World.cell?, h.h1]
theorem Res.d1 {K : Nat} {w : World} (h : Res K w) : w.cell? ⟨K + 1, 1, none⟩ = some (.int .i64 0) := by simp [World.cell?, h.h1]
theorem Res.f0 {K : Nat} {w : World} (h : Res K w) (j : Nat) : w.frozen? ⟨K, j, none⟩ = false := by simp [World.frozen?, h.h0]
theorem Res.f1 {K : Nat} {w : World} (h : Res K w) (j : Nat) : w.frozen? ⟨K + 1, j, none⟩ = false := by simp [World.frozen?, h.h1]

set_option maxRecDepth 100000 in
set_option maxHeartbeats 4000000 in
theorem decode_any (b off cap : Nat) (l : List UInt8) (w : World) (hT : Tabs w) (hp : HasBytes w b off l) (hb : b < w.heap.size) (hcap : l.length ≤ cap) (hl : l.length ≤ 100000) :
    Calls Tryd.prog 13 #[.slice (some ⟨b, off, none⟩) l.length cap] w fun r w' => DecPost l (det l).1.toNat (det l).2.toNat r ∧ Below w.heap.size w w' := by
  have hr := det_range l
  have c1 : ∀ W : World, HasBytes W b off l → Calls Tryd.prog 11 #[.slice (some ⟨b, off, none⟩) l.length cap] W fun r w' => r = .returned (.tuple #[.int .i64 (det l).1, .int .i64 (det l).2]) ∧ Hid (w' = W) := fun W h =>
    (detect_any b off cap l W h).mono fun _ _ ⟨h1, h2⟩ => ⟨h1, h2.symm⟩
  obtain ⟨e, he⟩ := Int.eq_ofNat_of_zero_le (show 0 ≤ (det l).1 by omega)
  obtain ⟨m, hm⟩ := Int.eq_ofNat_of_zero_le (show 0 ≤ (det l).2 by omega)
  rw [he, hm] at c1 hr ⊢
  simp only [Int.toNat_natCast]
  have hE : 1 ≤ e ∧ e ≤ 5 := by omega
  have hml : m ≤ l.length := by omega
  have hm4 : m ≤ 4 := by omega
  clear hr he hm
  go_enter Tryd.func13, Tryd.ntmps13
  go_wp2_with fail
  refine (c1 _ (fun j hj => ?_)).mono ?_
  · have h := hp j hj
    rw [← h]
    have hbx := ((Below.refl w.heap.size w).alloc (Nat.le_refl _) (.cells #[.int .i64 0, .int .i64 0, .string ⟨#[]⟩] 27)).alloc (by simp) (.cells #[.int .i64 0, .int .i64 0] 30)
    exact hbx.cell (p := ⟨b, off + j, none⟩) hb
  rintro r W2 ⟨rfl, HW⟩
  have hWsz : W2.heap.size = w.heap.size + 2 := by rw [HW.out]; simp
  have hWb : Below w.heap.size w W2 := by
    rw [HW.out]
    exact ((Below.refl w.heap.size w).alloc (Nat.le_refl _) _).alloc (by simp) _
  have hWr : Res w.heap.size W2 := by
    rw [HW.out]
    exact ⟨(Below.heap_alloc _ _ _ (by simp)).trans (heap_alloc_new w _), by have h := heap_alloc_new (w.alloc (.cells #[.int .i64 0, .int .i64 0, .string ⟨#[]⟩] 27)) (.cells #[.int .i64 0, .int .i64 0] 30); simpa using h⟩
  clear HW c1
  go_wp2_with fail
  go_loopw [6, 7] (fun v i wr => ∃ (k : Nat) (cs : List Nat), i = .int .i64 k ∧ DecRel l e m (w.heap.size + 2) W2 v k cs wr) (fun _ i _ => l.length - (intOf i).toNat)
  case atStart => exact ⟨m, [], rfl, Nat.le_refl _, hml, Nat.zero_le _, M.Steps.nil _, by simp, World.ownsRow_nil _ _ _ _, Below.refl _ _⟩
  case round =>
    obtain ⟨k, cs, rfl, hmk, hkl, hck, hst, hsc, hown, hbw⟩ := hrel
    have hTr : Tabs wr := (hT.below hWb).below (hbw.mono (by omega))
    have hpr : HasBytes wr b off l := (hp.below hb hWb).below (by omega) hbw
    have hrr : Res w.heap.size wr := hWr.below hbw
    have hwsz := hbw.size
    by_cases hlt : k < l.length
    · have c2 := next_any e hE b (off + k) (cap - k) (l.drop k) wr hTr (hpr.drop k) (by intro h; have := congrArg List.length h; simp at this; omega) (by simp; omega)
      rw [List.length_drop] at c2
      have hok := M.nx_ok e (l.drop k)
      rw [List.length_drop] at hok
      obtain ⟨⟨c, n⟩, hcn⟩ : ∃ d, M.nx e (l.drop k) = d := ⟨_, rfl⟩
      rw [hcn] at c2 hok
      simp only at c2 hok
      have HCN := Lib.hid hcn
      have HST := Lib.hid hst
      have HSC := Lib.hid hsc
      clear hcn hst hsc
      have hcapk : (k : Int) ≤ (cap : Int) := by omega
      have hltd : decide (k < l.length) = true := by simpa using hlt
      by_cases hn : n = 0
      · subst hn
        clear hok hown
        go_wp2_with fail
        refine c2.mono ?_
        rintro r w3 ⟨rfl, hb3⟩
        have hr3 : Res w.heap.size w3 := hrr.below (hb3.mono (by omega))
        have hz3 : w.heap.size + 2 ≤ w3.heap.size := by have := hb3.size; omega
        have q0 := hr3.c0; have q1 := hr3.c1; have q2 := hr3.c2; have q3 := hr3.d0; have q4 := hr3.d1
        have f0 := hr3.f0 0; have f1 := hr3.f0 1; have f2 := hr3.f0 2; have f3 := hr3.f1 0; have f4 := hr3.f1 1
        clear hrr hr3 hTr hpr hWr hT hp
        go_wp2
        refine bodyPost_ret (v := .tuple #[.agg #[.int .i64 0, .int .i64 0, .string ⟨#[]⟩], .agg #[.int .i64 10, .int .i64 k]]) (by simp [results, Tryd.results13, go_sem, q0, q1, q2, q3, q4]) rfl ⟨⟨cs, k, hmk, hkl, HST.out, HSC.out, Or.inr ⟨hlt, by rw [HCN.out], rfl⟩⟩, ?_⟩
        exact ((((((hWb.trans (hbw.mono (by omega))).trans (hb3.mono (by omega))).setCell (Nat.le_refl _) _).setCell (Nat.le_refl _) _).setCell (Nat.le_refl _) _).setCell (Nat.le_succ _) _).setCell (Nat.le_succ _) _
      · have hn1 : 1 ≤ n := by omega
        obtain ⟨ok1, ok2, ok3⟩ := hok hn
        clear hok
        have hnb : ((n : Int) == 0) = false := by simp; omega
        have hcb : c ≤ 1114111 := by unfold M.IsScalar at ok1; omega
        have hel := M.encAll_le 1 cs
        have OK1 := Lib.hid ok1
        clear ok1
        go_wp2_with fail
        refine c2.mono ?_
        rintro r w3 ⟨rfl, hb3⟩
        have hown3 := ownsRow_below hown hb3
        have hb23 : Below (w.heap.size + 2) W2 w3 := hbw.trans (hb3.mono (by omega))
        have hz3 : w.heap.size + 2 ≤ w3.heap.size := by have := hb3.size; omega
        clear hrr hTr hpr hown hb3 hbw c2
        go_wp2_with fail
        refine (Tryd.utf8_AppendRune_plain (w.heap.size + 2) _ _ _ (c : Int) (by omega) (by omega) w3 hown3 (by omega) (by omega)).mono ?_
        rintro r w4 ⟨v', rfl, hown4, o, hg4⟩
        have hb4 : Below (w.heap.size + 2) W2 w4 := (hb23.alloc hz3 o).grown hg4 (by simp; omega) (fun k hk => (hown3.lt k hk).1)
        rw [runeCells_utf8 c OK1.out, List.length_map, ← List.map_append, ← List.length_append, ← encAll_snoc] at hown4
        clear hown3 hg4 hb23
        go_wp2
        go_roundw
        case rel =>
          refine ⟨k + n, cs ++ [c], by go_num, by omega, by omega, by simp; omega, ?_, ?_, hown4, hb4⟩
          · have h := HST.out.snoc HCN.out hn
            rwa [List.drop_drop] at h
          · intro x hx
            rcases List.mem_append.1 hx with h | h
            · exact HSC.out x h
            · rw [List.mem_singleton.1 h]; exact OK1.out
        case measure => simp [intOf]; omega
    · obtain rfl : k = l.length := by omega
      have hcv := conv_own hown
      have hltd : decide (l.length < l.length) = false := by simp
      have q0 := hrr.c0; have q1 := hrr.c1; have q2 := hrr.c2; have q3 := hrr.d0; have q4 := hrr.d1
      have f0 := hrr.f0 0; have f1 := hrr.f0 1; have f2 := hrr.f0 2; have f3 := hrr.f1 0; have f4 := hrr.f1 1
      have HST := Lib.hid hst
      have HSC := Lib.hid hsc
      clear hst hsc hrr hown hTr hpr hWr hT hp
      go_wp2
      refine bodyPost_ret (v := .tuple #[.agg #[.int .i64 e, .int .i64 m, .string (bA (M.encAll 1 cs))], .agg #[.int .i64 0, .int .i64 0]]) (by simp [results, Tryd.results13, go_sem, q0, q1, q2, q3, q4]) rfl ⟨⟨cs, l.length, hmk, hkl, HST.out, HSC.out, Or.inl ⟨rfl, rfl⟩⟩, ?_⟩
      exact (((((hWb.trans (hbw.mono (by omega))).setCell (Nat.le_refl _) _).setCell (Nat.le_refl _) _).setCell (Nat.le_refl _) _).setCell (Nat.le_succ _) _).setCell (Nat.le_succ _) _

end Go.Proofs.YthlbeoakaebcpaaDoor
