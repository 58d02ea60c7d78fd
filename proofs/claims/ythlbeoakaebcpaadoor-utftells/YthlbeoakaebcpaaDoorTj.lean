/- The law UtfTells: what the program and the document answer, side by side. -/
import Derived.Test.YthlbeoakaebcpaaDoorTg
import Derived.Test.YthlbeoakaebcpaaDoorTi
namespace Go.Proofs.YthlbeoakaebcpaaDoor
open Go.RowKit

/-- A slice that reads as these bytes. -/
def Rd (v : Value) (L : List UInt8) (w : World) : Prop := (L = [] ∧ v = .slice none 0 0) ∨ ∃ g cap, v = .slice (some ⟨g, 0, none⟩) L.length cap ∧ g < w.heap.size ∧ HasBytes w g 0 L
theorem Rd.below {v : Value} {L : List UInt8} {w w' : World} (h : Rd v L w) (hb : Below w.heap.size w w') : Rd v L w' := by
  rcases h with h | ⟨g, cap, h1, h2, h3⟩
  · exact Or.inl h
  · exact Or.inr ⟨g, cap, h1, by have := hb.size; omega, h3.below h2 hb⟩
theorem Rd.conv {v : Value} {L : List UInt8} {w : World} (h : Rd v L w) : (convert 22 9 v).run Tryd.prog w = .ok (.string (bA L)) w := by
  rcases h with ⟨rfl, rfl⟩ | ⟨g, cap, rfl, h2, h3⟩
  · exact Lib.run_convert_nil_bytes w 22 9 5 0 Tryd.underlying22 Tryd.underlying5 Tryd.underlying9
  · exact conv_has h3
theorem Rd.slice {v : Value} {L : List UInt8} {w : World} (h : Rd v L w) : ∃ a cap, v = .slice a L.length cap := by
  rcases h with ⟨rfl, rfl⟩ | ⟨g, cap, rfl, h2, h3⟩
  · exact ⟨none, 0, rfl⟩
  · exact ⟨_, cap, rfl⟩
theorem rd_of_own {w : World} {B : Nat} {v : Value} {l : List UInt8} (h : w.ownsRow B 5 1 v l.length (l.map bcell)) : Rd v l w := by
  obtain ⟨h1, ⟨hv, h2⟩ | ⟨g, cap, cur, hv, hg, hh, hc, hm, hsz, ht⟩⟩ := h
  · exact Or.inl ⟨List.length_eq_zero_iff.1 h2, hv⟩
  · refine Or.inr ⟨g, cap, hv, lt_of_block hh, fun j hj => ?_⟩
    have := Lib.bytes_of_row hh (by rw [Nat.mul_one] at ht; rw [ht]; rfl) j hj
    rw [Addr.add_lit] at this
    rw [this, ← bcell_by8 l j hj]; rfl

open Classical in
/-- The bytes of a text in an encoding; none, where there is nothing to be told. -/
noncomputable def encL (e : Int) (s : ByteArray) : List UInt8 := if h : ∃ cs, M.Wf s.data.toList cs then M.encAll e.toNat h.choose else []
theorem encL_wf (e : Int) (s : ByteArray) (h : Lib.validD s.data.toList = true) : ∃ cs, M.Wf s.data.toList cs ∧ encL e s = M.encAll e.toNat cs := by
  have hx := M.valid_of _ h
  exact ⟨hx.choose, hx.choose_spec, by unfold encL; rw [dif_pos hx]⟩
theorem encL_bad (e : Int) (s : ByteArray) (h : Lib.validD s.data.toList = false) : encL e s = [] := by
  unfold encL
  rw [dif_neg]
  rintro ⟨cs, hw⟩
  rw [M.valid_wf hw] at h
  cases h

theorem enc16 (e : Int) (s : ByteArray) (w : World) (hT : Tabs w) (hs : s.size ≤ 200) :
    Calls Tryd.prog 16 #[.int .i64 e, .string s] w fun r w' => ∃ v, r = .returned v ∧ Rd v (encL e s) w' ∧ Below w.heap.size w w' := by
  cases hv : Lib.validD s.data.toList with
  | false =>
    rw [encL_bad e s hv]
    refine (encode_bad e s w hT (by omega) hv).mono ?_
    rintro r w' ⟨rfl, hb⟩
    exact ⟨_, rfl, Or.inl ⟨rfl, rfl⟩, hb⟩
  | true =>
    obtain ⟨cs, hw, he⟩ := encL_wf e s hv
    rw [he]
    refine (encode_wf e s cs w hT (by omega) hw).mono ?_
    rintro r w' ⟨⟨h, rfl⟩ | ⟨_, g, rfl, _, h2, h3⟩, hb⟩
    · exact ⟨_, rfl, Or.inl ⟨h, rfl⟩, hb⟩
    · exact ⟨_, rfl, Or.inr ⟨g, _, rfl, h2, h3⟩, hb⟩
theorem enc17 (e : Int) (s : ByteArray) (w : World) (hs : s.size ≤ 200) :
    Calls Tryd.prog 17 #[.int .i64 e, .string s] w fun r w' => ∃ v, r = .returned v ∧ Rd v (encL e s) w' ∧ Below w.heap.size w w' := by
  have out : (e < 1 ∨ 5 < e ∨ Lib.validD s.data.toList = false) → encL e s = [] → Calls Tryd.prog 17 #[.int .i64 e, .string s] w fun r w' => ∃ v, r = .returned v ∧ Rd v (encL e s) w' ∧ Below w.heap.size w w' := by
    intro h h0
    refine (rencode_out e s w (by omega) h).mono ?_
    rintro r w' ⟨rfl, rfl⟩
    exact ⟨_, rfl, Or.inl ⟨h0, rfl⟩, Below.refl _ _⟩
  cases hv : Lib.validD s.data.toList with
  | false => exact out (Or.inr (Or.inr hv)) (encL_bad e s hv)
  | true =>
    obtain ⟨cs, hw, he⟩ := encL_wf e s hv
    by_cases h : 1 ≤ e ∧ e ≤ 5
    · obtain ⟨n, rfl⟩ := Int.eq_ofNat_of_zero_le (show 0 ≤ e by omega)
      rw [he, Int.toNat_natCast]
      refine (rencode_wf n (by omega) s cs w (by omega) hw).mono ?_
      rintro r w' ⟨v, rfl, h1, h2⟩
      exact ⟨v, rfl, rd_of_own h1, h2⟩
    · exact out (by omega) (by rw [he]; exact M.encAll_none _ (by omega) cs)
theorem enc18 (e : Int) (s : ByteArray) (w : World) (hT : Tabs w) (hs : s.size ≤ 200) :
    Calls Tryd.prog 18 #[.int .i64 e, .string s] w fun r w' => r = .returned (.int .i64 ((encL e s).length : Nat)) ∧ Below w.heap.size w w' := by
  cases hv : Lib.validD s.data.toList with
  | false =>
    rw [encL_bad e s hv]
    exact size_bad e s w hT (by omega) hv
  | true =>
    obtain ⟨cs, hw, he⟩ := encL_wf e s hv
    rw [he]
    exact size_wf e s cs w hT (by omega) hw
set_option maxRecDepth 100000 in
theorem enc19 (e : Int) (s : ByteArray) (w : World) (hs : s.size ≤ 200) :
    Calls Tryd.prog 19 #[.int .i64 e, .string s] w fun r w' => r = .returned (.int .i64 ((encL e s).length : Nat)) ∧ Below w.heap.size w w' := by
  have c := enc17 e s w hs
  generalize encL e s = L at *
  go_enter Tryd.func19, Tryd.ntmps19
  go_wp2_with fail
  refine c.mono ?_
  rintro r w1 ⟨v, rfl, h1, h2⟩
  obtain ⟨a, cap, rfl⟩ := h1.slice
  clear h1 c
  go_wp2
  go_ret
  exact ⟨rfl, h2⟩

theorem DecPost.same {l : List UInt8} {e m : Nat} {r r' : Ending} (h : DecPost l e m r) (h' : DecPost l e m r') : r = r' := by
  obtain ⟨ds, i, hmi, hil, hst, _, hr⟩ := h
  obtain ⟨ds', i', hmi', hil', hst', _, hr'⟩ := h'
  have st : (M.nx e (l.drop i)).2 = 0 := by
    rcases hr with ⟨hi, _⟩ | ⟨_, h, _⟩
    · rw [hi, List.drop_length, M.nx_nil]
    · exact h
  have st' : (M.nx e (l.drop i')).2 = 0 := by
    rcases hr' with ⟨hi, _⟩ | ⟨_, h, _⟩
    · rw [hi, List.drop_length, M.nx_nil]
    · exact h
  obtain ⟨rfl, h2⟩ := hst.det st hst' st'
  have hlen := congrArg List.length h2
  rw [List.length_drop, List.length_drop] at hlen
  obtain rfl : i = i' := by omega
  rcases hr with ⟨hi, hr⟩ | ⟨hi, _, hr⟩
  · rcases hr' with ⟨_, hr'⟩ | ⟨hi', _, _⟩
    · rw [hr, hr']
    · omega
  · rcases hr' with ⟨hi', _⟩ | ⟨_, _, hr'⟩
    · omega
    · rw [hr, hr']
theorem DecPost.shape {l : List UInt8} {e m : Nat} {r : Ending} (h : DecPost l e m r) : ∃ (x y o p : Int) (z : ByteArray), r = .returned (.tuple #[.agg #[.int .i64 x, .int .i64 y, .string z], .agg #[.int .i64 o, .int .i64 p]]) := by
  obtain ⟨ds, i, _, _, _, _, ⟨_, hr⟩ | ⟨_, _, hr⟩⟩ := h
  · exact ⟨_, _, _, _, _, hr⟩
  · exact ⟨_, _, _, _, _, hr⟩

theorem decPost_nil : DecPost [] 1 0 (.returned (.tuple #[.agg #[.int .i64 1, .int .i64 0, .string (bA [])], .agg #[.int .i64 0, .int .i64 0]])) :=
  ⟨[], 0, Nat.le_refl _, Nat.le_refl _, M.Steps.nil _, (by simp), Or.inl ⟨rfl, rfl⟩⟩

set_option maxRecDepth 100000 in
set_option maxHeartbeats 2000000 in
theorem decode_nil (a : Option Addr) (cap : Nat) (w : World) :
    Calls Tryd.prog 13 #[.slice a 0 cap] w fun r w' => DecPost [] 1 0 r ∧ Below w.heap.size w w' := by
  have c1 : ∀ W : World, Calls Tryd.prog 11 #[.slice a 0 cap] W fun r w' => r = .returned (.tuple #[.int .i64 1, .int .i64 0]) ∧ Hid (w' = W) := fun W =>
    (detect_01 a 0 cap W (by omega)).mono fun _ _ ⟨h1, h2⟩ => ⟨h1, h2.symm⟩
  go_enter Tryd.func13, Tryd.ntmps13
  go_wp2_with fail
  refine (c1 _).mono ?_
  rintro r W2 ⟨rfl, HW⟩
  have hWb : Below w.heap.size w W2 := by
    rw [HW.out]
    exact ((Below.refl w.heap.size w).alloc (Nat.le_refl _) _).alloc (by simp) _
  have hrr : Res w.heap.size W2 := by
    rw [HW.out]
    exact ⟨(Below.heap_alloc _ _ _ (by simp)).trans (heap_alloc_new w _), by have h := heap_alloc_new (w.alloc (.cells #[.int .i64 0, .int .i64 0, .string ⟨#[]⟩] 27)) (.cells #[.int .i64 0, .int .i64 0] 30); simpa using h⟩
  clear HW c1
  go_wp2_with fail
  go_loopw [6, 7] (fun v i wr => v = .slice none 0 0 ∧ i = .int .i64 0 ∧ wr = W2) (fun _ _ _ => 0)
  case atStart => exact ⟨rfl, rfl, rfl⟩
  case round =>
    obtain ⟨rfl, rfl, rfl⟩ := hrel
    have hcv : (convert 22 9 (.slice none 0 0)).run Tryd.prog wr = .ok (.string (bA [])) wr := Lib.run_convert_nil_bytes wr 22 9 5 0 Tryd.underlying22 Tryd.underlying5 Tryd.underlying9
    have q0 := hrr.c0; have q1 := hrr.c1; have q2 := hrr.c2; have q3 := hrr.d0; have q4 := hrr.d1
    have f0 := hrr.f0 0; have f1 := hrr.f0 1; have f2 := hrr.f0 2; have f3 := hrr.f1 0; have f4 := hrr.f1 1
    clear hrr
    go_wp2
    refine bodyPost_ret (v := .tuple #[.agg #[.int .i64 1, .int .i64 0, .string (bA [])], .agg #[.int .i64 0, .int .i64 0]]) (by simp [results, Tryd.results13, go_sem, q0, q1, q2, q3, q4]) rfl ⟨decPost_nil, ?_⟩
    exact ((((hWb.setCell (Nat.le_refl _) _).setCell (Nat.le_refl _) _).setCell (Nat.le_refl _) _).setCell (Nat.le_succ _) _).setCell (Nat.le_succ _) _

set_option maxRecDepth 100000 in
set_option maxHeartbeats 2000000 in
theorem rdecode_nil (a : Option Addr) (cap : Nat) (w : World) (hn : a = none → cap = 0) :
    Calls Tryd.prog 14 #[.slice a 0 cap] w fun r w' => DecPost [] 1 0 r ∧ Below w.heap.size w w' := by
  have c1 : ∀ W : World, Calls Tryd.prog 12 #[.slice a 0 cap] W fun r w' => r = .returned (.tuple #[.int .i64 1, .int .i64 0]) ∧ Hid (w' = W) := fun W =>
    (rdetect_in a cap [] W ⟨by simp, (fun h => ⟨rfl, hn h⟩), (fun h => absurd rfl h)⟩).mono fun _ _ ⟨h1, h2⟩ => ⟨h1, h2.symm⟩
  go_enter Tryd.func14, Tryd.ntmps14
  go_wp2_with fail
  refine (c1 _).mono ?_
  rintro r W2 ⟨rfl, HW⟩
  have hWb : Below w.heap.size w W2 := by
    rw [HW.out]
    exact ((Below.refl w.heap.size w).alloc (Nat.le_refl _) _).alloc (by simp) _
  have hrr : Res w.heap.size W2 := by
    rw [HW.out]
    exact ⟨(Below.heap_alloc _ _ _ (by simp)).trans (heap_alloc_new w _), by have h := heap_alloc_new (w.alloc (.cells #[.int .i64 0, .int .i64 0, .string ⟨#[]⟩] 27)) (.cells #[.int .i64 0, .int .i64 0] 30); simpa using h⟩
  clear HW c1
  go_wp2_with fail
  go_loopw [6, 7] (fun v i wr => v = .slice none 0 0 ∧ i = .int .i64 0 ∧ wr = W2) (fun _ _ _ => 0)
  case atStart => exact ⟨rfl, rfl, rfl⟩
  case round =>
    obtain ⟨rfl, rfl, rfl⟩ := hrel
    have hcv : (convert 22 9 (.slice none 0 0)).run Tryd.prog wr = .ok (.string (bA [])) wr := Lib.run_convert_nil_bytes wr 22 9 5 0 Tryd.underlying22 Tryd.underlying5 Tryd.underlying9
    have q0 := hrr.c0; have q1 := hrr.c1; have q2 := hrr.c2; have q3 := hrr.d0; have q4 := hrr.d1
    have f0 := hrr.f0 0; have f1 := hrr.f0 1; have f2 := hrr.f0 2; have f3 := hrr.f1 0; have f4 := hrr.f1 1
    clear hrr
    go_wp2
    refine bodyPost_ret (v := .tuple #[.agg #[.int .i64 1, .int .i64 0, .string (bA [])], .agg #[.int .i64 0, .int .i64 0]]) (by simp [results, Tryd.results14, go_sem, q0, q1, q2, q3, q4]) rfl ⟨decPost_nil, ?_⟩
    exact ((((hWb.setCell (Nat.le_refl _) _).setCell (Nat.le_refl _) _).setCell (Nat.le_refl _) _).setCell (Nat.le_succ _) _).setCell (Nat.le_succ _) _

theorem InB.below {w w' : World} {a : Option Addr} {cap : Nat} {l : List UInt8} (h : InB w a cap l) (hb : Below w.heap.size w w') : InB w' a cap l :=
  ⟨h.1, h.2.1, fun hl => by
    obtain ⟨b, off, h1, h2, h3⟩ := h.2.2 hl
    exact ⟨b, off, h1, h2.below h3 hb, by have := hb.size; omega⟩⟩

theorem decode_in (a : Option Addr) (cap : Nat) (l : List UInt8) (w : World) (hT : Tabs w) (hin : InB w a cap l) (hl : l.length ≤ 200) :
    Calls Tryd.prog 13 #[.slice a l.length cap] w fun r w' => DecPost l (det l).1.toNat (det l).2.toNat r ∧ Below w.heap.size w w' := by
  by_cases h : l = []
  · subst h; exact decode_nil a cap w
  · obtain ⟨b, off, rfl, h2, h3⟩ := hin.2.2 h
    exact decode_any b off cap l w hT h2 h3 hin.1 (by omega)
theorem rdecode_in (a : Option Addr) (cap : Nat) (l : List UInt8) (w : World) (hin : InB w a cap l) (hl : l.length ≤ 200) :
    Calls Tryd.prog 14 #[.slice a l.length cap] w fun r w' => DecPost l (det l).1.toNat (det l).2.toNat r ∧ Below w.heap.size w w' := by
  by_cases h : l = []
  · subst h; exact rdecode_nil a cap w (fun h => (hin.2.1 h).2)
  · obtain ⟨b, off, rfl, h2, h3⟩ := hin.2.2 h
    exact rdecode_any b off cap l w h2 h3 hin.1 (by omega)

end Go.Proofs.YthlbeoakaebcpaaDoor
