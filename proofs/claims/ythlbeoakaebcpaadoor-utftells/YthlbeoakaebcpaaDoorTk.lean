/- The law UtfTells: its walk. -/
import Derived.Test.YthlbeoakaebcpaaDoorTj
namespace Go.Proofs.YthlbeoakaebcpaaDoor
open Go.RowKit

set_option maxRecDepth 100000 in
set_option maxHeartbeats 4000000 in
theorem tells_out (a : Option Addr) (n cap : Nat) (s : ByteArray) (x : Int) (w : World) (hT : Tabs w) (h : 200 < n ∨ (n ≤ 200 ∧ 200 < s.size)) :
    Calls Tryd.prog 3 #[.slice a n cap, .string s, .int .i64 x] w fun r w' => r = .returned (.bool true) ∧ Below w.heap.size w w' := by
  rcases h with h | ⟨h, h'⟩
  · have d1 : decide ((200 : Int) < (n : Int)) = true := by simp; omega
    go_enter Tryd.func3, Tryd.ntmps3
    go_wp2_with fail
    refine (known_any _ hT).mono ?_
    rintro r w1 ⟨rfl, hb⟩
    go_wp2
    go_ret
    exact ⟨rfl, hb⟩
  · have d1 : decide ((200 : Int) < (n : Int)) = false := by simp; omega
    have d2 : decide ((200 : Int) < (s.size : Int)) = true := by simp; omega
    go_enter Tryd.func3, Tryd.ntmps3
    go_wp2_with fail
    refine (known_any _ hT).mono ?_
    rintro r w1 ⟨rfl, hb⟩
    go_wp2
    go_ret
    exact ⟨rfl, hb⟩

set_option maxRecDepth 100000 in
set_option maxHeartbeats 4000000 in
theorem tells_in (a : Option Addr) (cap : Nat) (l : List UInt8) (s : ByteArray) (x : Int) (w : World) (hT : Tabs w) (hin : InB w a cap l) (hl : l.length ≤ 200) (hs : s.size ≤ 200) :
    Calls Tryd.prog 3 #[.slice a l.length cap, .string s, .int .i64 x] w fun r w' => r = .returned (.bool true) ∧ Below w.heap.size w w' := by
  have d1 : decide ((200 : Int) < (l.length : Int)) = false := by simp; omega
  have d2 : decide ((200 : Int) < (s.size : Int)) = false := by simp; omega
  have t1 := fun w' h => detect_in a cap l w' h
  have t2 := fun w' h => rdetect_in a cap l w' h
  have t3 := fun w' hT h => decode_in a cap l w' hT h hl
  have t4 := fun w' h => rdecode_in a cap l w' h hl
  generalize det l = d at *
  have HIN := Lib.hid hin
  clear hin
  go_enter Tryd.func3, Tryd.ntmps3
  go_wp2_with fail
  refine (known_any _ hT).mono ?_
  rintro r w1 ⟨rfl, hb⟩
  have hT1 := hT.below hb
  have hin1 := HIN.out.below hb
  clear HIN hT
  go_wp2_with fail
  refine (t1 w1 hin1).mono ?_
  rintro r w2 ⟨rfl, rfl⟩
  clear t1
  go_wp2_with fail
  refine (t2 w1 hin1).mono ?_
  rintro r w2 ⟨rfl, rfl⟩
  clear t2
  go_wp2_with fail
  refine (t3 w1 hT1 hin1).mono ?_
  rintro r w2 ⟨hd, hb2⟩
  obtain ⟨x1, y1, o1, p1, z1, hr⟩ := hd.shape
  have hT2 := hT1.below hb2
  have hin2 := hin1.below hb2
  have hb02 := hb.trans (hb2.mono hb.size)
  rw [hr]
  have HD := Lib.hid hd
  have HR := Lib.hid hr
  clear t3 hd hr hb2 hb hT1 hin1
  go_wp2_with fail
  obtain ⟨W, hWe⟩ : ∃ W, W = (w2.alloc (.cells #[.int .i64 x1, .int .i64 y1, .string z1] 27)).alloc (.cells #[.int .i64 o1, .int .i64 p1] 30) := ⟨_, rfl⟩
  rw [← hWe]
  have hWz : W.heap.size = w2.heap.size + 1 + 1 := by rw [hWe]; simp
  have hb2W : Below w2.heap.size w2 W := by rw [hWe]; exact ((Below.refl _ _).alloc (Nat.le_refl _) _).alloc (by simp) _
  have hW0 : W.heap[w2.heap.size]? = some (.cells #[.int .i64 x1, .int .i64 y1, .string z1] 27 (0, 0)) := by
    rw [hWe]; exact (Below.heap_alloc _ _ _ (by simp)).trans (heap_alloc_new w2 _)
  have hW1 : W.heap[w2.heap.size + 1]? = some (.cells #[.int .i64 o1, .int .i64 p1] 30 (0, 0)) := by
    rw [hWe]; have h := heap_alloc_new (w2.alloc (.cells #[.int .i64 x1, .int .i64 y1, .string z1] 27)) (.cells #[.int .i64 o1, .int .i64 p1] 30); simpa using h
  clear hWe
  have hTW := hT2.below hb2W
  have hinW := hin2.below hb2W
  have hb0W := hb02.trans (hb2W.mono hb02.size)
  obtain ⟨K, hK⟩ : ∃ K, K = w2.heap.size := ⟨_, rfl⟩
  rw [← hK] at hWz hW0 hW1 ⊢
  have p0 : W.cell? ⟨K, 0, none⟩ = some (.int .i64 x1) := by simp [World.cell?, hW0]
  have p1' : W.cell? ⟨K, 1, none⟩ = some (.int .i64 y1) := by simp [World.cell?, hW0]
  have p2 : W.cell? ⟨K, 2, none⟩ = some (.string z1) := by simp [World.cell?, hW0]
  have p3 : W.cell? ⟨K + 1, 0, none⟩ = some (.int .i64 o1) := by simp [World.cell?, hW1]
  have p4 : W.cell? ⟨K + 1, 1, none⟩ = some (.int .i64 p1) := by simp [World.cell?, hW1]
  have hKW : K < W.heap.size := by omega
  have hKW1 : K + 1 < W.heap.size := by omega
  clear hW0 hW1 hWz hK hb2W hT2 hb02 hin2
  refine (t4 W hinW).mono ?_
  rintro r w3 ⟨hd3, hb3⟩
  have hr3 := (HD.out.same hd3).symm.trans HR.out
  rw [hr3]
  have hT3 := hTW.below hb3
  have hb03 := hb0W.trans (hb3.mono hb0W.size)
  have r0 := (hb3.cell (p := ⟨K, 0, none⟩) hKW).trans p0
  have r1 := (hb3.cell (p := ⟨K, 1, none⟩) hKW).trans p1'
  have r2 := (hb3.cell (p := ⟨K, 2, none⟩) hKW).trans p2
  have r3 := (hb3.cell (p := ⟨K + 1, 0, none⟩) hKW1).trans p3
  have r4 := (hb3.cell (p := ⟨K + 1, 1, none⟩) hKW1).trans p4
  have hK3 : K < w3.heap.size := by have := hb3.size; omega
  have hK31 : K + 1 < w3.heap.size := by have := hb3.size; omega
  clear t4 hr3 hd3 HD HR hinW hTW p0 p1' p2 p3 p4 hb3 hb0W hKW hKW1
  go_wp2_with fail
  obtain ⟨V, hVe⟩ : ∃ V, V = (w3.alloc (.cells #[.int .i64 x1, .int .i64 y1, .string z1] 27)).alloc (.cells #[.int .i64 o1, .int .i64 p1] 30) := ⟨_, rfl⟩
  rw [← hVe]
  have hb3V : Below w3.heap.size w3 V := by rw [hVe]; exact ((Below.refl _ _).alloc (Nat.le_refl _) _).alloc (by simp) _
  clear hVe
  have hTV := hT3.below hb3V
  have hb0V := hb03.trans (hb3V.mono hb03.size)
  clear hb3V hT3 hb03 r0 r1 r2 r3 r4 hK3 hK31
  refine (enc16 x s V hTV hs).mono ?_
  rintro r w4 ⟨v1, rfl, h1, hb4⟩
  have hT4 := hTV.below hb4
  have hb04 := hb0V.trans (hb4.mono hb0V.size)
  clear hTV hb0V hb4
  go_wp2_with fail
  refine (enc17 x s w4 hs).mono ?_
  rintro r w5 ⟨v2, rfl, h2, hb5⟩
  have hT5 := hT4.below hb5
  have hb05 := hb04.trans (hb5.mono hb04.size)
  have c15 := bytes_any v1 v2 _ w5 (h1.below hb5).conv h2.conv
  clear h1 h2 hT4 hb04 hb5
  go_wp2_with fail
  refine c15.mono ?_
  rintro r w6 ⟨rfl, rfl⟩
  clear c15
  go_wp2_with fail
  refine (enc18 x s w5 hT5 hs).mono ?_
  rintro r w6 ⟨rfl, hb6⟩
  have hT6 := hT5.below hb6
  have hb06 := hb05.trans (hb6.mono hb05.size)
  clear hT5 hb05 hb6
  go_wp2_with fail
  refine (enc19 x s w6 hs).mono ?_
  rintro r w7 ⟨rfl, hb7⟩
  have hT7 := hT6.below hb7
  have hb07 := hb06.trans (hb7.mono hb06.size)
  clear hT6 hb06 hb7
  generalize (encL x s).length = EL at *
  go_wp2_with fail
  refine (enc16 _ s w7 hT7 hs).mono ?_
  rintro r w8 ⟨v3, rfl, h3, hb8⟩
  have hT8 := hT7.below hb8
  have hb08 := hb07.trans (hb8.mono hb07.size)
  clear hT7 hb07 hb8
  have H3 := Lib.hid h3
  clear h3
  go_wp2_with fail
  refine (enc17 _ s w8 hs).mono ?_
  rintro r w9 ⟨v4, rfl, h4, hb9⟩
  have hb09 := hb08.trans (hb9.mono hb08.size)
  have c15 := bytes_any v3 v4 _ w9 (H3.out.below hb9).conv h4.conv
  clear H3 h4 hb08 hb9
  go_wp2_with fail
  refine c15.mono ?_
  rintro r w10 ⟨rfl, rfl⟩
  clear c15
  go_wp2
  go_ret
  exact ⟨rfl, hb09⟩

theorem tells_any (a : Option Addr) (cap : Nat) (l : List UInt8) (s : ByteArray) (x : Int) (w : World) (hT : Tabs w) (hin : InB w a cap l) :
    Calls Tryd.prog 3 #[.slice a l.length cap, .string s, .int .i64 x] w fun r w' => r = .returned (.bool true) ∧ Below w.heap.size w w' := by
  by_cases h : 200 < l.length
  · exact tells_out a _ cap s x w hT (Or.inl h)
  by_cases h' : 200 < s.size
  · exact tells_out a _ cap s x w hT (Or.inr ⟨by omega, h'⟩)
  exact tells_in a cap l s x w hT hin (by omega) (by omega)

end Go.Proofs.YthlbeoakaebcpaaDoor
