/- Walks of targum/utf's nextOfTwo and nextOfFour. -/
import Derived.Test.YthlbeoakaebcpaaDoorWa
namespace Go.Proofs.YthlbeoakaebcpaaDoor
open Go.RowKit
set_option maxRecDepth 100000 in
set_option maxHeartbeats 1000000 in
theorem nextOfTwo_any (e : Nat) (he : e = 2 ∨ e = 3) (b off cap : Nat) (l : List UInt8) (w : World) (hp : HasBytes w b off l) (hcap : l.length ≤ cap) :
    Calls Tryd.prog 37 #[.int .i64 e, .slice (some ⟨b, off, none⟩) l.length cap] w fun r w' => r = .returned (.tuple #[.int .i32 (M.nx16 (e == 2) l).1, .int .i64 (M.nx16 (e == 2) l).2]) ∧ ∃ q, w' = w.drewN q := by
  by_cases hl : l.length < 2
  · have hv : M.nx16 (e == 2) l = (0, 0) := by unfold M.nx16; rw [if_pos hl]
    rw [hv]
    have hlz : (l.length : Int) < 2 := by omega
    go_enter Tryd.func37, Tryd.ntmps37
    go_wp2
    go_ret2
    exact ⟨rfl, 0, rfl⟩
  · have hlz : decide ((l.length : Int) < 2) = false := by simp; omega
    rw [nx16_ge _ _ hl]
    have c1 := unit_rd2 e he b off cap l w hp hl
    have c2 := fun (n : Nat) (w : World) => unit_rd2b e he b off (cap - 2) n l w
    have hH := M.rd2_lt (e == 2) l 0
    have hG := M.rd2_lt (e == 2) l 2
    generalize M.rd2 (e == 2) l 0 = H at c1 hH ⊢
    generalize M.rd2 (e == 2) l 2 = G at c2 hG ⊢
    by_cases h1 : H < 55296
    · rw [if_pos (Or.inl h1)]
      have d1 : decide ((H : Int) < 55296) = true := by simp; omega
      have hHz : (H : Int) < 65536 := by omega
      clear h1 hH hG c2 hl
      go_enter Tryd.func37, Tryd.ntmps37
      go_wp2_with (go_at_call 48; refine c1.mono ?_; rintro r w' ⟨rfl, q, rfl⟩)
      go_ret2
      exact ⟨rfl, _, rfl⟩
    have d1 : decide ((H : Int) < 55296) = false := by simp; omega
    by_cases h2 : 57344 ≤ H
    · rw [if_pos (Or.inr h2)]
      have d2 : decide ((57344 : Int) ≤ (H : Int)) = true := by simp; omega
      have hHz : (H : Int) < 65536 := by omega
      clear h1 h2 hH hG c2 hl
      go_enter Tryd.func37, Tryd.ntmps37
      go_wp2_with (go_at_call 48; refine c1.mono ?_; rintro r w' ⟨rfl, q, rfl⟩)
      go_ret2
      exact ⟨rfl, _, rfl⟩
    rw [if_neg (by omega)]
    have d2 : decide ((57344 : Int) ≤ (H : Int)) = false := by simp; omega
    by_cases h3 : 56320 ≤ H
    · rw [if_pos (Or.inl h3)]
      have d3 : decide ((56320 : Int) ≤ (H : Int)) = true := by simp; omega
      clear h1 h2 h3 hH hG hl
      go_enter Tryd.func37, Tryd.ntmps37
      go_wp2_with (go_at_call 48; refine c1.mono ?_; rintro r w' ⟨rfl, q, rfl⟩)
      go_ret2
      exact ⟨rfl, _, rfl⟩
    have d3 : decide ((56320 : Int) ≤ (H : Int)) = false := by simp; omega
    by_cases h4 : l.length < 4
    · rw [if_pos (Or.inr h4)]
      have h4z : decide ((l.length : Int) < 4) = true := by simp; omega
      clear h1 h2 h3 hH hG hl h4
      go_enter Tryd.func37, Tryd.ntmps37
      go_wp2_with (go_at_call 48; refine c1.mono ?_; rintro r w' ⟨rfl, q, rfl⟩)
      go_ret2
      exact ⟨rfl, _, rfl⟩
    rw [if_neg (by omega)]
    have h4z : decide ((l.length : Int) < 4) = false := by simp; omega
    have h4y : 4 ≤ l.length := by omega
    replace c2 := fun (n : Nat) (w : World) h => c2 n w h h4
    by_cases h5 : G < 56320
    · rw [if_pos (Or.inl h5)]
      have d4 : decide ((G : Int) < 56320) = true := by simp; omega
      clear h1 h2 h3 hH hG hl h4 h5
      go_enter Tryd.func37, Tryd.ntmps37
      go_wp2_with fail
      refine c1.mono ?_
      rintro r w' ⟨rfl, q, rfl⟩
      go_wp2_with fail
      refine (c2 _ _ (hp.drewN q) (by omega)).mono ?_
      rintro r w' ⟨rfl, q', rfl⟩
      go_wp2
      go_ret2
      exact ⟨rfl, _, rfl⟩
    have d4 : decide ((G : Int) < 56320) = false := by simp; omega
    by_cases h6 : 57344 ≤ G
    · rw [if_pos (Or.inr h6)]
      have d5 : decide ((57344 : Int) ≤ (G : Int)) = true := by simp; omega
      clear h1 h2 h3 hH hG hl h4 h5 h6
      go_enter Tryd.func37, Tryd.ntmps37
      go_wp2_with fail
      refine c1.mono ?_
      rintro r w' ⟨rfl, q, rfl⟩
      go_wp2_with fail
      refine (c2 _ _ (hp.drewN q) (by omega)).mono ?_
      rintro r w' ⟨rfl, q', rfl⟩
      go_wp2
      go_ret2
      exact ⟨rfl, _, rfl⟩
    rw [if_neg (by omega)]
    have d5 : decide ((57344 : Int) ≤ (G : Int)) = false := by simp; omega
    obtain ⟨x, hx⟩ : ∃ x, H = x + 55296 := ⟨H - 55296, by omega⟩
    obtain ⟨y, hy⟩ : ∃ y, G = y + 56320 := ⟨G - 56320, by omega⟩
    have hx1 : (x : Int) < 1024 := by omega
    have hy1 : (y : Int) < 1024 := by omega
    have e1 : ((H : Int) - 55296) = (x : Int) := by omega
    have e2 : ((G : Int) - 56320) = (y : Int) := by omega
    have e3 : 65536 + (H - 55296) * 1024 + (G - 56320) = 65536 + x * 1024 + y := by omega
    rw [e3]
    clear h1 h2 h3 hH hG hl h4 h5 h6 hx hy e3
    go_enter Tryd.func37, Tryd.ntmps37
    go_wp2_with fail
    refine c1.mono ?_
    rintro r w' ⟨rfl, q, rfl⟩
    go_wp2_with fail
    refine (c2 _ _ (hp.drewN q) (by omega)).mono ?_
    rintro r w' ⟨rfl, q', rfl⟩
    go_wp2
    go_ret2
    refine ⟨ret_int2 ?_ rfl, _, rfl⟩
    omega

theorem unit_rd4 (e : Nat) (he : e = 4 ∨ e = 5) (b off cap : Nat) (l : List UInt8) (w : World) (hp : HasBytes w b off l) (hl : ¬ l.length < 4) (hcap : l.length ≤ cap) :
    Calls Tryd.prog 48 #[.int .i64 e, .slice (some ⟨b, off, none⟩) l.length cap] w fun r w' => r = .returned (.int .u32 (M.rd4 (e == 4) l : Nat)) ∧ ∃ q', w' = w.drewN q' := by
  rcases he with rfl | rfl
  · refine (unit_4 b off cap l.length (M.by8 l 0) (M.by8 l 1) (M.by8 l 2) (M.by8 l 3) w (by omega) hcap (M.by8_lt _ _) (M.by8_lt _ _) (M.by8_lt _ _) (M.by8_lt _ _) (hp 0 (by omega)) (hp 1 (by omega)) (hp 2 (by omega)) (hp 3 (by omega))).mono ?_
    rintro r w' ⟨rfl, q', rfl⟩
    exact ⟨by unfold M.rd4; rfl, _, rfl⟩
  · refine (unit_5 b off cap l.length (M.by8 l 0) (M.by8 l 1) (M.by8 l 2) (M.by8 l 3) w (by omega) (M.by8_lt _ _) (M.by8_lt _ _) (M.by8_lt _ _) (M.by8_lt _ _) (hp 0 (by omega)) (hp 1 (by omega)) (hp 2 (by omega)) (hp 3 (by omega))).mono ?_
    rintro r w' ⟨rfl, q', rfl⟩
    exact ⟨by unfold M.rd4; rfl, _, rfl⟩

set_option maxRecDepth 100000 in
set_option maxHeartbeats 1000000 in
theorem nextOfFour_any (e : Nat) (he : e = 4 ∨ e = 5) (b off cap : Nat) (l : List UInt8) (w : World) (hp : HasBytes w b off l) (hcap : l.length ≤ cap) :
    Calls Tryd.prog 38 #[.int .i64 e, .slice (some ⟨b, off, none⟩) l.length cap] w fun r w' => r = .returned (.tuple #[.int .i32 (M.nx32 (e == 4) l).1, .int .i64 (M.nx32 (e == 4) l).2]) ∧ ∃ q, w' = w.drewN q := by
  unfold M.nx32
  by_cases hl : l.length < 4
  · rw [if_pos hl]
    have hlz : decide ((l.length : Int) < 4) = true := by simp; omega
    go_enter Tryd.func38, Tryd.ntmps38
    go_wp2
    go_ret2
    exact ⟨rfl, 0, rfl⟩
  · have hlz : decide ((l.length : Int) < 4) = false := by simp; omega
    rw [if_neg hl]
    have c1 := unit_rd4 e he b off cap l w hp hl hcap
    have hH := M.rd4_lt (e == 4) l
    generalize M.rd4 (e == 4) l = H at c1 hH ⊢
    by_cases h1 : 1114111 < H
    · rw [if_pos (Or.inl h1)]
      have d1 : decide ((1114111 : Int) < (H : Int)) = true := by simp; omega
      clear h1 hH hl
      go_enter Tryd.func38, Tryd.ntmps38
      go_wp2_with (go_at_call 48; refine c1.mono ?_; rintro r w' ⟨rfl, q, rfl⟩)
      go_ret2
      exact ⟨rfl, _, rfl⟩
    have d1 : decide ((1114111 : Int) < (H : Int)) = false := by simp; omega
    by_cases h2 : 55296 ≤ H
    · have d2 : decide ((55296 : Int) ≤ (H : Int)) = true := by simp; omega
      by_cases h3 : H < 57344
      · rw [if_pos (Or.inr ⟨h2, h3⟩)]
        have d3 : decide ((H : Int) < 57344) = true := by simp; omega
        clear h1 h2 h3 hH hl
        go_enter Tryd.func38, Tryd.ntmps38
        go_wp2_with (go_at_call 48; refine c1.mono ?_; rintro r w' ⟨rfl, q, rfl⟩)
        go_ret2
        exact ⟨rfl, _, rfl⟩
      · rw [if_neg (by omega)]
        have d3 : decide ((H : Int) < 57344) = false := by simp; omega
        have hHz : (H : Int) < 2147483648 := by omega
        clear h1 h2 h3 hH hl
        go_enter Tryd.func38, Tryd.ntmps38
        go_wp2_with (go_at_call 48; refine c1.mono ?_; rintro r w' ⟨rfl, q, rfl⟩)
        go_ret2
        exact ⟨rfl, _, rfl⟩
    · rw [if_neg (by omega)]
      have d2 : decide ((55296 : Int) ≤ (H : Int)) = false := by simp; omega
      have hHz : (H : Int) < 2147483648 := by omega
      clear h1 h2 hH hl
      go_enter Tryd.func38, Tryd.ntmps38
      go_wp2_with (go_at_call 48; refine c1.mono ?_; rintro r w' ⟨rfl, q, rfl⟩)
      go_ret2
      exact ⟨rfl, _, rfl⟩

end Go.Proofs.YthlbeoakaebcpaaDoor
