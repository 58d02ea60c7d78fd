/- The library's contracts at this program's numbers, over lists of bytes; targum/utf's next and sizeOf. -/
import Derived.Test.YthlbeoakaebcpaaDoorWb
import Derived.Test.YthlbeoakaebcpaaDoorShelf
namespace Go.Proofs.YthlbeoakaebcpaaDoor
open Go.RowKit

/-- The library's two tables of UTF-8, as its text lays them. -/
def Tabs (w : World) : Prop := Lib.Utf8Tabs 0 1 w
theorem Tabs.below {w w' : World} (h : Tabs w) (hb : Below w.heap.size w w') : Tabs w' := Utf8Tabs_below h hb
theorem below_dN {B : Nat} {a w : World} (h : Below B a w) (n : Nat) : Below B a (w.drewN n) := h.trans ⟨rfl, rfl, rfl, Nat.le_refl _, fun _ _ => rfl⟩

def bA (l : List UInt8) : ByteArray := ⟨l.toArray⟩
theorem bA_size (l : List UInt8) : (bA l).size = l.length := by simp [bA, ByteArray.size]
theorem bA_get (l : List UInt8) (j : Nat) : ((bA l).get! j).toNat = M.by8 l j := by
  simp [bA, ByteArray.get!, M.by8]
  rfl
theorem bA_toList (l : List UInt8) : (bA l).data.toList = l := by simp [bA]
theorem bA_of (s : ByteArray) : bA s.data.toList = s := by cases s; simp [bA]
theorem decodeGo_bA (l : List UInt8) (h : l ≠ []) : Lib.decodeGo (bA l) = M.dN l := by
  unfold Lib.decodeGo
  rw [bA_size, if_neg (by simpa using h), Lib.decode_at]
  simp only [bA_size, bA_get, Nat.sub_zero, M.dN]

theorem decodeRune_any (b off cap : Nat) (l : List UInt8) (w : World) (hT : Tabs w) (hp : HasBytes w b off l) (hl : l ≠ []) :
    Calls Tryd.prog 36 #[.slice (some ⟨b, off, none⟩) l.length cap] w fun e w' => e = .returned (.tuple #[.int .i32 (M.dN l).1, .int .i64 (M.dN l).2]) ∧ Below w.heap.size w w' := by
  have c := Any7.utf8_DecodeRune Tryd.lays7n32 (bA l) b off cap w hT (fun j hj => by rw [bA_size] at hj; rw [bA_get]; exact hp j hj)
  rw [decodeGo_bA l hl, bA_size] at c
  exact c

theorem dN_le (l : List UInt8) : (M.dN l).1 ≤ 1114111 ∧ 1 ≤ (M.dN l).2 ∧ (M.dN l).2 ≤ 4 := by
  have h0 := M.by8_lt l 0; have h1 := M.by8_lt l 1; have h2 := M.by8_lt l 2; have h3 := M.by8_lt l 3
  unfold M.dN Lib.decodeN
  repeat' split
  all_goals simp only
  all_goals omega

theorem dN_bad (l : List UInt8) (h : (M.dN l).1 = 65533) : (M.dN l).2 = 1 ∨ (M.dN l).2 = 3 := by
  have h0 := M.by8_lt l 0; have h1 := M.by8_lt l 1; have h2 := M.by8_lt l 2; have h3 := M.by8_lt l 3
  revert h
  unfold M.dN Lib.decodeN
  repeat' split
  all_goals (intro h; first | exact Or.inl rfl | exact Or.inr rfl | (exfalso; simp only at h; omega))

set_option maxRecDepth 100000 in
set_option maxHeartbeats 1000000 in
theorem next_1 (b off cap : Nat) (l : List UInt8) (w : World) (hT : Tabs w) (hp : HasBytes w b off l) (hl : l ≠ []) :
    Calls Tryd.prog 26 #[.int .i64 1, .slice (some ⟨b, off, none⟩) l.length cap] w fun r w' => r = .returned (.tuple #[.int .i32 (M.nx8 l).1, .int .i64 (M.nx8 l).2]) ∧ Below w.heap.size w w' := by
  have c1 := decodeRune_any b off cap l w hT hp hl
  have hd := dN_le l
  unfold M.nx8
  obtain ⟨⟨r, n⟩, hrn⟩ : ∃ d, M.dN l = d := ⟨_, rfl⟩
  rw [hrn] at c1 hd ⊢
  simp only [Prod.mk.injEq] at hd ⊢
  by_cases h1 : r = 65533
  · subst h1
    by_cases h2 : n = 1
    · subst h2
      rw [if_pos (by simp)]
      clear hrn hd
      go_enter Tryd.func26, Tryd.ntmps26
      go_wp2_with (go_at_call 36; refine c1.mono ?_; rintro r w' ⟨rfl, hb⟩)
      go_ret2
      exact ⟨rfl, hb⟩
    · rw [if_neg (by simp [hl, h2])]
      have h3 := dN_bad l (by rw [hrn])
      rw [hrn] at h3
      obtain rfl : n = 3 := by simp only at h3; omega
      clear hrn hd h2 h3
      go_enter Tryd.func26, Tryd.ntmps26
      go_wp2_with (go_at_call 36; refine c1.mono ?_; rintro r w' ⟨rfl, hb⟩)
      go_ret2
      exact ⟨rfl, hb⟩
  · rw [if_neg (by simp [hl, h1])]
    have d1 : ((r : Int) == 65533) = false := by simp; omega
    clear hrn hd h1
    go_enter Tryd.func26, Tryd.ntmps26
    go_wp2_with (go_at_call 36; refine c1.mono ?_; rintro r w' ⟨rfl, hb⟩)
    go_ret2
    exact ⟨rfl, hb⟩

set_option maxRecDepth 100000 in
set_option maxHeartbeats 1000000 in
/-- utf.next: the scalar with which the bytes begin, or (0, 0). -/
theorem next_any (e : Nat) (he : 1 ≤ e ∧ e ≤ 5) (b off cap : Nat) (l : List UInt8) (w : World) (hT : Tabs w) (hp : HasBytes w b off l) (hl : l ≠ []) (hcap : l.length ≤ cap) :
    Calls Tryd.prog 26 #[.int .i64 e, .slice (some ⟨b, off, none⟩) l.length cap] w fun r w' => r = .returned (.tuple #[.int .i32 (M.nx e l).1, .int .i64 (M.nx e l).2]) ∧ Below w.heap.size w w' := by
  rcases M.five he with rfl | rfl | rfl | rfl | rfl
  · rw [M.nx_1]; exact next_1 b off cap l w hT hp hl
  · rw [M.nx_2]
    have c1 := nextOfTwo_any 2 (by omega) b off cap l w hp hcap
    change Calls Tryd.prog 37 #[.int .i64 2, .slice (some ⟨b, off, none⟩) l.length cap] w fun r w' => r = .returned (.tuple #[.int .i32 (M.nx16 true l).1, .int .i64 (M.nx16 true l).2]) ∧ ∃ q, w' = w.drewN q at c1
    generalize M.nx16 true l = d at c1 ⊢
    go_enter Tryd.func26, Tryd.ntmps26
    go_wp2_with (go_at_call 37; refine c1.mono ?_; rintro r w' ⟨rfl, q, rfl⟩)
    go_ret2
    exact ⟨rfl, below_dN (Below.refl _ _) _⟩
  · rw [M.nx_3]
    have c1 := nextOfTwo_any 3 (by omega) b off cap l w hp hcap
    change Calls Tryd.prog 37 #[.int .i64 3, .slice (some ⟨b, off, none⟩) l.length cap] w fun r w' => r = .returned (.tuple #[.int .i32 (M.nx16 false l).1, .int .i64 (M.nx16 false l).2]) ∧ ∃ q, w' = w.drewN q at c1
    generalize M.nx16 false l = d at c1 ⊢
    go_enter Tryd.func26, Tryd.ntmps26
    go_wp2_with (go_at_call 37; refine c1.mono ?_; rintro r w' ⟨rfl, q, rfl⟩)
    go_ret2
    exact ⟨rfl, below_dN (Below.refl _ _) _⟩
  · rw [M.nx_4]
    have c1 := nextOfFour_any 4 (by omega) b off cap l w hp hcap
    change Calls Tryd.prog 38 #[.int .i64 4, .slice (some ⟨b, off, none⟩) l.length cap] w fun r w' => r = .returned (.tuple #[.int .i32 (M.nx32 true l).1, .int .i64 (M.nx32 true l).2]) ∧ ∃ q, w' = w.drewN q at c1
    generalize M.nx32 true l = d at c1 ⊢
    go_enter Tryd.func26, Tryd.ntmps26
    go_wp2_with (go_at_call 38; refine c1.mono ?_; rintro r w' ⟨rfl, q, rfl⟩)
    go_ret2
    exact ⟨rfl, below_dN (Below.refl _ _) _⟩
  · rw [M.nx_5]
    have c1 := nextOfFour_any 5 (by omega) b off cap l w hp hcap
    change Calls Tryd.prog 38 #[.int .i64 5, .slice (some ⟨b, off, none⟩) l.length cap] w fun r w' => r = .returned (.tuple #[.int .i32 (M.nx32 false l).1, .int .i64 (M.nx32 false l).2]) ∧ ∃ q, w' = w.drewN q at c1
    generalize M.nx32 false l = d at c1 ⊢
    go_enter Tryd.func26, Tryd.ntmps26
    go_wp2_with (go_at_call 38; refine c1.mono ?_; rintro r w' ⟨rfl, q, rfl⟩)
    go_ret2
    exact ⟨rfl, below_dN (Below.refl _ _) _⟩

theorem runeLen_utf8 (c : Nat) (hc : M.IsScalar c) : Lib.runeLen (c : Int) = ((M.utf8 c).length : Nat) := by
  unfold M.IsScalar at hc
  unfold Lib.runeLen M.utf8
  repeat' split
  all_goals simp only [List.length_cons, List.length_nil]
  all_goals omega

set_option maxRecDepth 100000 in
set_option maxHeartbeats 1000000 in
/-- utf.sizeOf of a scalar: how many bytes it has in an encoding. -/
theorem sizeOf_any (e : Int) (c : Nat) (w : World) (hc : M.IsScalar c) :
    Calls Tryd.prog 31 #[.int .i64 e, .int .i32 c] w fun r w' => r = .returned (.int .i64 ((M.enc1 e.toNat c).length : Nat)) ∧ w = w' := by
  by_cases h1 : e = 1
  · subst h1
    have c1 := Tryd.utf8_RuneLen c w
    rw [runeLen_utf8 c hc] at c1
    rw [show (1 : Int).toNat = 1 from rfl, M.enc1_1]
    generalize (M.utf8 c).length = n at c1 ⊢
    go_enter Tryd.func31, Tryd.ntmps31
    go_wp2_with (go_at_call 44; refine c1.mono ?_; rintro r w' ⟨rfl, rfl⟩)
    go_ret
    exact ⟨rfl, rfl⟩
  by_cases h2 : e = 2 ∨ e = 3
  · have hv : (M.enc1 e.toNat c).length = if c < 65536 then 2 else 4 := by
      rcases h2 with rfl | rfl
      · rw [show (2 : Int).toNat = 2 from rfl, M.enc1_2, M.utf16]; split <;> simp [M.unit2_length]
      · rw [show (3 : Int).toNat = 3 from rfl, M.enc1_3, M.utf16]; split <;> simp [M.unit2_length]
    rw [hv]
    by_cases h3 : c < 65536
    · rw [if_pos h3]
      have d1 : decide ((c : Int) < 65536) = true := by simp; omega
      clear hc h3 hv h1
      rcases h2 with rfl | rfl
      all_goals
        go_enter Tryd.func31, Tryd.ntmps31
        go_wp2
        go_ret
        exact ⟨rfl, rfl⟩
    · rw [if_neg h3]
      have d1 : decide ((c : Int) < 65536) = false := by simp; omega
      clear hc h3 hv h1
      rcases h2 with rfl | rfl
      all_goals
        go_enter Tryd.func31, Tryd.ntmps31
        go_wp2
        go_ret
        exact ⟨rfl, rfl⟩
  by_cases h4 : e = 4 ∨ e = 5
  · have hv : (M.enc1 e.toNat c).length = 4 := by
      rcases h4 with rfl | rfl
      · rw [show (4 : Int).toNat = 4 from rfl, M.enc1_4, M.unit4_length]
      · rw [show (5 : Int).toNat = 5 from rfl, M.enc1_5, M.unit4_length]
    rw [hv]
    clear hc hv h1 h2
    rcases h4 with rfl | rfl
    all_goals
      go_enter Tryd.func31, Tryd.ntmps31
      go_wp2
      go_ret
      exact ⟨rfl, rfl⟩
  · have hv : (M.enc1 e.toNat c).length = 0 := by
      unfold M.enc1
      rw [if_neg (by omega), if_neg (by omega), if_neg (by omega), if_neg (by omega), if_neg (by omega)]; rfl
    rw [hv]
    have d1 : (e == 1) = false := by simp; omega
    have d2 : (e == 2) = false := by simp; omega
    have d3 : (e == 3) = false := by simp; omega
    have d4 : (e == 4) = false := by simp; omega
    have d5 : (e == 5) = false := by simp; omega
    clear hc hv h1 h2 h4
    go_enter Tryd.func31, Tryd.ntmps31
    go_wp2
    go_ret
    exact ⟨rfl, rfl⟩

end Go.Proofs.YthlbeoakaebcpaaDoor
