/- Walk of the document's Int11. -/
import Derived.Test.YtipgipgehnhgkaaGreatDoorBe
import Derived.Test.YtipgipgehnhgkaaGreatDoorBc
import Derived.Test.YtipgipgehnhgkaaGreatDoorBq
set_option linter.unusedVariables false
namespace Go.Proofs.YtipgipgehnhgkaaGreatDoor
open Go.RowKit

theorem fS_06 (R : List UInt8) : ∀ k, M.fS k R = 0 ∨ M.fS k R = 6 := by
  induction R with
  | nil => intro k; rw [M.fS]; split; exact Or.inl rfl; exact Or.inr rfl
  | cons b R ih =>
    intro k
    rw [M.fS]
    split
    · split
      · exact ih _
      · split
        · exact ih _
        · exact Or.inl rfl
    · split
      · exact ih _
      · split
        · exact ih _
        · exact Or.inl rfl
/-- What the document's Int11 answers, by the sign and what stands behind it. -/
def intV (neg : Bool) (U : List UInt8) : Value := if M.fB U = 0 then .tuple #[.string ⟨#[]⟩, .int .i64 0] else .tuple #[.string (tx (M.sgn neg (M.num U))), .int .i64 (M.fB U : Nat)]

set_option maxRecDepth 100000 in
set_option maxHeartbeats 1000000 in
theorem rint_2 (s : ByteArray) (q : List UInt8) (w : World) (hs : s.size ≤ 90) (hU : M.body s.data.toList = 48 :: 98 :: q) :
    Calls Tryz.prog 32 #[.string s] w fun e w' => e = .returned (intV (M.isNeg s.data.toList) (48 :: 98 :: q)) ∧ Below w.heap.size w w' := by
  have c1 := fun W => rsign_any s W (by omega)
  rw [hU] at c1
  have hl := M.body_len s.data.toList
  rw [hU, ← sz_list] at hl
  simp only [List.length_cons] at hl
  obtain ⟨BU, hBU⟩ : ∃ BU, bA (48 :: 98 :: q) = BU := ⟨_, rfl⟩
  have hBl : BU.data.toList = 48 :: 98 :: q := by rw [← hBU, bA_toList]
  have hBs : BU.size = q.length + 2 := by rw [← hBU, bA_size]; simp
  have hb0 : 0 < BU.size := by omega
  have hb1' : 1 < BU.size := by omega
  have h0 : BU[0] = 48 := by
    have := get_list BU 0 hb0
    rw [hBl] at this; simpa using this.symm
  have h1 : BU[1] = 98 := by
    have := get_list BU 1 hb1'
    rw [hBl] at this; simpa using this.symm
  have g0 : BU[0].toNat = 48 := by rw [h0]; rfl
  have hz90 : BU.size ≤ 90 := by omega
  have hz3 : 1 ≤ BU.size := by omega
  have hz4 : 2 ≤ BU.size := by omega
  have hx : BU.extract 2 BU.size = bA q := by apply eq_bA; rw [Lib.extract_to_end, hBl]; rfl
  have c2 := fun W => rbare_any (bA q) 2 W (by rw [bA_size]; omega) (by omega)
  rw [bA_toList] at c2
  unfold bareV at c2
  have hB : M.fB (48 :: 98 :: q) = if M.okD 2 (M.gone q) = true then 1 else 0 := by rw [M.fB, if_pos rfl, M.fN, if_pos rfl, M.fG_eq]
  have hz1 : (1 : Int) ≤ (BU.size : Int) := by omega
  have hz2 : (2 : Int) ≤ (BU.size : Int) := by omega
  have hle : decide ((2 : Int) ≤ (BU.size : Int)) = true := by simp; omega
  have hle2 : decide (2 ≤ BU.size) = true := by simp; omega
  rw [hBU] at c1
  by_cases hok : M.okD 2 (M.gone q) = true
  · rw [if_pos hok] at hB
    have hf : M.fB (48 :: 98 :: q) = 1 := hB
    have hn : M.num (48 :: 98 :: q) = M.val 2 (M.gone q) := by unfold M.num; rw [hf, if_pos rfl, M.gone_ne _ (by decide), M.gone_ne _ (by decide)]; rfl
    have hV : intV (M.isNeg s.data.toList) (48 :: 98 :: q) = .tuple #[.string (tx (M.sgn (M.isNeg s.data.toList) (M.val 2 (M.gone q)))), .int .i64 1] := by
      unfold intV; rw [hf, if_neg (by omega), hn]; rfl
    rw [hV]
    obtain ⟨hne, hal⟩ := (M.okD_iff _ _).1 hok
    rw [if_pos hal, show (!(M.gone q).isEmpty) = true by cases hh : M.gone q with | nil => exact absurd hh hne | cons c q => rfl] at c2
    have hgl := M.gone_len q
    have c3 := fun W => rbase_in (bA (M.gone q)) 2 W (Or.inl rfl) (by rw [bA_size]; omega) (by rw [bA_size]; exact List.length_pos_iff.2 hne)
    rw [bA_toList, if_pos hal] at c3
    have htx := tx_room (M.val_lt 2 _ hal) (by omega) (by omega)
    have c4 := fun W => rnorm_yes (M.isNeg s.data.toList) (tx (M.val 2 (M.gone q) : Nat)) W (by omega) (tx_dgo _).1
    rw [(tx_dgo _).2] at c4
    have g1 : BU[1].toNat = 98 := by rw [h1]; rfl
    clear htx hgl hne hal hV hn hf hB hok h0 h1 hBl hBU hU hBs hl
    generalize bA (M.gone q) = BG at *
    generalize bA q = BR at *
    generalize M.val 2 (M.gone q) = v at *
    generalize M.isNeg s.data.toList = N at *
    generalize tx (v : Int) = TX at *
    generalize tx (M.sgn N v) = Z at *
    go_enter Tryz.func32, Tryz.ntmps32
    go_wp2_with fail
    refine (c1 _).mono ?_
    rintro r w1 ⟨rfl, hb1⟩
    go_wp2_with fail
    go_quiet (fail)
    go_wp2_with fail
    go_quiet (fail)
    go_wp2_with fail
    refine (c2 _).mono ?_
    rintro r w2 ⟨rfl, hb2⟩
    go_wp2_with fail
    refine (c3 _).mono ?_
    rintro r w3 ⟨rfl, hb3⟩
    go_wp2_with fail
    refine (c4 _).mono ?_
    rintro r w' ⟨rfl, rfl⟩
    clear c1 c2 c3 c4
    go_wp2
    go_ret2
    exact ⟨rfl, (below_dN hb1 _).trans ((hb2.mono hb1.size).trans (hb3.mono (Nat.le_trans hb1.size hb2.size)))⟩
  · rw [if_neg hok] at hB
    have hV : intV (M.isNeg s.data.toList) (48 :: 98 :: q) = .tuple #[.string ⟨#[]⟩, .int .i64 0] := by
      unfold intV; rw [hB, if_pos rfl]
    rw [hV]
    obtain ⟨X, hX⟩ : ∃ X : ByteArray, (if M.allD 2 (M.gone q) = true then Value.tuple #[.string (bA (M.gone q)), .bool (!(M.gone q).isEmpty)] else .tuple #[.string ⟨#[]⟩, .bool false]) = .tuple #[.string X, .bool false] := by
      by_cases hal : M.allD 2 (M.gone q) = true
      · rw [if_pos hal]
        have hnil : M.gone q = [] := by
          cases hh : M.gone q with
          | nil => rfl
          | cons c q => exact absurd ((M.okD_iff _ _).2 ⟨by rw [hh]; simp, hal⟩) hok
        rw [hnil]
        exact ⟨_, rfl⟩
      · rw [if_neg hal]
        exact ⟨_, rfl⟩
    rw [hX] at c2
    have g1 : BU[1].toNat = 98 := by rw [h1]; rfl
    clear hX hV hB hok h0 h1 hBl hBU hU hBs hl
    generalize bA q = BR at *
    generalize M.isNeg s.data.toList = N at *
    go_enter Tryz.func32, Tryz.ntmps32
    go_wp2_with fail
    refine (c1 _).mono ?_
    rintro r w1 ⟨rfl, hb1⟩
    go_wp2_with fail
    go_quiet (fail)
    go_wp2_with fail
    go_quiet (fail)
    go_wp2_with fail
    refine (c2 _).mono ?_
    rintro r w2 ⟨rfl, hb2⟩
    clear c1 c2
    go_wp2
    go_ret2
    exact ⟨rfl, (below_dN hb1 _).trans (hb2.mono hb1.size)⟩

set_option maxRecDepth 100000 in
set_option maxHeartbeats 1000000 in
theorem rint_16 (s : ByteArray) (q : List UInt8) (w : World) (hs : s.size ≤ 90) (hU : M.body s.data.toList = 48 :: 120 :: q) :
    Calls Tryz.prog 32 #[.string s] w fun e w' => e = .returned (intV (M.isNeg s.data.toList) (48 :: 120 :: q)) ∧ Below w.heap.size w w' := by
  have c1 := fun W => rsign_any s W (by omega)
  rw [hU] at c1
  have hl := M.body_len s.data.toList
  rw [hU, ← sz_list] at hl
  simp only [List.length_cons] at hl
  obtain ⟨BU, hBU⟩ : ∃ BU, bA (48 :: 120 :: q) = BU := ⟨_, rfl⟩
  have hBl : BU.data.toList = 48 :: 120 :: q := by rw [← hBU, bA_toList]
  have hBs : BU.size = q.length + 2 := by rw [← hBU, bA_size]; simp
  have hb0 : 0 < BU.size := by omega
  have hb1' : 1 < BU.size := by omega
  have h0 : BU[0] = 48 := by
    have := get_list BU 0 hb0
    rw [hBl] at this; simpa using this.symm
  have h1 : BU[1] = 120 := by
    have := get_list BU 1 hb1'
    rw [hBl] at this; simpa using this.symm
  have g0 : BU[0].toNat = 48 := by rw [h0]; rfl
  have hz90 : BU.size ≤ 90 := by omega
  have hz3 : 1 ≤ BU.size := by omega
  have hz4 : 2 ≤ BU.size := by omega
  have hx : BU.extract 2 BU.size = bA q := by apply eq_bA; rw [Lib.extract_to_end, hBl]; rfl
  have c2 := fun W => rbare_any (bA q) 16 W (by rw [bA_size]; omega) (by omega)
  rw [bA_toList] at c2
  unfold bareV at c2
  have hB : M.fB (48 :: 120 :: q) = if M.okD 16 (M.gone q) = true then 2 else 0 := by rw [M.fB, if_pos rfl, M.fN, if_neg (by decide), if_pos rfl, M.fG_eq]
  have hz1 : (1 : Int) ≤ (BU.size : Int) := by omega
  have hz2 : (2 : Int) ≤ (BU.size : Int) := by omega
  have hle : decide ((2 : Int) ≤ (BU.size : Int)) = true := by simp; omega
  have hle2 : decide (2 ≤ BU.size) = true := by simp; omega
  rw [hBU] at c1
  by_cases hok : M.okD 16 (M.gone q) = true
  · rw [if_pos hok] at hB
    have hf : M.fB (48 :: 120 :: q) = 2 := hB
    have hn : M.num (48 :: 120 :: q) = M.val 16 (M.gone q) := by unfold M.num; rw [hf, if_neg (by omega), if_pos rfl, M.gone_ne _ (by decide), M.gone_ne _ (by decide)]; rfl
    have hV : intV (M.isNeg s.data.toList) (48 :: 120 :: q) = .tuple #[.string (tx (M.sgn (M.isNeg s.data.toList) (M.val 16 (M.gone q)))), .int .i64 2] := by
      unfold intV; rw [hf, if_neg (by omega), hn]; rfl
    rw [hV]
    obtain ⟨hne, hal⟩ := (M.okD_iff _ _).1 hok
    rw [if_pos hal, show (!(M.gone q).isEmpty) = true by cases hh : M.gone q with | nil => exact absurd hh hne | cons c q => rfl] at c2
    have hgl := M.gone_len q
    have c3 := fun W => rbase_in (bA (M.gone q)) 16 W (Or.inr (Or.inr rfl)) (by rw [bA_size]; omega) (by rw [bA_size]; exact List.length_pos_iff.2 hne)
    rw [bA_toList, if_pos hal] at c3
    have htx := tx_room (M.val_lt 16 _ hal) (by omega) (by omega)
    have c4 := fun W => rnorm_yes (M.isNeg s.data.toList) (tx (M.val 16 (M.gone q) : Nat)) W (by omega) (tx_dgo _).1
    rw [(tx_dgo _).2] at c4
    have g1 : BU[1].toNat = 120 := by rw [h1]; rfl
    clear htx hgl hne hal hV hn hf hB hok h0 h1 hBl hBU hU hBs hl
    generalize bA (M.gone q) = BG at *
    generalize bA q = BR at *
    generalize M.val 16 (M.gone q) = v at *
    generalize M.isNeg s.data.toList = N at *
    generalize tx (v : Int) = TX at *
    generalize tx (M.sgn N v) = Z at *
    go_enter Tryz.func32, Tryz.ntmps32
    go_wp2_with fail
    refine (c1 _).mono ?_
    rintro r w1 ⟨rfl, hb1⟩
    go_wp2_with fail
    go_quiet (fail)
    go_wp2_with fail
    go_quiet (fail)
    go_wp2_with fail
    refine (c2 _).mono ?_
    rintro r w2 ⟨rfl, hb2⟩
    go_wp2_with fail
    refine (c3 _).mono ?_
    rintro r w3 ⟨rfl, hb3⟩
    go_wp2_with fail
    refine (c4 _).mono ?_
    rintro r w' ⟨rfl, rfl⟩
    clear c1 c2 c3 c4
    go_wp2
    go_ret2
    exact ⟨rfl, (below_dN hb1 _).trans ((hb2.mono hb1.size).trans (hb3.mono (Nat.le_trans hb1.size hb2.size)))⟩
  · rw [if_neg hok] at hB
    have hV : intV (M.isNeg s.data.toList) (48 :: 120 :: q) = .tuple #[.string ⟨#[]⟩, .int .i64 0] := by
      unfold intV; rw [hB, if_pos rfl]
    rw [hV]
    obtain ⟨X, hX⟩ : ∃ X : ByteArray, (if M.allD 16 (M.gone q) = true then Value.tuple #[.string (bA (M.gone q)), .bool (!(M.gone q).isEmpty)] else .tuple #[.string ⟨#[]⟩, .bool false]) = .tuple #[.string X, .bool false] := by
      by_cases hal : M.allD 16 (M.gone q) = true
      · rw [if_pos hal]
        have hnil : M.gone q = [] := by
          cases hh : M.gone q with
          | nil => rfl
          | cons c q => exact absurd ((M.okD_iff _ _).2 ⟨by rw [hh]; simp, hal⟩) hok
        rw [hnil]
        exact ⟨_, rfl⟩
      · rw [if_neg hal]
        exact ⟨_, rfl⟩
    rw [hX] at c2
    have g1 : BU[1].toNat = 120 := by rw [h1]; rfl
    clear hX hV hB hok h0 h1 hBl hBU hU hBs hl
    generalize bA q = BR at *
    generalize M.isNeg s.data.toList = N at *
    go_enter Tryz.func32, Tryz.ntmps32
    go_wp2_with fail
    refine (c1 _).mono ?_
    rintro r w1 ⟨rfl, hb1⟩
    go_wp2_with fail
    go_quiet (fail)
    go_wp2_with fail
    go_quiet (fail)
    go_wp2_with fail
    refine (c2 _).mono ?_
    rintro r w2 ⟨rfl, hb2⟩
    clear c1 c2
    go_wp2
    go_ret2
    exact ⟨rfl, (below_dN hb1 _).trans (hb2.mono hb1.size)⟩

set_option maxRecDepth 100000 in
set_option maxHeartbeats 1000000 in
theorem rint_8 (s : ByteArray) (d : UInt8) (q : List UInt8) (h98 : d ≠ 98) (h120 : d ≠ 120) (w : World) (hs : s.size ≤ 90) (hU : M.body s.data.toList = 48 :: d :: q) :
    Calls Tryz.prog 32 #[.string s] w fun e w' => e = .returned (intV (M.isNeg s.data.toList) (48 :: d :: q)) ∧ Below w.heap.size w w' := by
  have c1 := fun W => rsign_any s W (by omega)
  rw [hU] at c1
  have hl := M.body_len s.data.toList
  rw [hU, ← sz_list] at hl
  simp only [List.length_cons] at hl
  obtain ⟨BU, hBU⟩ : ∃ BU, bA (48 :: d :: q) = BU := ⟨_, rfl⟩
  have hBl : BU.data.toList = 48 :: d :: q := by rw [← hBU, bA_toList]
  have hBs : BU.size = q.length + 2 := by rw [← hBU, bA_size]; simp
  have hb0 : 0 < BU.size := by omega
  have hb1' : 1 < BU.size := by omega
  have h0 : BU[0] = 48 := by
    have := get_list BU 0 hb0
    rw [hBl] at this; simpa using this.symm
  have h1 : BU[1] = d := by
    have := get_list BU 1 hb1'
    rw [hBl] at this; simpa using this.symm
  have g0 : BU[0].toNat = 48 := by rw [h0]; rfl
  have hz90 : BU.size ≤ 90 := by omega
  have hz3 : 1 ≤ BU.size := by omega
  have hz4 : 2 ≤ BU.size := by omega
  have hx : BU.extract 1 BU.size = bA (d :: q) := by apply eq_bA; rw [Lib.extract_to_end, hBl]; rfl
  have c2 := fun W => rbare_any (bA (d :: q)) 8 W (by rw [bA_size]; simp; omega) (by omega)
  rw [bA_toList] at c2
  unfold bareV at c2
  have hB : M.fB (48 :: d :: q) = if M.okD 8 (M.gone (d :: q)) = true then 3 else 0 := by rw [M.fB, if_pos rfl, M.fN, if_neg h98, if_neg h120, M.fG_eq]
  have hz1 : (1 : Int) ≤ (BU.size : Int) := by omega
  have hz2 : (2 : Int) ≤ (BU.size : Int) := by omega
  have hle : decide ((2 : Int) ≤ (BU.size : Int)) = true := by simp; omega
  have hle2 : decide (2 ≤ BU.size) = true := by simp; omega
  rw [hBU] at c1
  by_cases hok : M.okD 8 (M.gone (d :: q)) = true
  · rw [if_pos hok] at hB
    have hf : M.fB (48 :: d :: q) = 3 := hB
    have hn : M.num (48 :: d :: q) = M.val 8 (M.gone (d :: q)) := by unfold M.num; rw [hf, if_neg (by omega), if_neg (by omega), if_pos rfl, M.gone_ne _ (by decide), M.val_cons, show M.dv 48 = 0 by decide, Nat.zero_mul, Nat.zero_add]
    have hV : intV (M.isNeg s.data.toList) (48 :: d :: q) = .tuple #[.string (tx (M.sgn (M.isNeg s.data.toList) (M.val 8 (M.gone (d :: q))))), .int .i64 3] := by
      unfold intV; rw [hf, if_neg (by omega), hn]; rfl
    rw [hV]
    obtain ⟨hne, hal⟩ := (M.okD_iff _ _).1 hok
    rw [if_pos hal, show (!(M.gone (d :: q)).isEmpty) = true by cases hh : M.gone (d :: q) with | nil => exact absurd hh hne | cons c q => rfl] at c2
    have hgl := M.gone_len (d :: q)
    simp only [List.length_cons] at hgl
    have c3 := fun W => rbase_in (bA (M.gone (d :: q))) 8 W (Or.inr (Or.inl rfl)) (by rw [bA_size]; omega) (by rw [bA_size]; exact List.length_pos_iff.2 hne)
    rw [bA_toList, if_pos hal] at c3
    have htx := tx_room (M.val_lt 8 _ hal) (by omega) (by omega)
    have c4 := fun W => rnorm_yes (M.isNeg s.data.toList) (tx (M.val 8 (M.gone (d :: q)) : Nat)) W (by omega) (tx_dgo _).1
    rw [(tx_dgo _).2] at c4
    have g98 : ((BU[1].toNat : Int) == 98) = false := by rw [h1]; exact neC (k := 98) (by omega) h98
    have g120 : ((BU[1].toNat : Int) == 120) = false := by rw [h1]; exact neC (k := 120) (by omega) h120
    clear htx hgl hne hal hV hn hf hB hok h0 h1 hBl hBU hU hBs hl h98 h120
    generalize bA (M.gone (d :: q)) = BG at *
    generalize bA (d :: q) = BR at *
    generalize M.val 8 (M.gone (d :: q)) = v at *
    generalize M.isNeg s.data.toList = N at *
    generalize tx (v : Int) = TX at *
    generalize tx (M.sgn N v) = Z at *
    go_enter Tryz.func32, Tryz.ntmps32
    go_wp2_with fail
    refine (c1 _).mono ?_
    rintro r w1 ⟨rfl, hb1⟩
    go_wp2_with fail
    go_quiet (fail)
    go_wp2_with fail
    refine (c2 _).mono ?_
    rintro r w2 ⟨rfl, hb2⟩
    go_wp2_with fail
    refine (c3 _).mono ?_
    rintro r w3 ⟨rfl, hb3⟩
    go_wp2_with fail
    refine (c4 _).mono ?_
    rintro r w' ⟨rfl, rfl⟩
    clear c1 c2 c3 c4
    go_wp2
    go_ret2
    exact ⟨rfl, (below_dN hb1 _).trans ((hb2.mono hb1.size).trans (hb3.mono (Nat.le_trans hb1.size hb2.size)))⟩
  · rw [if_neg hok] at hB
    have hV : intV (M.isNeg s.data.toList) (48 :: d :: q) = .tuple #[.string ⟨#[]⟩, .int .i64 0] := by
      unfold intV; rw [hB, if_pos rfl]
    rw [hV]
    obtain ⟨X, hX⟩ : ∃ X : ByteArray, (if M.allD 8 (M.gone (d :: q)) = true then Value.tuple #[.string (bA (M.gone (d :: q))), .bool (!(M.gone (d :: q)).isEmpty)] else .tuple #[.string ⟨#[]⟩, .bool false]) = .tuple #[.string X, .bool false] := by
      by_cases hal : M.allD 8 (M.gone (d :: q)) = true
      · rw [if_pos hal]
        have hnil : M.gone (d :: q) = [] := by
          cases hh : M.gone (d :: q) with
          | nil => rfl
          | cons c q => exact absurd ((M.okD_iff _ _).2 ⟨by rw [hh]; simp, hal⟩) hok
        rw [hnil]
        exact ⟨_, rfl⟩
      · rw [if_neg hal]
        exact ⟨_, rfl⟩
    rw [hX] at c2
    have g98 : ((BU[1].toNat : Int) == 98) = false := by rw [h1]; exact neC (k := 98) (by omega) h98
    have g120 : ((BU[1].toNat : Int) == 120) = false := by rw [h1]; exact neC (k := 120) (by omega) h120
    clear hX hV hB hok h0 h1 hBl hBU hU hBs hl h98 h120
    generalize bA (d :: q) = BR at *
    generalize M.isNeg s.data.toList = N at *
    go_enter Tryz.func32, Tryz.ntmps32
    go_wp2_with fail
    refine (c1 _).mono ?_
    rintro r w1 ⟨rfl, hb1⟩
    go_wp2_with fail
    go_quiet (fail)
    go_wp2_with fail
    refine (c2 _).mono ?_
    rintro r w2 ⟨rfl, hb2⟩
    clear c1 c2
    go_wp2
    go_ret2
    exact ⟨rfl, (below_dN hb1 _).trans (hb2.mono hb1.size)⟩

set_option maxRecDepth 100000 in
theorem rint_0 (s : ByteArray) (w : World) (hs : s.size ≤ 90) (hU : M.body s.data.toList = [48]) :
    Calls Tryz.prog 32 #[.string s] w fun e w' => e = .returned (intV (M.isNeg s.data.toList) [48]) ∧ Below w.heap.size w w' := by
  have c1 := fun W => rsign_any s W (by omega)
  rw [hU, show bA [48] = ⟨#[48]⟩ from rfl] at c1
  have hV : intV (M.isNeg s.data.toList) [48] = .tuple #[.string ⟨#[48]⟩, .int .i64 4] := by
    show (if (4 : Nat) = 0 then Value.tuple #[.string ⟨#[]⟩, .int .i64 0] else .tuple #[.string (tx (M.sgn (M.isNeg s.data.toList) 0)), .int .i64 4]) = _
    rw [if_neg (by omega), M.sgn_zero, tx0]
  rw [hV]
  clear hV hU
  generalize M.isNeg s.data.toList = N at *
  go_enter Tryz.func32, Tryz.ntmps32
  go_wp2_with fail
  refine (c1 _).mono ?_
  rintro r w1 ⟨rfl, hb1⟩
  clear c1
  go_wp2
  go_ret2
  exact ⟨rfl, hb1⟩
set_option maxRecDepth 100000 in
theorem rint_e (s : ByteArray) (w : World) (hs : s.size ≤ 90) (hU : M.body s.data.toList = []) :
    Calls Tryz.prog 32 #[.string s] w fun e w' => e = .returned (intV (M.isNeg s.data.toList) []) ∧ Below w.heap.size w w' := by
  have c1 := fun W => rsign_any s W (by omega)
  rw [hU, show bA [] = ⟨#[]⟩ from rfl] at c1
  have hV : intV (M.isNeg s.data.toList) [] = .tuple #[.string ⟨#[]⟩, .int .i64 0] := rfl
  rw [hV]
  clear hV hU
  generalize M.isNeg s.data.toList = N at *
  go_enter Tryz.func32, Tryz.ntmps32
  go_wp2_with fail
  refine (c1 _).mono ?_
  rintro r w1 ⟨rfl, hb1⟩
  clear c1
  go_wp2
  go_ret2
  exact ⟨rfl, hb1⟩
theorem head_facts (c : UInt8) (r : List UInt8) (h48 : c ≠ 48) : ∃ h : 0 < (bA (c :: r)).size, (bA (c :: r))[0] = c ∧ (((bA (c :: r))[0].toNat : Int) == 48) = false ∧ ((bA (c :: r)).toList == [48]) = false ∧ ((bA (c :: r)).toList == []) = false ∧ (bA (c :: r)).toList.isEmpty = false := by
  have h0 : 0 < (bA (c :: r)).size := by rw [bA_size]; simp
  have hh : (bA (c :: r))[0] = c := by
    have := get_list (bA (c :: r)) 0 h0
    rw [bA_toList] at this; simpa using this.symm
  refine ⟨h0, hh, by rw [hh]; exact neC (k := 48) (by omega) h48, ?_, ?_, ?_⟩
  · rw [ByteArray.toList_eq, bA_toList]; simp; intro e; exact absurd e h48
  · rw [ByteArray.toList_eq, bA_toList]; rfl
  · rw [ByteArray.toList_eq, bA_toList]; rfl
set_option maxRecDepth 100000 in
set_option maxHeartbeats 1000000 in
theorem rint_x (s : ByteArray) (c : UInt8) (r : List UInt8) (w : World) (hs : s.size ≤ 90) (hU : M.body s.data.toList = c :: r) (h48 : c ≠ 48) (hd : ¬ M.dv c < 10) :
    Calls Tryz.prog 32 #[.string s] w fun e w' => e = .returned (intV (M.isNeg s.data.toList) (c :: r)) ∧ Below w.heap.size w w' := by
  have c1 := fun W => rsign_any s W (by omega)
  have hl := M.body_len s.data.toList
  rw [hU, ← sz_list] at hl
  have hBs : (bA (c :: r)).size ≤ 90 := by rw [bA_size]; omega
  rw [hU] at c1
  have hV : intV (M.isNeg s.data.toList) (c :: r) = .tuple #[.string ⟨#[]⟩, .int .i64 0] := by
    unfold intV; rw [show M.fB (c :: r) = 0 by rw [M.fB, if_neg h48, if_neg hd], if_pos rfl]
  rw [hV]
  obtain ⟨h0, hh, e1, e2, e3, e4⟩ := head_facts c r h48
  have hr : ¬ (48 ≤ (bA (c :: r))[0].toNat ∧ (bA (c :: r))[0].toNat ≤ 57) := by rw [hh]; exact fun k => hd ((dec_iff c).2 k)
  clear hV hU hd hh hl h48
  generalize bA (c :: r) = BU at *
  generalize M.isNeg s.data.toList = N at *
  have h256 := BU[0].toNat_lt
  by_cases hlo : BU[0].toNat < 49
  · have q1 : decide ((BU[0].toNat : Int) < 49) = true := by simp; omega
    clear hr
    go_enter Tryz.func32, Tryz.ntmps32
    go_wp2_with fail
    refine (c1 _).mono ?_
    rintro r w1 ⟨rfl, hb1⟩
    clear c1
    go_wp2
    all_goals
      go_ret2
      exact ⟨rfl, hb1⟩
  · have q1 : decide ((BU[0].toNat : Int) < 49) = false := by simp; omega
    have q2 : decide ((57 : Int) < (BU[0].toNat : Int)) = true := by simp; omega
    clear hr
    go_enter Tryz.func32, Tryz.ntmps32
    go_wp2_with fail
    refine (c1 _).mono ?_
    rintro r w1 ⟨rfl, hb1⟩
    clear c1
    go_wp2
    all_goals
      go_ret2
      exact ⟨rfl, hb1⟩
set_option maxRecDepth 100000 in
set_option maxHeartbeats 2000000 in
theorem rint_d (s : ByteArray) (c : UInt8) (r : List UInt8) (w : World) (hs : s.size ≤ 90) (hU : M.body s.data.toList = c :: r) (h48 : c ≠ 48) (hd : M.dv c < 10) :
    Calls Tryz.prog 32 #[.string s] w fun e w' => e = .returned (intV (M.isNeg s.data.toList) (c :: r)) ∧ Below w.heap.size w w' := by
  have c1 := fun W => rsign_any s W (by omega)
  have hl := M.body_len s.data.toList
  rw [hU, ← sz_list] at hl
  have hBs : (bA (c :: r)).size ≤ 90 := by rw [bA_size]; omega
  rw [hU] at c1
  have h95 : c ≠ 95 := M.ne95 hd (by omega)
  have hB : M.fB (c :: r) = M.fA r := by rw [M.fB, if_neg h48, if_pos hd]
  obtain ⟨h0, hh, e1, e2, e3, e4⟩ := head_facts c r h48
  have hr := (dec_iff c).1 hd
  have hr2 : c.toNat ≠ 48 := by intro e; exact h48 (UInt8.toNat_inj.1 e)
  rw [← hh] at hr hr2
  have q1 : decide (((bA (c :: r))[0].toNat : Int) < 49) = false := by simp; omega
  have q2 : decide ((57 : Int) < ((bA (c :: r))[0].toNat : Int)) = false := by simp; omega
  have c2 := fun W => rbare_any (bA (c :: r)) 10 W (by omega) (by omega)
  rw [bA_toList] at c2
  unfold bareV at c2
  have hgne : M.gone (c :: r) ≠ [] := by rw [M.gone_ne _ h95]; simp
  have hall : M.allD 10 (M.gone (c :: r)) = M.allD 10 (M.gone r) := by rw [M.gone_ne _ h95, M.allD_cons, decide_eq_true hd, Bool.true_and]
  have hgl := M.gone_len (c :: r)
  by_cases ha : M.allD 10 (M.gone (c :: r)) = true
  · have hn58 : ∀ x ∈ r, x ≠ 58 := by
      intro x hx e
      have h1 : x ∈ M.gone r := M.mem_gone.2 ⟨hx, by rw [e]; decide⟩
      rw [hall] at ha
      exact M.ne58 ((M.allD_iff _ _).1 ha x h1) (by omega) e
    have hf : M.fB (c :: r) = 5 := by rw [hB, M.fA_no r hn58, if_pos (by rw [← hall]; exact ha)]
    have hV : intV (M.isNeg s.data.toList) (c :: r) = .tuple #[.string (tx (M.sgn (M.isNeg s.data.toList) (M.val 10 (M.gone (c :: r))))), .int .i64 5] := by
      unfold intV M.num; rw [hf, if_neg (by omega), if_neg (by omega), if_neg (by omega), if_neg (by omega), if_neg (by omega)]; rfl
    rw [hV]
    rw [if_pos ha, show (!(M.gone (c :: r)).isEmpty) = true by cases hh : M.gone (c :: r) with | nil => exact absurd hh hgne | cons c q => rfl] at c2
    have c4 := fun W => rnorm_list (M.isNeg s.data.toList) (M.gone (c :: r)) W ((M.okD_iff _ _).2 ⟨hgne, ha⟩) (by omega)
    clear hV hf hn58 ha hall hgl hgne hr hr2 hh hB h95 hl hU h48 hd
    generalize tx (M.sgn (M.isNeg s.data.toList) (M.val 10 (M.gone (c :: r)))) = Z at *
    generalize bA (M.gone (c :: r)) = BG at *
    generalize bA (c :: r) = BU at *
    generalize M.isNeg s.data.toList = N at *
    by_cases hq : 2 ≤ BU.size
    · have hle : decide ((2 : Int) ≤ (BU.size : Int)) = true := by simp; omega
      have hle2 : decide (2 ≤ BU.size) = true := by simp; omega
      go_enter Tryz.func32, Tryz.ntmps32
      go_wp2_with fail
      refine (c1 _).mono ?_
      rintro r w1 ⟨rfl, hb1⟩
      go_wp2_with fail
      refine (c2 _).mono ?_
      rintro r w2 ⟨rfl, hb2⟩
      go_wp2_with fail
      refine (c4 _).mono ?_
      rintro r w' ⟨rfl, rfl⟩
      clear c1 c2 c4
      go_wp2
      go_ret2
      exact ⟨rfl, hb1.trans (hb2.mono hb1.size)⟩
    · have hle : decide ((2 : Int) ≤ (BU.size : Int)) = false := by simp; omega
      have hle2 : decide (2 ≤ BU.size) = false := by simp; omega
      go_enter Tryz.func32, Tryz.ntmps32
      go_wp2_with fail
      refine (c1 _).mono ?_
      rintro r w1 ⟨rfl, hb1⟩
      go_wp2_with fail
      refine (c2 _).mono ?_
      rintro r w2 ⟨rfl, hb2⟩
      go_wp2_with fail
      refine (c4 _).mono ?_
      rintro r w' ⟨rfl, rfl⟩
      clear c1 c2 c4
      go_wp2
      go_ret2
      exact ⟨rfl, hb1.trans (hb2.mono hb1.size)⟩
  · rw [if_neg ha] at c2
    have hlr : r.length ≤ 90 := by simp at hl; omega
    obtain ⟨o, c3, o1, o2⟩ := rsixty_any c r (by omega) hd h48
    by_cases h6 : M.fA r = 6
    · have ho := o1 h6
      subst ho
      have hV : intV (M.isNeg s.data.toList) (c :: r) = .tuple #[.string (tx (M.sgn (M.isNeg s.data.toList) (M.num (c :: r)))), .int .i64 6] := by
        unfold intV; rw [hB, h6, if_neg (by omega)]; rfl
      rw [hV]
      have hnum : (tx (M.num (c :: r) : Nat)).size ≤ 6000 := by
        unfold M.num
        rw [hB, h6, if_neg (by omega), if_neg (by omega), if_neg (by omega), if_pos rfl]
        have h1 := M.sx_le 0 0 (M.gone (c :: r))
        have h2 : M.sx 0 0 (M.gone (c :: r)) < 1000 ^ ((M.gone (c :: r)).length + 1) := by
          refine Nat.lt_of_le_of_lt h1 ?_
          rw [Nat.pow_succ]
          have h3 : 0 < 1000 ^ (M.gone (c :: r)).length := Nat.pow_pos (by omega)
          generalize 1000 ^ (M.gone (c :: r)).length = q at *
          omega
        exact room_1000 h2 (by omega)
      have c4 := fun W => rnorm_yes (M.isNeg s.data.toList) (tx (M.num (c :: r) : Nat)) W (by omega) (tx_dgo _).1
      rw [(tx_dgo _).2] at c4
      rw [show ansV (some (M.num (c :: r))) = .tuple #[.string (tx (M.num (c :: r) : Nat)), .bool true] from rfl] at c3
      clear hV hnum o1 o2 h6 hlr ha hall hgl hgne hr hr2 hh hB h95 hl hU h48 hd
      generalize tx (M.sgn (M.isNeg s.data.toList) (M.num (c :: r))) = Z at *
      generalize tx ((M.num (c :: r) : Nat) : Int) = TX at *
      generalize bA (c :: r) = BU at *
      generalize M.isNeg s.data.toList = N at *
      by_cases hq : 2 ≤ BU.size
      · have hle : decide ((2 : Int) ≤ (BU.size : Int)) = true := by simp; omega
        have hle2 : decide (2 ≤ BU.size) = true := by simp; omega
        go_enter Tryz.func32, Tryz.ntmps32
        go_wp2_with fail
        refine (c1 _).mono ?_
        rintro r w1 ⟨rfl, hb1⟩
        go_wp2_with fail
        refine (c2 _).mono ?_
        rintro r w2 ⟨rfl, hb2⟩
        go_wp2_with fail
        refine (c3 _).mono ?_
        rintro r w3 ⟨rfl, hb3⟩
        go_wp2_with fail
        refine (c4 _).mono ?_
        rintro r w' ⟨rfl, rfl⟩
        clear c1 c2 c3 c4
        go_wp2
        go_ret2
        exact ⟨rfl, hb1.trans ((hb2.mono hb1.size).trans (hb3.mono (Nat.le_trans hb1.size hb2.size)))⟩
      · have hle : decide ((2 : Int) ≤ (BU.size : Int)) = false := by simp; omega
        have hle2 : decide (2 ≤ BU.size) = false := by simp; omega
        go_enter Tryz.func32, Tryz.ntmps32
        go_wp2_with fail
        refine (c1 _).mono ?_
        rintro r w1 ⟨rfl, hb1⟩
        go_wp2_with fail
        refine (c2 _).mono ?_
        rintro r w2 ⟨rfl, hb2⟩
        go_wp2_with fail
        refine (c3 _).mono ?_
        rintro r w3 ⟨rfl, hb3⟩
        go_wp2_with fail
        refine (c4 _).mono ?_
        rintro r w' ⟨rfl, rfl⟩
        clear c1 c2 c3 c4
        go_wp2
        go_ret2
        exact ⟨rfl, hb1.trans ((hb2.mono hb1.size).trans (hb3.mono (Nat.le_trans hb1.size hb2.size)))⟩
    · have ho := o2 h6
      subst ho
      have hf : M.fB (c :: r) = 0 := by
        rw [hB]
        rcases M.split_at 58 r with hn | ⟨D, R, rfl, hD⟩
        · rw [M.fA_no r hn, if_neg (by rw [← hall]; exact ha)]
        · rw [M.fA_yes D R hD] at h6 ⊢
          by_cases hx : M.allD 10 (M.gone D) = true
          · rw [if_pos hx] at h6 ⊢
            rcases fS_06 R 1 with h | h
            · exact h
            · exact absurd h h6
          · rw [if_neg hx]
      have hV : intV (M.isNeg s.data.toList) (c :: r) = .tuple #[.string ⟨#[]⟩, .int .i64 0] := by
        unfold intV; rw [hf, if_pos rfl]
      rw [hV]
      rw [show ansV none = .tuple #[.string ⟨#[]⟩, .bool false] from rfl] at c3
      clear hV hf o1 o2 h6 hlr ha hall hgl hgne hr hr2 hh hB h95 hl hU h48 hd
      generalize bA (c :: r) = BU at *
      generalize M.isNeg s.data.toList = N at *
      by_cases hq : 2 ≤ BU.size
      · have hle : decide ((2 : Int) ≤ (BU.size : Int)) = true := by simp; omega
        have hle2 : decide (2 ≤ BU.size) = true := by simp; omega
        go_enter Tryz.func32, Tryz.ntmps32
        go_wp2_with fail
        refine (c1 _).mono ?_
        rintro r w1 ⟨rfl, hb1⟩
        go_wp2_with fail
        refine (c2 _).mono ?_
        rintro r w2 ⟨rfl, hb2⟩
        go_wp2_with fail
        refine (c3 _).mono ?_
        rintro r w3 ⟨rfl, hb3⟩
        clear c1 c2 c3
        go_wp2
        go_ret2
        exact ⟨rfl, hb1.trans ((hb2.mono hb1.size).trans (hb3.mono (Nat.le_trans hb1.size hb2.size)))⟩
      · have hle : decide ((2 : Int) ≤ (BU.size : Int)) = false := by simp; omega
        have hle2 : decide (2 ≤ BU.size) = false := by simp; omega
        go_enter Tryz.func32, Tryz.ntmps32
        go_wp2_with fail
        refine (c1 _).mono ?_
        rintro r w1 ⟨rfl, hb1⟩
        go_wp2_with fail
        refine (c2 _).mono ?_
        rintro r w2 ⟨rfl, hb2⟩
        go_wp2_with fail
        refine (c3 _).mono ?_
        rintro r w3 ⟨rfl, hb3⟩
        clear c1 c2 c3
        go_wp2
        go_ret2
        exact ⟨rfl, hb1.trans ((hb2.mono hb1.size).trans (hb3.mono (Nat.le_trans hb1.size hb2.size)))⟩
/-- The document's Int11. -/
theorem rint_any (s : ByteArray) (w : World) (hs : s.size ≤ 90) :
    Calls Tryz.prog 32 #[.string s] w fun e w' => e = .returned (intV (M.isNeg s.data.toList) (M.body s.data.toList)) ∧ Below w.heap.size w w' := by
  match hU : M.body s.data.toList with
  | [] => exact rint_e s w hs hU
  | c :: r =>
    by_cases h48 : c = 48
    · subst h48
      match r, hU with
      | [], hU => exact rint_0 s w hs hU
      | d :: q, hU =>
        by_cases h98 : d = 98
        · subst h98; exact rint_2 s q w hs hU
        · by_cases h120 : d = 120
          · subst h120; exact rint_16 s q w hs hU
          · exact rint_8 s d q h98 h120 w hs hU
    · by_cases hd : M.dv c < 10
      · exact rint_d s c r w hs hU h48 hd
      · exact rint_x s c r w hs hU h48 hd
end Go.Proofs.YtipgipgehnhgkaaGreatDoor
