/- Walks: the code's Read, Good, Write. -/
import Derived.Test.YtcahleaaicebbaaWc
set_option linter.unusedVariables false
namespace Go.Proofs.Ytcahleaaicebbaa
open Go.RowKit

def rdH (l : List UInt8) (i : Nat) : M.Tg × Nat × Bool :=
  if M.bh M.isS l (bhH l i) = bhH l i ∧ i + 1 < bhH l i then (M.Tg.no, 0, false) else (⟨false, M.cut l i (bhH l i), M.cut l (bhH l i) (M.bh M.isS l (bhH l i))⟩, M.bh M.isS l (bhH l i), true)
theorem rd_two (l : List UInt8) (i : Nat) : M.rd l i = if l[i + 1]? = some 60 then rdW l (i + 2) else rdH l i := rfl
theorem rdH_any (s : ByteArray) (i : Nat) (w : World) (hs : s.size ≤ 100000) (hi : i < s.size) : Calls Try.prog 20 #[.string s, .int .i64 i] w fun e w' => e = .returned (rdV (rdH s.data.toList i)) ∧ Below w.heap.size w w' := by
  unfold rdH
  by_cases h : M.bh M.isS s.data.toList (bhH s.data.toList i) = bhH s.data.toList i ∧ i + 1 < bhH s.data.toList i
  · rw [if_pos h]; exact rdH_no s i w hs hi h
  · rw [if_neg h]; exact rdH_yes s i w hs hi h
theorem atI_33 (l : List UInt8) (i : Int) : (atI l i == 33) = decide (0 ≤ i ∧ l[i.toNat]? = some 33) := by
  by_cases h : 0 ≤ i
  · obtain ⟨k, rfl⟩ := Int.eq_ofNat_of_zero_le h
    rw [Int.toNat_natCast]
    have := atI_is l k 33 (by omega)
    rw [show ((33 : Nat) : Int) = 33 from rfl, show UInt8.ofNat 33 = 33 from rfl] at this
    rw [this, decide_eq_decide]
    exact ⟨fun e => ⟨h, e⟩, fun e => e.2⟩
  · rw [atI_out l i (Or.inl (by omega)), decide_eq_false (fun e => h e.1)]; rfl
theorem rdV_mk (t : M.Tg) (n : Nat) (b : Bool) : rdV (t, n, b) = .tuple #[tV t.v (bA t.h) (bA t.s), .int .i64 (n : Int), .bool b] := rfl

set_option maxRecDepth 100000 in
set_option maxHeartbeats 1000000 in
theorem rd_any (s : ByteArray) (i : Int) (w : World) (hs : s.size ≤ 100000) : Calls Try.prog 9 #[.string s, .int .i64 i] w fun e w' => e = .returned (rdV (M.rdI s.data.toList i)) ∧ Below w.heap.size w w' := by
  have c1 := fun W => at_any s i W (by omega)
  have h33 := atI_33 s.data.toList i
  by_cases hd : 0 ≤ i ∧ s.data.toList[i.toNat]? = some 33
  · obtain ⟨h0, h1⟩ := hd
    obtain ⟨k, rfl⟩ := Int.eq_ofNat_of_zero_le h0
    rw [Int.toNat_natCast] at h1
    rw [M.rdI_at _ _ h1, rd_two]
    have hk := (get_l h1).1
    rw [Int.toNat_natCast, decide_eq_true ⟨h0, h1⟩] at h33
    generalize atI s.data.toList (k : Int) = A at *
    obtain rfl : A = 33 := by simpa using h33
    clear h33 h0
    have c2 := fun W => at_any s ((k + 1 : Nat) : Int) W (by omega)
    have h60 := atI_is s.data.toList (k + 1) 60 (by omega)
    rw [show UInt8.ofNat 60 = 60 from rfl] at h60
    generalize atI s.data.toList ((k + 1 : Nat) : Int) = A at *
    by_cases h6 : s.data.toList[k + 1]? = some 60
    · rw [if_pos h6]
      rw [decide_eq_true h6] at h60
      obtain rfl : A = 60 := by simpa using h60
      have c3 := fun W => rdW_any s (k + 2) W hs (by have := (get_l h6).1; omega)
      clear h6 h60 h1
      generalize rdW s.data.toList (k + 2) = R at *
      obtain ⟨⟨tv, th, ts⟩, n, b⟩ := R
      rw [rdV_mk] at *
      dsimp only at *
      generalize bA th = TH at *
      generalize bA ts = TS at *
      go_enter Try.func9, Try.ntmps9
      go_wp2_with fail
      refine (c1 _).mono ?_
      rintro r w' ⟨rfl, rfl⟩
      go_wp2_with fail
      refine (c2 _).mono ?_
      rintro r w' ⟨rfl, rfl⟩
      go_wp2_with fail
      refine (c3 _).mono ?_
      rintro r w1 ⟨rfl, hb1⟩
      have K1 := (Blk.made w false ⟨#[]⟩ ⟨#[]⟩).next hb1
      have B1 : Below w.heap.size w w1 := below_new hb1
      clear hb1 c1 c2 c3
      obtain ⟨g, hg⟩ : ∃ g, w.heap.size = g := ⟨_, rfl⟩
      rw [hg] at K1 B1 ⊢
      obtain ⟨k0, k1, k2⟩ := K1.cells
      obtain ⟨f0, f1, f2⟩ := K1.fro
      go_wp2
      exact bodyPost_ret (ret_tag Try.results9 _ rfl rfl rfl (K1.set tv TH TS)) rfl ⟨rfl, below_set3 (hg ▸ B1) (by omega) _ _ _⟩
    · rw [if_neg h6]
      rw [decide_eq_false h6] at h60
      have h60' : (A == (60 : Int)) = false := h60
      have c3 := fun W => rdH_any s k W hs hk
      clear h6 h60 h1
      generalize rdH s.data.toList k = R at *
      obtain ⟨⟨tv, th, ts⟩, n, b⟩ := R
      rw [rdV_mk] at *
      dsimp only at *
      generalize bA th = TH at *
      generalize bA ts = TS at *
      go_enter Try.func9, Try.ntmps9
      go_wp2_with fail
      refine (c1 _).mono ?_
      rintro r w' ⟨rfl, rfl⟩
      go_wp2_with fail
      refine (c2 _).mono ?_
      rintro r w' ⟨rfl, rfl⟩
      go_wp2_with fail
      refine (c3 _).mono ?_
      rintro r w1 ⟨rfl, hb1⟩
      have K1 := (Blk.made w false ⟨#[]⟩ ⟨#[]⟩).next hb1
      have B1 : Below w.heap.size w w1 := below_new hb1
      clear hb1 c1 c2 c3
      obtain ⟨g, hg⟩ : ∃ g, w.heap.size = g := ⟨_, rfl⟩
      rw [hg] at K1 B1 ⊢
      obtain ⟨k0, k1, k2⟩ := K1.cells
      obtain ⟨f0, f1, f2⟩ := K1.fro
      go_wp2
      exact bodyPost_ret (ret_tag Try.results9 _ rfl rfl rfl (K1.set tv TH TS)) rfl ⟨rfl, below_set3 (hg ▸ B1) (by omega) _ _ _⟩
  · rw [M.rdI_no _ _ hd, rdV_no]
    rw [decide_eq_false hd] at h33
    generalize atI s.data.toList i = A at *
    clear hd
    go_enter Try.func9, Try.ntmps9
    go_wp2_with fail
    refine (c1 _).mono ?_
    rintro r w' ⟨rfl, rfl⟩
    go_wp2
    exact bodyPost_ret (ret_tag Try.results9 _ rfl rfl rfl (Blk.made w false ⟨#[]⟩ ⟨#[]⟩)) rfl ⟨rfl, (Below.refl _ _).alloc (Nat.le_refl _) _⟩

theorem toList_ne {s : ByteArray} (h : s ≠ ⟨#[]⟩) : (s.toList == []) = false := by
  have := beq_bytes s ⟨#[]⟩
  rw [decide_eq_false h, ByteArray.toList_eq ⟨#[]⟩] at this
  exact this
theorem empty_or (s : ByteArray) : (s = ⟨#[]⟩ ∧ s.data.toList = []) ∨ (s ≠ ⟨#[]⟩ ∧ s.data.toList ≠ []) := by
  by_cases h : s.data.toList = []
  · exact Or.inl ⟨by rw [eq_bA h]; rfl, h⟩
  · exact Or.inr ⟨fun e => h (by rw [e]), h⟩
set_option maxRecDepth 100000 in
theorem good_any (s : ByteArray) (w : World) (hs : s.size ≤ 100000) : Calls Try.prog 13 #[.string s] w fun e w' => e = .returned (.bool (M.good s.data.toList)) ∧ w = w' := by
  rw [M.good_bh]
  rcases empty_or s with ⟨rfl, _⟩ | ⟨h1, h2⟩
  · go_enter Try.func13, Try.ntmps13
    go_wp2
    go_ret
    exact ⟨rfl, rfl⟩
  · have c1 := fun W => bhT_any s 0 W (by omega) (by omega)
    have hne := toList_ne h1
    have hne2 : s.toList.isEmpty = false := by
      cases he : s.toList with
      | nil => rw [he] at hne; cases hne
      | cons a r => rfl
    have e1 : (!s.data.toList.isEmpty && decide (M.bh M.isT s.data.toList 0 = s.data.toList.length)) = ((M.bh M.isT s.data.toList 0 : Int) == (s.size : Int)) := by
      cases he : s.data.toList with
      | nil => exact absurd he h2
      | cons a r =>
        rw [← he, ← sz_list, Bool.eq_iff_iff]
        simp [he]
        omega
    rw [e1]
    generalize M.bh M.isT s.data.toList 0 = j at *
    clear e1 h1 h2
    go_enter Try.func13, Try.ntmps13
    go_wp2_with fail
    refine (c1 _).mono ?_
    rintro r w' ⟨rfl, rfl⟩
    go_wp2
    go_ret
    exact ⟨rfl, rfl⟩
set_option maxRecDepth 100000 in
theorem wr_any (s : ByteArray) (w : World) (hs : s.size ≤ 100000) : Calls Try.prog 15 #[.string s] w fun e w' => e = .returned (.string (bA (M.wr s.data.toList))) ∧ w = w' := by
  have c1 := fun W => good_any s W hs
  unfold M.wr
  have e1 : bA (33 :: 60 :: (s.data.toList ++ [62])) = (⟨#[33, 60]⟩ ++ s) ++ ⟨#[62]⟩ := by
    symm
    apply eq_bA
    rw [append_list, append_list]; rfl
  generalize M.good s.data.toList = b at *
  cases b
  · rw [if_neg (by simp)]
    go_enter Try.func15, Try.ntmps15
    go_wp2_with fail
    refine (c1 _).mono ?_
    rintro r w' ⟨rfl, rfl⟩
    go_wp2
    go_ret
    exact ⟨rfl, rfl⟩
  · rw [if_pos rfl, e1]
    have hz1 : (⟨#[33, 60]⟩ ++ s).size ≤ 100002 := by rw [append_sz]; show 2 + s.size ≤ _; omega
    clear e1
    go_enter Try.func15, Try.ntmps15
    go_wp2_with fail
    refine (c1 _).mono ?_
    rintro r w' ⟨rfl, rfl⟩
    go_wp2
    go_ret
    exact ⟨rfl, rfl⟩
end Go.Proofs.Ytcahleaaicebbaa
