/- Walks: the code's readVerbatim, readHandled, Read. -/
import Derived.Test.YtcahleaaicebbaaWb
import Derived.Deep.RegionWith
set_option linter.unusedVariables false
namespace Go.Proofs.Ytcahleaaicebbaa
open Go.RowKit

/-- What reading answers. -/
def rdV (r : M.Tg × Nat × Bool) : Value := .tuple #[tgV r.1, .int .i64 (r.2.1 : Nat), .bool r.2.2]
theorem rdV_no : rdV (M.Tg.no, 0, false) = .tuple #[tZ, .int .i64 0, .bool false] := rfl
theorem ex_dec {s : ByteArray} {i j : Nat} (hij : i ≤ j) (hj : j ≤ s.size) : decide ((0 : Int) ≤ (i : Int)) = true ∧ decide ((i : Int) ≤ (j : Int)) = true ∧ decide ((j : Int) ≤ (s.size : Int)) = true :=
  ⟨decide_eq_true (by omega), decide_eq_true (by omega), decide_eq_true (by omega)⟩

/-- What readVerbatim answers. -/
def rdW (l : List UInt8) (i : Nat) : M.Tg × Nat × Bool :=
  if M.bh M.isT l i = i ∨ l[M.bh M.isT l i]? ≠ some 62 then (M.Tg.no, 0, false) else (⟨true, [], M.cut l i (M.bh M.isT l i)⟩, M.bh M.isT l i + 1, true)
set_option maxRecDepth 100000 in
set_option maxHeartbeats 1000000 in
theorem rdW_any (s : ByteArray) (i : Nat) (w : World) (hs : s.size ≤ 100000) (hi : i ≤ s.size) : Calls Try.prog 19 #[.string s, .int .i64 i] w fun e w' => e = .returned (rdV (rdW s.data.toList i)) ∧ Below w.heap.size w w' := by
  have c1 := fun W => bhT_any s i W (by omega) (by omega)
  have hge := M.bh_ge M.isT s.data.toList i
  have hle := M.bh_le M.isT s.data.toList i (by rw [← sz_list]; omega)
  rw [← sz_list] at hle
  unfold rdW
  generalize M.bh M.isT s.data.toList i = j at *
  have c2 := fun W => at_any s (j : Int) W (by omega)
  have h62 := atI_is s.data.toList j 62 (by omega)
  rw [show UInt8.ofNat 62 = 62 from rfl] at h62
  by_cases he : j = i
  · subst he
    rw [if_pos (Or.inl rfl), rdV_no]
    clear c2 h62
    go_enter Try.func19, Try.ntmps19
    go_wp2_with fail
    refine (c1 _).mono ?_
    rintro r w' ⟨rfl, rfl⟩
    go_wp2
    exact bodyPost_ret (ret_tag Try.results19 _ rfl rfl rfl (Blk.made w false ⟨#[]⟩ ⟨#[]⟩)) rfl ⟨rfl, (Below.refl _ _).alloc (Nat.le_refl _) _⟩
  · have hne : ((j : Int) == (i : Int)) = false := beq_eq_false_iff_ne.2 (by omega)
    generalize atI s.data.toList (j : Int) = A at *
    by_cases hd : s.data.toList[j]? = some 62
    · rw [if_neg (by rintro (h | h); exact he h; exact h hd)]
      rw [decide_eq_true hd] at h62
      have c3 := fun W => clone_any (s.extract i j) W (by rw [ByteArray.size_extract]; omega)
      have hx := extract_bA s i j hge
      rw [hx] at c3
      obtain ⟨e1, e2, e3⟩ := ex_dec hge hle
      have hj1 : j < s.size := (get_l hd).1
      clear hd he
      obtain rfl : A = 62 := by simpa using h62
      clear h62
      go_enter Try.func19, Try.ntmps19
      go_wp2_with fail
      refine (c1 _).mono ?_
      rintro r w' ⟨rfl, rfl⟩
      go_wp2_with fail
      refine (c2 _).mono ?_
      rintro r w' ⟨rfl, rfl⟩
      go_wp2_with fail
      refine (c3 _).mono ?_
      rintro r w1 ⟨rfl, hb1⟩
      have K1 := (Blk.made w false ⟨#[]⟩ ⟨#[]⟩).next hb1
      have B1 : Below w.heap.size w w1 := below_new hb1
      clear hb1
      obtain ⟨g, hg⟩ : ∃ g, w.heap.size = g := ⟨_, rfl⟩
      rw [hg] at K1 B1 ⊢
      obtain ⟨k0, k1, k2⟩ := K1.cells
      obtain ⟨f0, f1, f2⟩ := K1.fro
      go_wp2
      exact bodyPost_ret (ret_tag Try.results19 _ rfl rfl rfl (K1.set true ⟨#[]⟩ _)) rfl ⟨rfl, below_set3 (hg ▸ B1) (by omega) _ _ _⟩
    · rw [if_pos (Or.inr hd), rdV_no]
      rw [decide_eq_false hd] at h62
      have h62' : (A == (62 : Int)) = false := h62
      clear hd he h62
      go_enter Try.func19, Try.ntmps19
      go_wp2_with fail
      refine (c1 _).mono ?_
      rintro r w' ⟨rfl, rfl⟩
      go_wp2_with fail
      refine (c2 _).mono ?_
      rintro r w' ⟨rfl, rfl⟩
      go_wp2
      exact bodyPost_ret (ret_tag Try.results19 _ rfl rfl rfl (Blk.made w false ⟨#[]⟩ ⟨#[]⟩)) rfl ⟨rfl, (Below.refl _ _).alloc (Nat.le_refl _) _⟩
set_option maxRecDepth 100000 in
set_option maxHeartbeats 1000000 in
theorem rdH_no (s : ByteArray) (i : Nat) (w : World) (hs : s.size ≤ 100000) (hi : i < s.size) (h : M.bh M.isS s.data.toList (bhH s.data.toList i) = bhH s.data.toList i ∧ i + 1 < bhH s.data.toList i) :
    Calls Try.prog 20 #[.string s, .int .i64 i] w fun e w' => e = .returned (.tuple #[tZ, .int .i64 0, .bool false]) ∧ Below w.heap.size w w' := by
  have c1 := fun W => bhH_any s i W hs hi
  have hfle : bhH s.data.toList i ≤ s.size := bhH_le s i hi
  generalize bhH s.data.toList i = f at *
  have c2 := fun W => bhS_any s f W (by omega) (by omega)
  rw [h.1] at c2
  have hlt : decide ((i : Int) + 1 < (f : Int)) = true := decide_eq_true (by omega)
  have h' := h.2
  have hlt2 : decide (i + 1 < f) = true := decide_eq_true (by omega)
  clear h
  go_enter Try.func20, Try.ntmps20
  go_wp2_with fail
  refine (c1 _).mono ?_
  rintro r w' ⟨rfl, rfl⟩
  go_wp2_with fail
  refine (c2 _).mono ?_
  rintro r w' ⟨rfl, rfl⟩
  go_wp2
  exact bodyPost_ret (ret_tag Try.results20 _ rfl rfl rfl (Blk.made w false ⟨#[]⟩ ⟨#[]⟩)) rfl ⟨rfl, (Below.refl _ _).alloc (Nat.le_refl _) _⟩
set_option maxRecDepth 100000 in
set_option maxHeartbeats 1000000 in
theorem rdH_yes (s : ByteArray) (i : Nat) (w : World) (hs : s.size ≤ 100000) (hi : i < s.size) (h : ¬ (M.bh M.isS s.data.toList (bhH s.data.toList i) = bhH s.data.toList i ∧ i + 1 < bhH s.data.toList i)) :
    Calls Try.prog 20 #[.string s, .int .i64 i] w fun e w' => e = .returned (rdV (⟨false, M.cut s.data.toList i (bhH s.data.toList i), M.cut s.data.toList (bhH s.data.toList i) (M.bh M.isS s.data.toList (bhH s.data.toList i))⟩, M.bh M.isS s.data.toList (bhH s.data.toList i), true)) ∧ Below w.heap.size w w' := by
  have c1 := fun W => bhH_any s i W hs hi
  have hfle : bhH s.data.toList i ≤ s.size := bhH_le s i hi
  have hfge : i < bhH s.data.toList i := bhH_gt s i
  generalize bhH s.data.toList i = f at *
  have c2 := fun W => bhS_any s f W (by omega) (by omega)
  have hge := M.bh_ge M.isS s.data.toList f
  have hle := M.bh_le M.isS s.data.toList f (by rw [← sz_list]; omega)
  rw [← sz_list] at hle
  generalize M.bh M.isS s.data.toList f = j at *
  have c3 := fun W => clone_any (s.extract i f) W (by rw [ByteArray.size_extract]; omega)
  have c4 := fun W => clone_any (s.extract f j) W (by rw [ByteArray.size_extract]; omega)
  have hx := extract_bA s i f (by omega)
  have hy := extract_bA s f j hge
  obtain ⟨e1, e2, e3⟩ := ex_dec (s := s) (i := i) (j := f) (by omega) hfle
  obtain ⟨e4, e5, e6⟩ := ex_dec hge hle
  have hcond : ((j : Int) == (f : Int)) = false ∨ ((j : Int) == (f : Int)) = true ∧ decide ((i : Int) + 1 < (f : Int)) = false := by
    by_cases hjf : j = f
    · right
      exact ⟨by rw [hjf]; simp, decide_eq_false (by omega)⟩
    · left; exact beq_eq_false_iff_ne.2 (by omega)
  rw [hx] at c3
  rw [hy] at c4
  clear h
  have res : ∀ (X Y : ByteArray), X = bA (M.cut s.data.toList i f) → Y = bA (M.cut s.data.toList f j) → (.tuple #[tV false X Y, .int .i64 (j : Int), .bool true]) = rdV (⟨false, M.cut s.data.toList i f, M.cut s.data.toList f j⟩, j, true) := by
    rintro X Y rfl rfl; rfl
  rw [← res _ _ rfl rfl]
  clear res
  generalize bA (M.cut s.data.toList i f) = X at *
  generalize bA (M.cut s.data.toList f j) = Y at *
  have K : Blk (w.alloc (.cells #[.bool false, .string ⟨#[]⟩, .string ⟨#[]⟩] 23)).drew w.heap.size false ⟨#[]⟩ ⟨#[]⟩ := Blk.made w false ⟨#[]⟩ ⟨#[]⟩
  have B : Below w.heap.size w (w.alloc (.cells #[.bool false, .string ⟨#[]⟩, .string ⟨#[]⟩] 23)).drew := ((Below.refl _ _).alloc (Nat.le_refl _) _).drew
  rcases hcond with hjf | ⟨hjf, hif⟩
  · go_enter Try.func20, Try.ntmps20
    go_wp2_with fail
    refine (c1 _).mono ?_
    rintro r w' ⟨rfl, rfl⟩
    go_wp2_with fail
    refine (c2 _).mono ?_
    rintro r w' ⟨rfl, rfl⟩
    clear c1 c2
    go_wp2_with fail
    go_region_with (first
      | (go_at_call 24; (with_reducible refine (c3 _).mono ?_); rintro r w1 ⟨rfl, hb1⟩; replace K := K.next hb1; replace B := B.trans (hb1.mono B.size); clear hb1 c3; obtain ⟨k0, k1, k2⟩ := K.cells; obtain ⟨f0, f1, f2⟩ := K.fro)
      | (go_at_call 24; (with_reducible refine (c4 _).mono ?_); rintro r w1 ⟨rfl, hb1⟩; replace K := K.next hb1; replace B := B.trans (hb1.mono B.size); clear hb1 c4; obtain ⟨k0, k1, k2⟩ := K.cells; obtain ⟨f0, f1, f2⟩ := K.fro))
    all_goals (go_wp2; exact bodyPost_ret (ret_tag Try.results20 _ rfl rfl rfl (K.set false X Y)) rfl ⟨rfl, below_set3 B (Nat.le_refl _) _ _ _⟩)
  · go_enter Try.func20, Try.ntmps20
    go_wp2_with fail
    refine (c1 _).mono ?_
    rintro r w' ⟨rfl, rfl⟩
    go_wp2_with fail
    refine (c2 _).mono ?_
    rintro r w' ⟨rfl, rfl⟩
    clear c1 c2
    go_wp2_with fail
    go_region_with (first
      | (go_at_call 24; (with_reducible refine (c3 _).mono ?_); rintro r w1 ⟨rfl, hb1⟩; replace K := K.next hb1; replace B := B.trans (hb1.mono B.size); clear hb1 c3; obtain ⟨k0, k1, k2⟩ := K.cells; obtain ⟨f0, f1, f2⟩ := K.fro)
      | (go_at_call 24; (with_reducible refine (c4 _).mono ?_); rintro r w1 ⟨rfl, hb1⟩; replace K := K.next hb1; replace B := B.trans (hb1.mono B.size); clear hb1 c4; obtain ⟨k0, k1, k2⟩ := K.cells; obtain ⟨f0, f1, f2⟩ := K.fro))
    all_goals (go_wp2; exact bodyPost_ret (ret_tag Try.results20 _ rfl rfl rfl (K.set false X Y)) rfl ⟨rfl, below_set3 B (Nat.le_refl _) _ _ _⟩)
end Go.Proofs.Ytcahleaaicebbaa