/- Walks: num12's Float. -/
import Derived.Test.YtocegiffbgnogaaDoorPe
import Derived.Test.YtocegiffbgnogaaDoorFg
set_option linter.unusedVariables false
namespace Go.Proofs.YtocegiffbgnogaaDoor
open Go.RowKit

set_option maxRecDepth 100000 in
theorem nflo_nan (s : ByteArray) (w : World) (h : s.data.toList ∈ M.nans) :
    Calls Tryd.prog 10 #[.string s] w fun e w' => e = .returned (.tuple #[dV 2 false ⟨#[]⟩ ⟨#[]⟩, .bool true]) ∧ Below w.heap.size w w' := by
  simp only [M.nans, List.mem_cons, List.not_mem_nil, or_false] at h
  rcases h with h | h | h
  all_goals
    rw [ba_of h]
    clear h
    go_enter Tryd.func10, Tryd.ntmps10
    go_wp2
    exact bodyPost_ret (ret_dec Tryd.results10 _ rfl rfl (Blk.made w 2 false ⟨#[]⟩ ⟨#[]⟩)) rfl ⟨rfl, (Below.refl _ _).alloc (Nat.le_refl _) _⟩
set_option maxRecDepth 100000 in
set_option maxHeartbeats 1000000 in
theorem nflo_inf (s : ByteArray) (w : World) (hs : s.size ≤ 1000) (h : s.data.toList ∉ M.nans) (hi : M.body s.data.toList ∈ M.infs) :
    Calls Tryd.prog 10 #[.string s] w fun e w' => e = .returned (.tuple #[dV 1 (M.isNeg s.data.toList) ⟨#[]⟩ ⟨#[]⟩, .bool true]) ∧ Below w.heap.size w w' := by
  have c1 := fun W => fsplit_any s W (by omega)
  generalize M.isNeg s.data.toList = N at *
  simp only [M.nans, List.mem_cons, List.not_mem_nil, or_false, not_or] at h
  have e1 := beq_list h.1
  have e2 := beq_list h.2.1
  have e3 := beq_list h.2.2
  simp only [M.infs, List.mem_cons, List.not_mem_nil, or_false] at hi
  have hU : bA (M.body s.data.toList) = ⟨#[46, 105, 110, 102]⟩ ∨ bA (M.body s.data.toList) = ⟨#[46, 73, 110, 102]⟩ ∨ bA (M.body s.data.toList) = ⟨#[46, 73, 78, 70]⟩ := by
    rcases hi with hi | hi | hi
    · exact Or.inl (congrArg bA hi)
    · exact Or.inr (Or.inl (congrArg bA hi))
    · exact Or.inr (Or.inr (congrArg bA hi))
  clear h hi
  generalize bA (M.body s.data.toList) = U at *
  rcases hU with rfl | rfl | rfl
  all_goals
    go_enter Tryd.func10, Tryd.ntmps10
    go_wp2_with fail
    refine (c1 _).mono ?_
    rintro r w' ⟨rfl, rfl⟩
    go_wp2
    exact bodyPost_ret (ret_dec Tryd.results10 _ rfl rfl (Blk.made w 1 N ⟨#[]⟩ ⟨#[]⟩)) rfl ⟨rfl, (Below.refl _ _).alloc (Nat.le_refl _) _⟩
set_option maxRecDepth 100000 in
set_option maxHeartbeats 1000000 in
theorem nflo_no (s : ByteArray) (w : World) (hs : s.size ≤ 1000) (h : s.data.toList ∉ M.nans) (hi : M.body s.data.toList ∉ M.infs) (h4 : M.gl (M.body s.data.toList) ≠ 4) :
    Calls Tryd.prog 10 #[.string s] w fun e w' => e = .returned (.tuple #[dZ, .bool false]) ∧ Below w.heap.size w w' := by
  have c1 := fun W => fsplit_any s W (by omega)
  have c2 := fun W => nform_any s W hs
  have hg : M.gf s.data.toList ≠ 4 := fun k => h4 ((M.gf_four _).1 k)
  have hU : (bA (M.body s.data.toList)).data.toList ∉ M.infs := by rw [bA_toList]; exact hi
  generalize bA (M.body s.data.toList) = U at *
  generalize M.isNeg s.data.toList = N at *
  generalize M.gf s.data.toList = G at *
  simp only [M.nans, List.mem_cons, List.not_mem_nil, or_false, not_or] at h
  have e1 := beq_list h.1
  have e2 := beq_list h.2.1
  have e3 := beq_list h.2.2
  simp only [M.infs, List.mem_cons, List.not_mem_nil, or_false, not_or] at hU
  have g1 := beq_list hU.1
  have g2 := beq_list hU.2.1
  have g3 := beq_list hU.2.2
  have hG : ((G : Int) == 4) = false := beq_eq_false_iff_ne.2 (by omega)
  clear h hU hi h4 hg
  go_enter Tryd.func10, Tryd.ntmps10
  go_wp2_with fail
  refine (c1 _).mono ?_
  rintro r w' ⟨rfl, rfl⟩
  go_wp2_with fail
  refine (c2 _).mono ?_
  rintro r w' ⟨rfl, rfl⟩
  go_wp2
  exact bodyPost_ret (ret_dec Tryd.results10 _ rfl rfl (Blk.made w 0 false ⟨#[]⟩ ⟨#[]⟩)) rfl ⟨rfl, (Below.refl _ _).alloc (Nat.le_refl _) _⟩
theorem nan_no {l : List UInt8} (h : M.gl (M.body l) = 4) : l ∉ M.nans ∧ M.body l ∉ M.infs := by
  constructor
  · intro k
    simp only [M.nans, List.mem_cons, List.not_mem_nil, or_false] at k
    rcases k with rfl | rfl | rfl <;> exact absurd h (by decide)
  · intro k
    simp only [M.infs, List.mem_cons, List.not_mem_nil, or_false] at k
    rcases k with k | k | k <;> rw [k] at h <;> exact absurd h (by decide)
theorem q_low {W F Q : List UInt8} (hq : Q = W ∧ F = [] ∨ Q = W ++ 46 :: F) (hW : M.allD 10 W = true) (hF : M.allD 10 F = true) : ∀ c ∈ Q, c ≠ 101 ∧ c ≠ 69 ∧ c.toNat < 128 := by
  have aW := (M.allD_iff _ _).1 hW
  have aF := (M.allD_iff _ _).1 hF
  rcases hq with ⟨rfl, _⟩ | rfl
  · intro c hc; exact M.lo_dig (aW c hc)
  · intro c hc
    rcases List.mem_append.1 hc with hc | hc
    · exact M.lo_dig (aW c hc)
    · rcases List.mem_cons.1 hc with rfl | hc
      · exact M.lo_46
      · exact M.lo_dig (aF c hc)
theorem q_cut {W F Q : List UInt8} (hq : Q = W ∧ F = [] ∨ Q = W ++ 46 :: F) (hW : M.allD 10 W = true) : ∃ b, Lib.cut Q [46] = (W, F, b) := by
  have h46 : ∀ c ∈ W, c ≠ 46 := fun c hc => M.ne46 ((M.allD_iff _ _).1 hW c hc) (by omega)
  rcases hq with ⟨rfl, rfl⟩ | rfl
  · exact ⟨false, M.cut_no 46 Q h46⟩
  · exact ⟨true, M.cut_yes 46 W F h46⟩
set_option maxRecDepth 100000 in
set_option maxHeartbeats 2000000 in
/-- What Float answers is what Make answers of the digits and the power. -/
theorem nflo_yes (s : ByteArray) (w : World) (he : Env w) (hs : s.size ≤ 900) (W F Q X : List UInt8) (z : Int) (hP : M.Num (M.body s.data.toList) W F Q X z) (h4 : M.gl (M.body s.data.toList) = 4)
    (k : Int) (n ok : Bool) (D E : ByteArray) (cM : ∀ W', Tab W' → Calls Tryd.prog 26 #[.bool (M.isNeg s.data.toList), .string (bA W), .string (bA F), .string (tx z)] W' fun e w' => e = .returned (.tuple #[dV k n D E, .bool ok]) ∧ Below W'.heap.size W' w') :
    Calls Tryd.prog 10 #[.string s] w fun e w' => e = .returned (.tuple #[dV k n D E, .bool ok]) ∧ Below w.heap.size w w' := by
  have hbl := M.body_len s.data.toList
  rw [← sz_list] at hbl
  obtain ⟨h, hi⟩ := nan_no h4
  have c1 := fun W => fsplit_any s W (by omega)
  have c2 := fun W => nform_any s W (by omega)
  rw [(M.gf_four _).2 h4] at c2
  have hlen : Q.length + X.length ≤ 900 := by rw [← List.length_append, ← hP.eq]; omega
  have c3 := fun W => npower_any Q X z W (by omega) (q_low hP.q hP.w hP.f) hP.pow
  rw [← hP.eq] at c3
  obtain ⟨b, hb⟩ := q_cut hP.q hP.w
  have c4 := fun W (he : Env W) => cut46_any Q _ _ b W he (by omega) hb
  have hU : (bA (M.body s.data.toList)).data.toList ∉ M.infs := by rw [bA_toList]; exact hi
  clear hP hi h4 hlen hb hbl
  generalize bA (M.body s.data.toList) = U at *
  generalize M.isNeg s.data.toList = N at *
  generalize bA Q = B2 at *
  generalize bA W = B3 at *
  generalize bA F = B4 at *
  generalize tx z = Z at *
  simp only [M.nans, List.mem_cons, List.not_mem_nil, or_false, not_or] at h
  have e1 := beq_list h.1
  have e2 := beq_list h.2.1
  have e3 := beq_list h.2.2
  simp only [M.infs, List.mem_cons, List.not_mem_nil, or_false, not_or] at hU
  have g1 := beq_list hU.1
  have g2 := beq_list hU.2.1
  have g3 := beq_list hU.2.2
  clear h hU
  go_enter Tryd.func10, Tryd.ntmps10
  go_wp2_with fail
  refine (c1 _).mono ?_
  rintro r w' ⟨rfl, rfl⟩
  go_wp2_with fail
  refine (c2 _).mono ?_
  rintro r w' ⟨rfl, rfl⟩
  clear c1 c2
  go_wp2_with fail
  refine (c3 _).mono ?_
  rintro r w2 ⟨rfl, hb2⟩
  have x2 := (env_new he _).next hb2
  clear c3
  go_wp2_with fail
  refine (c4 _ x2).mono ?_
  rintro r w3 ⟨rfl, hb3⟩
  have x3 := x2.next hb3
  clear c4
  go_wp2_with fail
  refine (cM _ x3.1).mono ?_
  rintro r w4 ⟨rfl, hb4⟩
  have K1 := ((Blk.made w 0 false ⟨#[]⟩ ⟨#[]⟩).next hb2 |>.next hb3).next hb4
  have B1 : Below w.heap.size w w4 := (below_new hb2).trans ((hb3.mono (by have := (below_new hb2).size; omega)).trans (hb4.mono (by have := (below_new hb2).size; have := hb3.size; omega)))
  clear cM hb2 hb3 hb4 x2 x3 he
  obtain ⟨g, hg⟩ : ∃ g, w.heap.size = g := ⟨_, rfl⟩
  rw [hg] at K1 B1 ⊢
  obtain ⟨k0, k1, k2, k3⟩ := K1.cells
  obtain ⟨f0, f1, f2, f3⟩ := K1.fro
  go_wp2
  exact bodyPost_ret (ret_dec Tryd.results10 _ rfl rfl (K1.set k n _ _)) rfl ⟨rfl, below_set4 (hg ▸ B1) (by omega) _ _ _ _⟩
end Go.Proofs.YtocegiffbgnogaaDoor
