/- Walks of the document's Float12 where digits are read. That num12's Int and Float and the document's Int12 and Float12 answer the same. -/
import Derived.Test.YtipgipgehnhgkaaGreatDoorBu
import Derived.Test.YtipgipgehnhgkaaGreatDoorBn
set_option linter.unusedVariables false
namespace Go.Proofs.YtipgipgehnhgkaaGreatDoor
open Go.RowKit

theorem M.ex_len (l : List UInt8) : (M.ex l).length ≤ l.length := by
  have h1 := congrArg List.length (M.hd_rs l)
  rw [List.length_append] at h1
  unfold M.ex
  split
  · have h2 := congrArg List.length (M.hd_rs (M.rs l).tail)
    rw [List.length_append, List.length_tail] at h2
    omega
  · omega
set_option maxRecDepth 100000 in
set_option maxHeartbeats 4000000 in
theorem rflo_nn (s : ByteArray) (w : World) (hs : s.size ≤ 100) (hv : M.iv s.data.toList = none) (hi : M.body s.data.toList ∉ M.infs) (c2 : ∀ g, g = decide ((bA (M.body s.data.toList)).size < s.size) → ∀ W, Calls Tryz.prog 69 #[.string (bA (M.body s.data.toList)), .bool (M.isNeg s.data.toList), .bool g] W fun e w' => e = .returned (.tuple #[dZ, .bool false]) ∧ Below W.heap.size W w') (h46 : ¬ (M.rs (M.body s.data.toList)).head? = some 46) (ht : M.pw (M.ex (M.body s.data.toList)) = none) :
    Calls Tryz.prog 33 #[.string s] w fun e w' => e = .returned (.tuple #[dZ, .bool false]) ∧ Below w.heap.size w w' := by
  have hbl := M.body_len s.data.toList
  rw [← sz_list] at hbl
  have c0 := fun W => rint12_any s W hs
  rw [hv] at c0
  simp only [tailV] at c0
  have c1 := fun W => rsign_any s W (by omega)
  generalize M.body s.data.toList = L at *
  have hLl : L.length ≤ 100 := by omega
  have c6 := fun W => rtailL_any (M.ex L) W (by have := M.ex_len L; omega)
  rw [ht] at c6
  simp only [tailV] at c6
  obtain ⟨HD, HE⟩ := hd_at L hLl
  have hrsl := congrArg List.length (M.hd_rs L)
  rw [List.length_append] at hrsl
  have hUs : (bA L).size = L.length := bA_size L
  have hw0 : (bA L).extract 0 (M.hd L).length = bA (M.hd L) := by
    apply eq_bA
    rw [extract_take, bA_toList]
    have := List.take_left' (l₁ := M.hd L) (l₂ := M.rs L) rfl
    rwa [M.hd_rs L] at this
  have hex : M.ex L = M.rs L := by unfold M.ex; rw [if_neg h46]
  have hfc : M.fc L = [] := by unfold M.fc; rw [if_neg h46]
  rw [hex] at c6
  have hxx : (bA L).extract (M.hd L).length (bA L).size = bA (M.rs L) := by
    apply eq_bA
    rw [Lib.extract_to_end, bA_toList]
    have := List.drop_left' (l₁ := M.hd L) (l₂ := M.rs L) rfl
    rwa [M.hd_rs L] at this
  have HN : Hid (∀ h : (M.hd L).length < (bA L).size, (bA L)[(M.hd L).length] ≠ 46) := Lib.hid (by
    intro h k
    have g := get_list (bA L) _ h
    rw [bA_toList, show L[(M.hd L).length]? = (M.hd L ++ M.rs L)[(M.hd L).length]? by rw [M.hd_rs L], List.getElem?_append_right (Nat.le_refl _), Nat.sub_self, k] at g
    rw [← List.head?_eq_getElem?] at g
    exact h46 g)
  clear hex hfc
  obtain ⟨a, hae⟩ : ∃ a, (M.hd L).length = a := ⟨_, rfl⟩
  rw [hae] at HD HE hw0 hxx
  have HN2 : Hid (∀ h : a < (bA L).size, (bA L)[a] ≠ 46) := by subst hae; exact HN
  clear HN
  have haz : a ≤ (bA L).size := by omega
  have hazi : (a : Int) ≤ ((bA L).size : Int) := by omega
  clear hae hrsl
  have hU9 : (bA L).size ≤ 100 := by omega
  generalize bA (M.hd L) = WB at *
  generalize bA (M.rs L) = XB at *
  generalize hBU : bA L = U at *
  clear hBU hv hi ht h46 hbl hLl hUs
  generalize M.isNeg s.data.toList = N at *
  have c2a := c2 _ rfl
  clear c2
  obtain ⟨q, hq⟩ : ∃ q, decide (U.size < s.size) = q := ⟨_, rfl⟩
  rw [hq] at c2a
  go_enter Tryz.func33, Tryz.ntmps33
  go_wp2_with fail
  refine (c0 _).mono ?_
  rintro r w0 ⟨rfl, hw⟩
  have K0 := (Blk.made w 0 false ⟨#[]⟩ ⟨#[]⟩).next hw
  have B0 : Below w.heap.size w w0 := below_new hw
  clear hw c0
  go_wp2_with fail
  refine (c1 _).mono ?_
  rintro r w1 ⟨rfl, hw⟩
  have K1 := K0.next hw
  have B1 : Below w.heap.size w w1 := below_on B0 hw
  clear hw c1 K0 B0
  go_wp2_with fail
  refine (c2a _).mono ?_
  rintro r w2 ⟨rfl, hw⟩
  have K2 := K1.next hw
  have B2 : Below w.heap.size w w2 := below_on B1 hw
  clear hw c2a K1 B1 hq
  go_wp2_with fail
  obtain ⟨W, hW⟩ : ∃ W, w2.alloc (Obj.cells #[.int .i64 0, .bool false, .string ⟨#[]⟩, .string ⟨#[]⟩] 46) = W := ⟨_, rfl⟩
  have K3 : Blk W w.heap.size 0 false ⟨#[]⟩ ⟨#[]⟩ := hW ▸ K2.alloc' _
  have B3 : Below w.heap.size w W := hW ▸ B2.alloc B2.size _
  rw [hW]
  clear K2 B2 hW
  go_loop [10] (fun ev => ∃ j : Nat, ev = .int .i64 j ∧ j ≤ a) (fun ev => a - (intOf ev).toNat)
  case atStart => exact ⟨0, rfl, Nat.zero_le _⟩
  case round =>
    obtain ⟨j, rfl, hj⟩ := hrel
    by_cases hja : j < a
    · have hjs : j < U.size := by omega
      have hltd : decide (j < U.size) = true := by simpa using hjs
      have hjz : (j : Int) < (U.size : Int) := by omega
      have hdv := HD.out j hjs hja
      have cd := fun W => isDigit_any U[j] W
      have h256 := U[j].toNat_lt
      rw [decide_eq_true hdv] at cd
      clear hdv
      go_wp2_with fail
      refine (cd _).mono ?_
      rintro r w' ⟨rfl, rfl⟩
      go_wp2
      go_round
      case rel => exact ⟨j + 1, by go_num, by omega⟩
      case measure => simp [intOf]; omega
    · obtain rfl : j = a := by omega
      by_cases hlt : j < U.size
      · have hltd : decide (j < U.size) = true := by simpa using hlt
        have hnd := HE.out hlt
        have hn46 := HN2.out hlt
        have cd := fun W => isDigit_any U[j] W
        rw [decide_eq_false hnd] at cd
        have h256 := U[j].toNat_lt
        have hx46 : ((U[j].toNat : Int) == 46) = false := neC (k := 46) (by omega) hn46
        clear hnd hn46 HD HE HN2
        go_wp2_with fail
        refine (cd _).mono ?_
        rintro r w' ⟨rfl, rfl⟩
        go_wp2_with fail
        refine (c6 _).mono ?_
        rintro r w5 ⟨rfl, hw5⟩
        have K5 := K3.next hw5
        have B5 := below_on B3 hw5
        clear hw5 K3 B3 c6
        obtain ⟨g, hg⟩ : ∃ g, w.heap.size = g := ⟨_, rfl⟩
        rw [hg] at K5 B5 ⊢
        obtain ⟨k0, k1, k2, k3⟩ := K5.cells
        obtain ⟨f0, f1, f2, f3⟩ := K5.fro
        go_wp2
        exact bodyPost_ret (ret_dec Tryz.results33 _ rfl rfl (K5.set 0 false _ _)) rfl ⟨rfl, below_set4 (hg ▸ B5) (by omega) _ _ _ _⟩
      · have hltd : decide (j < U.size) = false := by simp; omega
        clear HD HE HN2
        go_wp2_with fail
        refine (c6 _).mono ?_
        rintro r w5 ⟨rfl, hw5⟩
        have K5 := K3.next hw5
        have B5 := below_on B3 hw5
        clear hw5 K3 B3 c6
        obtain ⟨g, hg⟩ : ∃ g, w.heap.size = g := ⟨_, rfl⟩
        rw [hg] at K5 B5 ⊢
        obtain ⟨k0, k1, k2, k3⟩ := K5.cells
        obtain ⟨f0, f1, f2, f3⟩ := K5.fro
        go_wp2
        exact bodyPost_ret (ret_dec Tryz.results33 _ rfl rfl (K5.set 0 false _ _)) rfl ⟨rfl, below_set4 (hg ▸ B5) (by omega) _ _ _ _⟩
set_option maxRecDepth 100000 in
set_option maxHeartbeats 4000000 in
theorem rflo_ny (s : ByteArray) (w : World) (z : Int) (hs : s.size ≤ 100) (hv : M.iv s.data.toList = none) (hi : M.body s.data.toList ∉ M.infs) (c2 : ∀ g, g = decide ((bA (M.body s.data.toList)).size < s.size) → ∀ W, Calls Tryz.prog 69 #[.string (bA (M.body s.data.toList)), .bool (M.isNeg s.data.toList), .bool g] W fun e w' => e = .returned (.tuple #[dZ, .bool false]) ∧ Below W.heap.size W w') (h46 : ¬ (M.rs (M.body s.data.toList)).head? = some 46) (ht : M.pw (M.ex (M.body s.data.toList)) = some z)
    (k : Int) (n ok : Bool) (D E : ByteArray) (cM : ∀ W', Calls Tryz.prog 72 #[.bool (M.isNeg s.data.toList), .string (bA (M.hd (M.body s.data.toList))), .string (bA (M.fc (M.body s.data.toList))), .string (tx z)] W' fun e w' => e = .returned (.tuple #[dV k n D E, .bool ok]) ∧ Below W'.heap.size W' w') :
    Calls Tryz.prog 33 #[.string s] w fun e w' => e = .returned (.tuple #[dV k n D E, .bool ok]) ∧ Below w.heap.size w w' := by
  have hbl := M.body_len s.data.toList
  rw [← sz_list] at hbl
  have c0 := fun W => rint12_any s W hs
  rw [hv] at c0
  simp only [tailV] at c0
  have c1 := fun W => rsign_any s W (by omega)
  generalize M.body s.data.toList = L at *
  have hLl : L.length ≤ 100 := by omega
  have c6 := fun W => rtailL_any (M.ex L) W (by have := M.ex_len L; omega)
  rw [ht] at c6
  simp only [tailV] at c6
  obtain ⟨HD, HE⟩ := hd_at L hLl
  have hrsl := congrArg List.length (M.hd_rs L)
  rw [List.length_append] at hrsl
  have hUs : (bA L).size = L.length := bA_size L
  have hw0 : (bA L).extract 0 (M.hd L).length = bA (M.hd L) := by
    apply eq_bA
    rw [extract_take, bA_toList]
    have := List.take_left' (l₁ := M.hd L) (l₂ := M.rs L) rfl
    rwa [M.hd_rs L] at this
  have hex : M.ex L = M.rs L := by unfold M.ex; rw [if_neg h46]
  have hfc : M.fc L = [] := by unfold M.fc; rw [if_neg h46]
  rw [hfc, show bA ([] : List UInt8) = ⟨#[]⟩ from rfl] at cM
  rw [hex] at c6
  have hxx : (bA L).extract (M.hd L).length (bA L).size = bA (M.rs L) := by
    apply eq_bA
    rw [Lib.extract_to_end, bA_toList]
    have := List.drop_left' (l₁ := M.hd L) (l₂ := M.rs L) rfl
    rwa [M.hd_rs L] at this
  have HN : Hid (∀ h : (M.hd L).length < (bA L).size, (bA L)[(M.hd L).length] ≠ 46) := Lib.hid (by
    intro h k
    have g := get_list (bA L) _ h
    rw [bA_toList, show L[(M.hd L).length]? = (M.hd L ++ M.rs L)[(M.hd L).length]? by rw [M.hd_rs L], List.getElem?_append_right (Nat.le_refl _), Nat.sub_self, k] at g
    rw [← List.head?_eq_getElem?] at g
    exact h46 g)
  clear hex hfc
  obtain ⟨a, hae⟩ : ∃ a, (M.hd L).length = a := ⟨_, rfl⟩
  rw [hae] at HD HE hw0 hxx
  have HN2 : Hid (∀ h : a < (bA L).size, (bA L)[a] ≠ 46) := by subst hae; exact HN
  clear HN
  have haz : a ≤ (bA L).size := by omega
  have hazi : (a : Int) ≤ ((bA L).size : Int) := by omega
  clear hae hrsl
  have hU9 : (bA L).size ≤ 100 := by omega
  generalize bA (M.hd L) = WB at *
  generalize bA (M.rs L) = XB at *
  generalize hBU : bA L = U at *
  clear hBU hv hi ht h46 hbl hLl hUs
  generalize M.isNeg s.data.toList = N at *
  generalize tx z = Z at *
  have c2a := c2 _ rfl
  clear c2
  obtain ⟨q, hq⟩ : ∃ q, decide (U.size < s.size) = q := ⟨_, rfl⟩
  rw [hq] at c2a
  go_enter Tryz.func33, Tryz.ntmps33
  go_wp2_with fail
  refine (c0 _).mono ?_
  rintro r w0 ⟨rfl, hw⟩
  have K0 := (Blk.made w 0 false ⟨#[]⟩ ⟨#[]⟩).next hw
  have B0 : Below w.heap.size w w0 := below_new hw
  clear hw c0
  go_wp2_with fail
  refine (c1 _).mono ?_
  rintro r w1 ⟨rfl, hw⟩
  have K1 := K0.next hw
  have B1 : Below w.heap.size w w1 := below_on B0 hw
  clear hw c1 K0 B0
  go_wp2_with fail
  refine (c2a _).mono ?_
  rintro r w2 ⟨rfl, hw⟩
  have K2 := K1.next hw
  have B2 : Below w.heap.size w w2 := below_on B1 hw
  clear hw c2a K1 B1 hq
  go_wp2_with fail
  obtain ⟨W, hW⟩ : ∃ W, w2.alloc (Obj.cells #[.int .i64 0, .bool false, .string ⟨#[]⟩, .string ⟨#[]⟩] 46) = W := ⟨_, rfl⟩
  have K3 : Blk W w.heap.size 0 false ⟨#[]⟩ ⟨#[]⟩ := hW ▸ K2.alloc' _
  have B3 : Below w.heap.size w W := hW ▸ B2.alloc B2.size _
  rw [hW]
  clear K2 B2 hW
  go_loop [10] (fun ev => ∃ j : Nat, ev = .int .i64 j ∧ j ≤ a) (fun ev => a - (intOf ev).toNat)
  case atStart => exact ⟨0, rfl, Nat.zero_le _⟩
  case round =>
    obtain ⟨j, rfl, hj⟩ := hrel
    by_cases hja : j < a
    · have hjs : j < U.size := by omega
      have hltd : decide (j < U.size) = true := by simpa using hjs
      have hjz : (j : Int) < (U.size : Int) := by omega
      have hdv := HD.out j hjs hja
      have cd := fun W => isDigit_any U[j] W
      have h256 := U[j].toNat_lt
      rw [decide_eq_true hdv] at cd
      clear hdv
      go_wp2_with fail
      refine (cd _).mono ?_
      rintro r w' ⟨rfl, rfl⟩
      go_wp2
      go_round
      case rel => exact ⟨j + 1, by go_num, by omega⟩
      case measure => simp [intOf]; omega
    · obtain rfl : j = a := by omega
      by_cases hlt : j < U.size
      · have hltd : decide (j < U.size) = true := by simpa using hlt
        have hnd := HE.out hlt
        have hn46 := HN2.out hlt
        have cd := fun W => isDigit_any U[j] W
        rw [decide_eq_false hnd] at cd
        have h256 := U[j].toNat_lt
        have hx46 : ((U[j].toNat : Int) == 46) = false := neC (k := 46) (by omega) hn46
        clear hnd hn46 HD HE HN2
        go_wp2_with fail
        refine (cd _).mono ?_
        rintro r w' ⟨rfl, rfl⟩
        go_wp2_with fail
        refine (c6 _).mono ?_
        rintro r w5 ⟨rfl, hw5⟩
        have K5 := K3.next hw5
        have B5 := below_on B3 hw5
        clear hw5 K3 B3 c6
        go_wp2_with fail
        refine (cM _).mono ?_
        rintro r w6 ⟨rfl, hw6⟩
        have K6 := K5.next hw6
        have B6 := below_on B5 hw6
        clear hw6 K5 B5 cM
        obtain ⟨g, hg⟩ : ∃ g, w.heap.size = g := ⟨_, rfl⟩
        rw [hg] at K6 B6 ⊢
        obtain ⟨k0, k1, k2, k3⟩ := K6.cells
        obtain ⟨f0, f1, f2, f3⟩ := K6.fro
        go_wp2
        exact bodyPost_ret (ret_dec Tryz.results33 _ rfl rfl (K6.set k n _ _)) rfl ⟨rfl, below_set4 (hg ▸ B6) (by omega) _ _ _ _⟩
      · have hltd : decide (j < U.size) = false := by simp; omega
        clear HD HE HN2
        go_wp2_with fail
        refine (c6 _).mono ?_
        rintro r w5 ⟨rfl, hw5⟩
        have K5 := K3.next hw5
        have B5 := below_on B3 hw5
        clear hw5 K3 B3 c6
        go_wp2_with fail
        refine (cM _).mono ?_
        rintro r w6 ⟨rfl, hw6⟩
        have K6 := K5.next hw6
        have B6 := below_on B5 hw6
        clear hw6 K5 B5 cM
        obtain ⟨g, hg⟩ : ∃ g, w.heap.size = g := ⟨_, rfl⟩
        rw [hg] at K6 B6 ⊢
        obtain ⟨k0, k1, k2, k3⟩ := K6.cells
        obtain ⟨f0, f1, f2, f3⟩ := K6.fro
        go_wp2
        exact bodyPost_ret (ret_dec Tryz.results33 _ rfl rfl (K6.set k n _ _)) rfl ⟨rfl, below_set4 (hg ▸ B6) (by omega) _ _ _ _⟩
set_option maxRecDepth 100000 in
set_option maxHeartbeats 4000000 in
theorem rflo_dn (s : ByteArray) (w : World) (hs : s.size ≤ 100) (hv : M.iv s.data.toList = none) (hi : M.body s.data.toList ∉ M.infs) (c2 : ∀ g, g = decide ((bA (M.body s.data.toList)).size < s.size) → ∀ W, Calls Tryz.prog 69 #[.string (bA (M.body s.data.toList)), .bool (M.isNeg s.data.toList), .bool g] W fun e w' => e = .returned (.tuple #[dZ, .bool false]) ∧ Below W.heap.size W w') (h46 : (M.rs (M.body s.data.toList)).head? = some 46) (ht : M.pw (M.ex (M.body s.data.toList)) = none) :
    Calls Tryz.prog 33 #[.string s] w fun e w' => e = .returned (.tuple #[dZ, .bool false]) ∧ Below w.heap.size w w' := by
  have hbl := M.body_len s.data.toList
  rw [← sz_list] at hbl
  have c0 := fun W => rint12_any s W hs
  rw [hv] at c0
  simp only [tailV] at c0
  have c1 := fun W => rsign_any s W (by omega)
  generalize M.body s.data.toList = L at *
  have hLl : L.length ≤ 100 := by omega
  have c6 := fun W => rtailL_any (M.ex L) W (by have := M.ex_len L; omega)
  rw [ht] at c6
  simp only [tailV] at c6
  obtain ⟨HD, HE⟩ := hd_at L hLl
  have hrsl := congrArg List.length (M.hd_rs L)
  rw [List.length_append] at hrsl
  have hUs : (bA L).size = L.length := bA_size L
  have hw0 : (bA L).extract 0 (M.hd L).length = bA (M.hd L) := by
    apply eq_bA
    rw [extract_take, bA_toList]
    have := List.take_left' (l₁ := M.hd L) (l₂ := M.rs L) rfl
    rwa [M.hd_rs L] at this
  obtain ⟨R, hR⟩ : ∃ R, (M.rs L).tail = R := ⟨_, rfl⟩
  have hrs : M.rs L = 46 :: R := by
    rw [← hR]
    cases hr : M.rs L with
    | nil => rw [hr] at h46; simp at h46
    | cons x r => rw [hr] at h46; simp at h46; rw [h46]; rfl
  have hex : M.ex L = M.rs R := by unfold M.ex; rw [if_pos h46, hR]
  have hfc : M.fc L = M.hd R := by unfold M.fc; rw [if_pos h46, hR]
  rw [hex] at c6
  have eL : L = (M.hd L ++ [46]) ++ (M.hd R ++ M.rs R) := by
    have := M.hd_rs L
    rw [hrs] at this
    rw [M.hd_rs R, List.append_assoc]; exact this.symm
  obtain ⟨a, hae⟩ : ∃ a, (M.hd L).length = a := ⟨_, rfl⟩
  obtain ⟨e, hee⟩ : ∃ e, a + 1 + (M.hd R).length = e := ⟨_, rfl⟩
  have hpl : (M.hd L ++ [46]).length = a + 1 := by simp [hae]
  have hln := congrArg List.length eL
  rw [List.length_append, hpl, List.length_append] at hln
  have hat : ∃ h : a < (bA L).size, (bA L)[a].toNat = 46 := by
    have hlt : a < (bA L).size := by omega
    refine ⟨hlt, ?_⟩
    have g := get_list (bA L) a hlt
    rw [bA_toList, show L[a]? = (M.hd L ++ M.rs L)[a]? by rw [M.hd_rs L], List.getElem?_append_right (by omega), hae, Nat.sub_self, hrs] at g
    have : (46 : UInt8) = (bA L)[a] := by simpa using g
    rw [← this]; rfl
  obtain ⟨hal, hat⟩ := hat
  have hxF : (bA L).extract (a + 1) e = bA (M.hd R) := by
    apply eq_bA
    simp only [ByteArray.data_extract, Array.toList_extract, List.extract_eq_take_drop]
    rw [bA_toList]
    conv => lhs; rw [eL]
    rw [List.drop_left' hpl]
    exact List.take_left' (by omega)
  have hxX : (bA L).extract e (bA L).size = bA (M.rs R) := by
    apply eq_bA
    rw [Lib.extract_to_end, bA_toList]
    conv => lhs; rw [eL]
    rw [← List.append_assoc]
    exact List.drop_left' (by rw [List.length_append, hpl]; omega)
  have HD2 : Hid (∀ j (h : j < (bA L).size), a + 1 ≤ j → j < e → M.dv (bA L)[j] < 10) := Lib.hid (by
    intro j h h1 h2
    have g := get_list (bA L) j h
    rw [bA_toList, show L[j]? = ((M.hd L ++ [46]) ++ (M.hd R ++ M.rs R))[j]? by rw [← eL], List.getElem?_append_right (by omega), List.getElem?_append_left (by omega)] at g
    exact (M.allD_iff _ _).1 (M.hd_all R) _ (List.mem_of_getElem? g))
  have HE2 : Hid (∀ h : e < (bA L).size, ¬ M.dv (bA L)[e] < 10) := Lib.hid (by
    intro h
    have g := get_list (bA L) e h
    rw [bA_toList, show L[e]? = ((M.hd L ++ [46]) ++ (M.hd R ++ M.rs R))[e]? by rw [← eL], List.getElem?_append_right (by omega), List.getElem?_append_right (by omega), hpl, show e - (a + 1) - (M.hd R).length = 0 by omega] at g
    have hnd := M.rs_head R
    cases hb : M.rs R with
    | nil => rw [hb] at g; cases g
    | cons x r =>
      rw [hb] at g
      have hx : x = (bA L)[e] := by simpa using g
      rw [← hx]
      exact hnd x r hb)
  have hez : e ≤ (bA L).size := by omega
  have hlo2 : a + 1 ≤ e := by omega
  have hlo2i : (a : Int) + 1 ≤ (e : Int) := by omega
  have hezi : (e : Int) ≤ (bA L).size := by omega
  rw [hae] at HD HE hw0
  have haz : a ≤ (bA L).size := by omega
  have hazi : (a : Int) ≤ ((bA L).size : Int) := by omega
  clear hrs hR hex hfc eL hae hee hpl hln hrsl
  have hU9 : (bA L).size ≤ 100 := by omega
  generalize bA (M.hd L) = WB at *
  generalize bA (M.hd R) = FB at *
  generalize bA (M.rs R) = XB at *
  generalize hBU : bA L = U at *
  clear hBU hv hi ht h46 hbl hLl hUs
  generalize M.isNeg s.data.toList = N at *
  have c2a := c2 _ rfl
  clear c2
  obtain ⟨q, hq⟩ : ∃ q, decide (U.size < s.size) = q := ⟨_, rfl⟩
  rw [hq] at c2a
  go_enter Tryz.func33, Tryz.ntmps33
  go_wp2_with fail
  refine (c0 _).mono ?_
  rintro r w0 ⟨rfl, hw⟩
  have K0 := (Blk.made w 0 false ⟨#[]⟩ ⟨#[]⟩).next hw
  have B0 : Below w.heap.size w w0 := below_new hw
  clear hw c0
  go_wp2_with fail
  refine (c1 _).mono ?_
  rintro r w1 ⟨rfl, hw⟩
  have K1 := K0.next hw
  have B1 : Below w.heap.size w w1 := below_on B0 hw
  clear hw c1 K0 B0
  go_wp2_with fail
  refine (c2a _).mono ?_
  rintro r w2 ⟨rfl, hw⟩
  have K2 := K1.next hw
  have B2 : Below w.heap.size w w2 := below_on B1 hw
  clear hw c2a K1 B1 hq
  go_wp2_with fail
  obtain ⟨W, hW⟩ : ∃ W, w2.alloc (Obj.cells #[.int .i64 0, .bool false, .string ⟨#[]⟩, .string ⟨#[]⟩] 46) = W := ⟨_, rfl⟩
  have K3 : Blk W w.heap.size 0 false ⟨#[]⟩ ⟨#[]⟩ := hW ▸ K2.alloc' _
  have B3 : Below w.heap.size w W := hW ▸ B2.alloc B2.size _
  rw [hW]
  clear K2 B2 hW
  go_loop [10] (fun ev => ∃ j : Nat, ev = .int .i64 j ∧ j ≤ a) (fun ev => a - (intOf ev).toNat)
  case atStart => exact ⟨0, rfl, Nat.zero_le _⟩
  case round =>
    obtain ⟨j, rfl, hj⟩ := hrel
    by_cases hja : j < a
    · have hjs : j < U.size := by omega
      have hltd : decide (j < U.size) = true := by simpa using hjs
      have hjz : (j : Int) < (U.size : Int) := by omega
      have hdv := HD.out j hjs hja
      have cd := fun W => isDigit_any U[j] W
      have h256 := U[j].toNat_lt
      rw [decide_eq_true hdv] at cd
      clear hdv
      go_wp2_with fail
      refine (cd _).mono ?_
      rintro r w' ⟨rfl, rfl⟩
      go_wp2
      go_round
      case rel => exact ⟨j + 1, by go_num, by omega⟩
      case measure => simp [intOf]; omega
    · obtain rfl : j = a := by omega
      have hltd : decide (j < U.size) = true := by simpa using hal
      have hnd := HE.out hal
      have cd := fun W => isDigit_any U[j] W
      rw [decide_eq_false hnd, hat] at cd
      clear hnd HD HE
      go_wp2_with fail
      refine (cd _).mono ?_
      rintro r w' ⟨rfl, rfl⟩
      clear cd
      go_wp2_with fail
      go_loop [13] (fun ev => ∃ m : Nat, ev = .int .i64 m ∧ j + 1 ≤ m ∧ m ≤ e) (fun ev => e - (intOf ev).toNat)
      case atStart => exact ⟨j + 1, by go_num, Nat.le_refl _, hlo2⟩
      case round =>
        obtain ⟨m, rfl, hlo, hj⟩ := hrel
        by_cases hja : m < e
        · have hjs : m < U.size := by omega
          have hltd : decide (m < U.size) = true := by simpa using hjs
          have hjz : (m : Int) < (U.size : Int) := by omega
          have hdv := HD2.out m hjs hlo hja
          have cd := fun W => isDigit_any U[m] W
          have h256 := U[m].toNat_lt
          rw [decide_eq_true hdv] at cd
          clear hdv
          go_wp2_with fail
          refine (cd _).mono ?_
          rintro r w' ⟨rfl, rfl⟩
          go_wp2
          go_round
          case rel => exact ⟨m + 1, by go_num, by omega, by omega⟩
          case measure => simp [intOf]; omega
        · obtain rfl : m = e := by omega
          by_cases hlt : m < U.size
          · have hltm : decide (m < U.size) = true := by simpa using hlt
            have hnd := HE2.out hlt
            have cd := fun W => isDigit_any U[m] W
            rw [decide_eq_false hnd] at cd
            have h256 := U[m].toNat_lt
            clear hnd HD2 HE2
            go_wp2_with fail
            refine (cd _).mono ?_
            rintro r w' ⟨rfl, rfl⟩
            go_wp2_with fail
            refine (c6 _).mono ?_
            rintro r w5 ⟨rfl, hw5⟩
            have K5 := K3.next hw5
            have B5 := below_on B3 hw5
            clear hw5 K3 B3 c6
            obtain ⟨g, hg⟩ : ∃ g, w.heap.size = g := ⟨_, rfl⟩
            rw [hg] at K5 B5 ⊢
            obtain ⟨k0, k1, k2, k3⟩ := K5.cells
            obtain ⟨f0, f1, f2, f3⟩ := K5.fro
            go_wp2
            exact bodyPost_ret (ret_dec Tryz.results33 _ rfl rfl (K5.set 0 false _ _)) rfl ⟨rfl, below_set4 (hg ▸ B5) (by omega) _ _ _ _⟩
          · have hltm : decide (m < U.size) = false := by simp; omega
            clear HD2 HE2
            go_wp2_with fail
            refine (c6 _).mono ?_
            rintro r w5 ⟨rfl, hw5⟩
            have K5 := K3.next hw5
            have B5 := below_on B3 hw5
            clear hw5 K3 B3 c6
            obtain ⟨g, hg⟩ : ∃ g, w.heap.size = g := ⟨_, rfl⟩
            rw [hg] at K5 B5 ⊢
            obtain ⟨k0, k1, k2, k3⟩ := K5.cells
            obtain ⟨f0, f1, f2, f3⟩ := K5.fro
            go_wp2
            exact bodyPost_ret (ret_dec Tryz.results33 _ rfl rfl (K5.set 0 false _ _)) rfl ⟨rfl, below_set4 (hg ▸ B5) (by omega) _ _ _ _⟩
set_option maxRecDepth 100000 in
set_option maxHeartbeats 4000000 in
theorem rflo_dy (s : ByteArray) (w : World) (z : Int) (hs : s.size ≤ 100) (hv : M.iv s.data.toList = none) (hi : M.body s.data.toList ∉ M.infs) (c2 : ∀ g, g = decide ((bA (M.body s.data.toList)).size < s.size) → ∀ W, Calls Tryz.prog 69 #[.string (bA (M.body s.data.toList)), .bool (M.isNeg s.data.toList), .bool g] W fun e w' => e = .returned (.tuple #[dZ, .bool false]) ∧ Below W.heap.size W w') (h46 : (M.rs (M.body s.data.toList)).head? = some 46) (ht : M.pw (M.ex (M.body s.data.toList)) = some z)
    (k : Int) (n ok : Bool) (D E : ByteArray) (cM : ∀ W', Calls Tryz.prog 72 #[.bool (M.isNeg s.data.toList), .string (bA (M.hd (M.body s.data.toList))), .string (bA (M.fc (M.body s.data.toList))), .string (tx z)] W' fun e w' => e = .returned (.tuple #[dV k n D E, .bool ok]) ∧ Below W'.heap.size W' w') :
    Calls Tryz.prog 33 #[.string s] w fun e w' => e = .returned (.tuple #[dV k n D E, .bool ok]) ∧ Below w.heap.size w w' := by
  have hbl := M.body_len s.data.toList
  rw [← sz_list] at hbl
  have c0 := fun W => rint12_any s W hs
  rw [hv] at c0
  simp only [tailV] at c0
  have c1 := fun W => rsign_any s W (by omega)
  generalize M.body s.data.toList = L at *
  have hLl : L.length ≤ 100 := by omega
  have c6 := fun W => rtailL_any (M.ex L) W (by have := M.ex_len L; omega)
  rw [ht] at c6
  simp only [tailV] at c6
  obtain ⟨HD, HE⟩ := hd_at L hLl
  have hrsl := congrArg List.length (M.hd_rs L)
  rw [List.length_append] at hrsl
  have hUs : (bA L).size = L.length := bA_size L
  have hw0 : (bA L).extract 0 (M.hd L).length = bA (M.hd L) := by
    apply eq_bA
    rw [extract_take, bA_toList]
    have := List.take_left' (l₁ := M.hd L) (l₂ := M.rs L) rfl
    rwa [M.hd_rs L] at this
  obtain ⟨R, hR⟩ : ∃ R, (M.rs L).tail = R := ⟨_, rfl⟩
  have hrs : M.rs L = 46 :: R := by
    rw [← hR]
    cases hr : M.rs L with
    | nil => rw [hr] at h46; simp at h46
    | cons x r => rw [hr] at h46; simp at h46; rw [h46]; rfl
  have hex : M.ex L = M.rs R := by unfold M.ex; rw [if_pos h46, hR]
  have hfc : M.fc L = M.hd R := by unfold M.fc; rw [if_pos h46, hR]
  rw [hex] at c6
  rw [hfc] at cM
  have eL : L = (M.hd L ++ [46]) ++ (M.hd R ++ M.rs R) := by
    have := M.hd_rs L
    rw [hrs] at this
    rw [M.hd_rs R, List.append_assoc]; exact this.symm
  obtain ⟨a, hae⟩ : ∃ a, (M.hd L).length = a := ⟨_, rfl⟩
  obtain ⟨e, hee⟩ : ∃ e, a + 1 + (M.hd R).length = e := ⟨_, rfl⟩
  have hpl : (M.hd L ++ [46]).length = a + 1 := by simp [hae]
  have hln := congrArg List.length eL
  rw [List.length_append, hpl, List.length_append] at hln
  have hat : ∃ h : a < (bA L).size, (bA L)[a].toNat = 46 := by
    have hlt : a < (bA L).size := by omega
    refine ⟨hlt, ?_⟩
    have g := get_list (bA L) a hlt
    rw [bA_toList, show L[a]? = (M.hd L ++ M.rs L)[a]? by rw [M.hd_rs L], List.getElem?_append_right (by omega), hae, Nat.sub_self, hrs] at g
    have : (46 : UInt8) = (bA L)[a] := by simpa using g
    rw [← this]; rfl
  obtain ⟨hal, hat⟩ := hat
  have hxF : (bA L).extract (a + 1) e = bA (M.hd R) := by
    apply eq_bA
    simp only [ByteArray.data_extract, Array.toList_extract, List.extract_eq_take_drop]
    rw [bA_toList]
    conv => lhs; rw [eL]
    rw [List.drop_left' hpl]
    exact List.take_left' (by omega)
  have hxX : (bA L).extract e (bA L).size = bA (M.rs R) := by
    apply eq_bA
    rw [Lib.extract_to_end, bA_toList]
    conv => lhs; rw [eL]
    rw [← List.append_assoc]
    exact List.drop_left' (by rw [List.length_append, hpl]; omega)
  have HD2 : Hid (∀ j (h : j < (bA L).size), a + 1 ≤ j → j < e → M.dv (bA L)[j] < 10) := Lib.hid (by
    intro j h h1 h2
    have g := get_list (bA L) j h
    rw [bA_toList, show L[j]? = ((M.hd L ++ [46]) ++ (M.hd R ++ M.rs R))[j]? by rw [← eL], List.getElem?_append_right (by omega), List.getElem?_append_left (by omega)] at g
    exact (M.allD_iff _ _).1 (M.hd_all R) _ (List.mem_of_getElem? g))
  have HE2 : Hid (∀ h : e < (bA L).size, ¬ M.dv (bA L)[e] < 10) := Lib.hid (by
    intro h
    have g := get_list (bA L) e h
    rw [bA_toList, show L[e]? = ((M.hd L ++ [46]) ++ (M.hd R ++ M.rs R))[e]? by rw [← eL], List.getElem?_append_right (by omega), List.getElem?_append_right (by omega), hpl, show e - (a + 1) - (M.hd R).length = 0 by omega] at g
    have hnd := M.rs_head R
    cases hb : M.rs R with
    | nil => rw [hb] at g; cases g
    | cons x r =>
      rw [hb] at g
      have hx : x = (bA L)[e] := by simpa using g
      rw [← hx]
      exact hnd x r hb)
  have hez : e ≤ (bA L).size := by omega
  have hlo2 : a + 1 ≤ e := by omega
  have hlo2i : (a : Int) + 1 ≤ (e : Int) := by omega
  have hezi : (e : Int) ≤ (bA L).size := by omega
  rw [hae] at HD HE hw0
  have haz : a ≤ (bA L).size := by omega
  have hazi : (a : Int) ≤ ((bA L).size : Int) := by omega
  clear hrs hR hex hfc eL hae hee hpl hln hrsl
  have hU9 : (bA L).size ≤ 100 := by omega
  generalize bA (M.hd L) = WB at *
  generalize bA (M.hd R) = FB at *
  generalize bA (M.rs R) = XB at *
  generalize hBU : bA L = U at *
  clear hBU hv hi ht h46 hbl hLl hUs
  generalize M.isNeg s.data.toList = N at *
  generalize tx z = Z at *
  have c2a := c2 _ rfl
  clear c2
  obtain ⟨q, hq⟩ : ∃ q, decide (U.size < s.size) = q := ⟨_, rfl⟩
  rw [hq] at c2a
  go_enter Tryz.func33, Tryz.ntmps33
  go_wp2_with fail
  refine (c0 _).mono ?_
  rintro r w0 ⟨rfl, hw⟩
  have K0 := (Blk.made w 0 false ⟨#[]⟩ ⟨#[]⟩).next hw
  have B0 : Below w.heap.size w w0 := below_new hw
  clear hw c0
  go_wp2_with fail
  refine (c1 _).mono ?_
  rintro r w1 ⟨rfl, hw⟩
  have K1 := K0.next hw
  have B1 : Below w.heap.size w w1 := below_on B0 hw
  clear hw c1 K0 B0
  go_wp2_with fail
  refine (c2a _).mono ?_
  rintro r w2 ⟨rfl, hw⟩
  have K2 := K1.next hw
  have B2 : Below w.heap.size w w2 := below_on B1 hw
  clear hw c2a K1 B1 hq
  go_wp2_with fail
  obtain ⟨W, hW⟩ : ∃ W, w2.alloc (Obj.cells #[.int .i64 0, .bool false, .string ⟨#[]⟩, .string ⟨#[]⟩] 46) = W := ⟨_, rfl⟩
  have K3 : Blk W w.heap.size 0 false ⟨#[]⟩ ⟨#[]⟩ := hW ▸ K2.alloc' _
  have B3 : Below w.heap.size w W := hW ▸ B2.alloc B2.size _
  rw [hW]
  clear K2 B2 hW
  go_loop [10] (fun ev => ∃ j : Nat, ev = .int .i64 j ∧ j ≤ a) (fun ev => a - (intOf ev).toNat)
  case atStart => exact ⟨0, rfl, Nat.zero_le _⟩
  case round =>
    obtain ⟨j, rfl, hj⟩ := hrel
    by_cases hja : j < a
    · have hjs : j < U.size := by omega
      have hltd : decide (j < U.size) = true := by simpa using hjs
      have hjz : (j : Int) < (U.size : Int) := by omega
      have hdv := HD.out j hjs hja
      have cd := fun W => isDigit_any U[j] W
      have h256 := U[j].toNat_lt
      rw [decide_eq_true hdv] at cd
      clear hdv
      go_wp2_with fail
      refine (cd _).mono ?_
      rintro r w' ⟨rfl, rfl⟩
      go_wp2
      go_round
      case rel => exact ⟨j + 1, by go_num, by omega⟩
      case measure => simp [intOf]; omega
    · obtain rfl : j = a := by omega
      have hltd : decide (j < U.size) = true := by simpa using hal
      have hnd := HE.out hal
      have cd := fun W => isDigit_any U[j] W
      rw [decide_eq_false hnd, hat] at cd
      clear hnd HD HE
      go_wp2_with fail
      refine (cd _).mono ?_
      rintro r w' ⟨rfl, rfl⟩
      clear cd
      go_wp2_with fail
      go_loop [13] (fun ev => ∃ m : Nat, ev = .int .i64 m ∧ j + 1 ≤ m ∧ m ≤ e) (fun ev => e - (intOf ev).toNat)
      case atStart => exact ⟨j + 1, by go_num, Nat.le_refl _, hlo2⟩
      case round =>
        obtain ⟨m, rfl, hlo, hj⟩ := hrel
        by_cases hja : m < e
        · have hjs : m < U.size := by omega
          have hltd : decide (m < U.size) = true := by simpa using hjs
          have hjz : (m : Int) < (U.size : Int) := by omega
          have hdv := HD2.out m hjs hlo hja
          have cd := fun W => isDigit_any U[m] W
          have h256 := U[m].toNat_lt
          rw [decide_eq_true hdv] at cd
          clear hdv
          go_wp2_with fail
          refine (cd _).mono ?_
          rintro r w' ⟨rfl, rfl⟩
          go_wp2
          go_round
          case rel => exact ⟨m + 1, by go_num, by omega, by omega⟩
          case measure => simp [intOf]; omega
        · obtain rfl : m = e := by omega
          by_cases hlt : m < U.size
          · have hltm : decide (m < U.size) = true := by simpa using hlt
            have hnd := HE2.out hlt
            have cd := fun W => isDigit_any U[m] W
            rw [decide_eq_false hnd] at cd
            have h256 := U[m].toNat_lt
            clear hnd HD2 HE2
            go_wp2_with fail
            refine (cd _).mono ?_
            rintro r w' ⟨rfl, rfl⟩
            go_wp2_with fail
            refine (c6 _).mono ?_
            rintro r w5 ⟨rfl, hw5⟩
            have K5 := K3.next hw5
            have B5 := below_on B3 hw5
            clear hw5 K3 B3 c6
            go_wp2_with fail
            refine (cM _).mono ?_
            rintro r w6 ⟨rfl, hw6⟩
            have K6 := K5.next hw6
            have B6 := below_on B5 hw6
            clear hw6 K5 B5 cM
            obtain ⟨g, hg⟩ : ∃ g, w.heap.size = g := ⟨_, rfl⟩
            rw [hg] at K6 B6 ⊢
            obtain ⟨k0, k1, k2, k3⟩ := K6.cells
            obtain ⟨f0, f1, f2, f3⟩ := K6.fro
            go_wp2
            exact bodyPost_ret (ret_dec Tryz.results33 _ rfl rfl (K6.set k n _ _)) rfl ⟨rfl, below_set4 (hg ▸ B6) (by omega) _ _ _ _⟩
          · have hltm : decide (m < U.size) = false := by simp; omega
            clear HD2 HE2
            go_wp2_with fail
            refine (c6 _).mono ?_
            rintro r w5 ⟨rfl, hw5⟩
            have K5 := K3.next hw5
            have B5 := below_on B3 hw5
            clear hw5 K3 B3 c6
            go_wp2_with fail
            refine (cM _).mono ?_
            rintro r w6 ⟨rfl, hw6⟩
            have K6 := K5.next hw6
            have B6 := below_on B5 hw6
            clear hw6 K5 B5 cM
            obtain ⟨g, hg⟩ : ∃ g, w.heap.size = g := ⟨_, rfl⟩
            rw [hg] at K6 B6 ⊢
            obtain ⟨k0, k1, k2, k3⟩ := K6.cells
            obtain ⟨f0, f1, f2, f3⟩ := K6.fro
            go_wp2
            exact bodyPost_ret (ret_dec Tryz.results33 _ rfl rfl (K6.set k n _ _)) rfl ⟨rfl, below_set4 (hg ▸ B6) (by omega) _ _ _ _⟩
end Go.Proofs.YtipgipgehnhgkaaGreatDoor

namespace Go.Proofs.YtipgipgehnhgkaaGreatDoor
open Go.RowKit

theorem pw_small {X : List UInt8} {z : Int} (h : M.pw X = some z) : (tx z).size ≤ X.length + 1 := by
  rcases M.pw_head h with rfl | ⟨e, r, rfl, _, hp⟩
  · rw [M.pw] at h; obtain rfl := Option.some.inj h; rw [tx0]; decide
  · rw [M.pwE] at hp
    by_cases hd : M.okD 10 (M.body r) = true
    · rw [if_pos hd] at hp
      obtain rfl := Option.some.inj hp
      obtain ⟨hne, hal⟩ := (M.okD_iff _ _).1 hd
      have h1 := M.val_lt 10 _ hal
      have h2 := tx_len (M.sgn (M.isNeg r) (M.val 10 (M.body r))) (M.body r).length (List.length_pos_iff.2 hne) (by rw [sgn_abs]; exact h1)
      have h3 := M.body_len r
      simp only [List.length_cons]; omega
    · rw [if_neg hd] at hp; cases hp
theorem iv_of_ok {l : List UInt8} (h : M.okD 10 (M.body l) = true) : M.iv l = some (M.sgn (M.isNeg l) (M.val 10 (M.body l))) := by
  have h3 := (M.gl_whole _).2 h
  rcases form_iv l with ⟨d, _, e, _, _⟩ | ⟨d, _, e, _, _⟩ | ⟨_, _, e⟩ | ⟨hf, e⟩
  · rw [e, (M.body_else _ (by decide) (by decide)).2, M.gl_mark _ _ (Or.inl rfl)] at h3; omega
  · rw [e, (M.body_else _ (by decide) (by decide)).2, M.gl_mark _ _ (Or.inr rfl)] at h3; omega
  · exact e
  · exfalso
    unfold M.iv at e
    by_cases h1 : l.take 2 = [48, 111]
    · rw [M.take2 h1, (M.body_else _ (by decide) (by decide)).2, M.gl_mark _ _ (Or.inl rfl)] at h3; omega
    · by_cases h2 : l.take 2 = [48, 120]
      · rw [M.take2 h2, (M.body_else _ (by decide) (by decide)).2, M.gl_mark _ _ (Or.inr rfl)] at h3; omega
      · rw [if_neg h1, if_neg h2, if_pos h] at e; cases e
theorem iv_inf {l : List UInt8} (h : M.body l ∈ M.infs) : M.iv l = none := by
  simp only [M.infs, List.mem_cons, List.not_mem_nil, or_false] at h
  rcases form_iv l with ⟨d, _, e, _, _⟩ | ⟨d, _, e, _, _⟩ | ⟨_, ho, _⟩ | ⟨_, e⟩
  · rw [e, (M.body_else _ (by decide) (by decide)).2] at h; rcases h with h | h | h <;> simp at h
  · rw [e, (M.body_else _ (by decide) (by decide)).2] at h; rcases h with h | h | h <;> simp at h
  · rcases h with h | h | h <;> rw [h] at ho <;> exact absurd ho (by decide)
  · exact e
theorem iv_nan {l : List UInt8} (h : l ∈ M.nans) : M.iv l = none ∧ M.body l = l := by
  simp only [M.nans, List.mem_cons, List.not_mem_nil, or_false] at h
  rcases h with rfl | rfl | rfl <;> decide
theorem nint_any (s : ByteArray) (w : World) (hs : s.size ≤ 1000) :
    Calls Tryz.prog 26 #[.string s] w fun e w' => e = .returned (tailV (M.iv s.data.toList)) ∧ Below w.heap.size w w' := by
  cases h : M.iv s.data.toList with
  | none => exact (nint_no s w hs h).mono fun e w' k => ⟨k.1, k.2 ▸ Below.refl _ _⟩
  | some z => exact nint_yes s z w hs h
/-- What Float and Float12 answer of s. -/
def NBoth (s : ByteArray) : Prop := ∃ (k : Int) (n ok : Bool) (D E : ByteArray), D.size ≤ 1000 ∧ E.size ≤ 1000 ∧
  (∀ w, Env w → Calls Tryz.prog 27 #[.string s] w fun e w' => e = .returned (.tuple #[dV k n D E, .bool ok]) ∧ Below w.heap.size w w') ∧
  (∀ w, Calls Tryz.prog 33 #[.string s] w fun e w' => e = .returned (.tuple #[dV k n D E, .bool ok]) ∧ Below w.heap.size w w')
theorem nfloat_agree (s : ByteArray) (hs : s.size ≤ 100) : NBoth s := by
  have hbl := M.body_len s.data.toList
  rw [← sz_list] at hbl
  by_cases hnan : s.data.toList ∈ M.nans
  · obtain ⟨hv, hb⟩ := iv_nan hnan
    refine ⟨2, false, true, ⟨#[]⟩, ⟨#[]⟩, (by decide), (by decide), fun w he => nflo_nan s w hnan, fun w => rflo_odd s w hs hv 2 false fun g hg W => ?_⟩
    have hg' : g = false := by rw [hg, bA_size, hb, ← sz_list]; simp
    subst hg'
    exact rodd_nans (bA (M.body s.data.toList)) (M.isNeg s.data.toList) false W (by rw [bA_toList, hb]; exact hnan)
  by_cases hinf : M.body s.data.toList ∈ M.infs
  · exact ⟨1, M.isNeg s.data.toList, true, ⟨#[]⟩, ⟨#[]⟩, (by decide), (by decide), fun w he => nflo_inf s w (by omega) hnan hinf, fun w => rflo_odd s w hs (iv_inf hinf) 1 _ fun g _ W => rodd_infs _ _ g W (by rw [bA_toList]; exact hinf)⟩
  cases hv : M.iv s.data.toList with
  | some z =>
    exact ⟨0, false, false, ⟨#[]⟩, ⟨#[]⟩, (by decide), (by decide), fun w he => nflo_no s w (by omega) hnan hinf (fun k => by rw [M.iv_none_of_four k] at hv; cases hv), fun w => rflo_whole s z w hs hv⟩
  | none =>
    have c2 : ∀ g, g = decide ((bA (M.body s.data.toList)).size < s.size) → ∀ W, Calls Tryz.prog 69 #[.string (bA (M.body s.data.toList)), .bool (M.isNeg s.data.toList), .bool g] W fun e w' => e = .returned (.tuple #[dZ, .bool false]) ∧ Below W.heap.size W w' := by
      intro g hg W
      by_cases hbn : M.body s.data.toList ∈ M.nans
      · have hlt := body_less hnan hbn
        have hg' : g = true := by rw [hg, bA_size, sz_list]; exact decide_eq_true hlt
        subst hg'
        exact rodd_nans (bA (M.body s.data.toList)) (M.isNeg s.data.toList) true W (by rw [bA_toList]; exact hbn)
      · exact rodd_no _ _ g W (by rw [bA_toList]; exact hinf) (by rw [bA_toList]; exact hbn)
    cases hp : M.pw (M.ex (M.body s.data.toList)) with
    | none =>
      have h4 : M.gl (M.body s.data.toList) ≠ 4 := by
        rw [M.gl_eq, hp]
        split
        · omega
        · split
          · omega
          · simp
      refine ⟨0, false, false, ⟨#[]⟩, ⟨#[]⟩, (by decide), (by decide), fun w he => nflo_no s w (by omega) hnan hinf h4, fun w => ?_⟩
      by_cases h46 : (M.rs (M.body s.data.toList)).head? = some 46
      · exact rflo_dn s w hs hv hinf c2 h46 hp
      · exact rflo_nn s w hs hv hinf c2 h46 hp
    | some z =>
      have key : ∃ (k : Int) (n ok : Bool) (D E : ByteArray), D.size ≤ 1000 ∧ E.size ≤ 1000 ∧ (∀ w, Env w → Calls Tryz.prog 27 #[.string s] w fun e w' => e = .returned (.tuple #[dV k n D E, .bool ok]) ∧ Below w.heap.size w w') ∧
          (∀ W', Calls Tryz.prog 72 #[.bool (M.isNeg s.data.toList), .string (bA (M.hd (M.body s.data.toList))), .string (bA (M.fc (M.body s.data.toList))), .string (tx z)] W' fun e w' => e = .returned (.tuple #[dV k n D E, .bool ok]) ∧ Below W'.heap.size W' w') := by
        have hxl := M.ex_len (M.body s.data.toList)
        have hzs := pw_small hp
        by_cases h4 : M.gl (M.body s.data.toList) = 4
        · obtain ⟨Q, z', hN, hp'⟩ := M.isNum h4
          obtain rfl := Option.some.inj (hp'.symm.trans hp)
          have hl := congrArg List.length hN.eq
          rw [List.length_append] at hl
          have hq : (M.hd (M.body s.data.toList)).length ≤ Q.length ∧ (M.fc (M.body s.data.toList)).length ≤ Q.length := by
            rcases hN.q with ⟨h1, h2⟩ | h1
            · rw [h1, h2]; simp
            · rw [h1]; simp; omega
          obtain ⟨k, n, D, E, s1, s2, g3, g4⟩ := make_both (M.isNeg s.data.toList) (bA (M.hd (M.body s.data.toList))) (bA (M.fc (M.body s.data.toList))) z' (by rw [bA_size]; omega) (by rw [bA_size]; omega) (by omega)
            (by rw [bA_toList, bA_toList, M.okD_iff, M.allD_append, hN.w, hN.f]; exact ⟨hN.ne, rfl⟩)
          exact ⟨k, n, true, D, E, s1, s2, fun w he => nflo_yes s w he (by omega) _ _ Q _ z' hN h4 k n true D E g3, g4⟩
        · have hempty : M.hd (M.body s.data.toList) ++ M.fc (M.body s.data.toList) = [] := by
            by_cases he : M.hd (M.body s.data.toList) ++ M.fc (M.body s.data.toList) = []
            · exact he
            · exfalso
              have e := M.gl_eq (M.body s.data.toList)
              rw [if_neg he, hp] at e
              by_cases hr : M.rs (M.body s.data.toList) = []
              · rw [if_pos hr] at e
                rw [iv_of_ok ((M.gl_whole _).1 e)] at hv
                cases hv
              · rw [if_neg hr] at e
                exact h4 e
          obtain ⟨e1, e2⟩ := List.append_eq_nil_iff.1 hempty
          refine ⟨0, false, false, ⟨#[]⟩, ⟨#[]⟩, (by decide), (by decide), fun w he => nflo_no s w (by omega) hnan hinf h4, fun W' => ?_⟩
          rw [e1, e2]
          exact rmake_no _ (bA []) (bA []) (tx z) W' (by decide) (by decide) (by omega) (Or.inl (by decide))
      obtain ⟨k, n, ok, D, E, s1, s2, g1, g2⟩ := key
      refine ⟨k, n, ok, D, E, s1, s2, g1, fun w => ?_⟩
      by_cases h46 : (M.rs (M.body s.data.toList)).head? = some 46
      · exact rflo_dy s w z hs hv hinf c2 h46 hp k n ok D E g2
      · exact rflo_ny s w z hs hv hinf c2 h46 hp k n ok D E g2
end Go.Proofs.YtipgipgehnhgkaaGreatDoor
