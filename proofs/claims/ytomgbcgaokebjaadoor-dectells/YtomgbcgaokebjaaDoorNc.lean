/- The law DecWhole: its walk. -/
import Derived.Test.YtomgbcgaokebjaaDoorNb
import Derived.Deep.RegionHeld3
set_option linter.unusedVariables false
namespace Go.Proofs.YtomgbcgaokebjaaDoor
open Go.RowKit

/-- What Make answers of digits alone. -/
def Whole (x : Nat) (D E : ByteArray) (c t : Nat) : Prop := (x = 0 ∧ D = ⟨#[48]⟩ ∧ E = ⟨#[48]⟩) ∨ (x = c * 10 ^ t ∧ c % 10 ≠ 0 ∧ D = bA (M.dg c) ∧ E = tx (t : Int))
theorem whole_make (neg : Bool) (l : List UInt8) (h1 : l ≠ []) (h2 : M.allD 10 l = true) (hl : l.length ≤ 40) : ∃ D E c t, Whole (M.val 10 l) D E c t ∧ t ≤ 40 ∧ c < 10 ^ 40 ∧ Mk neg (bA l) ⟨#[]⟩ ⟨#[48]⟩ D E := by
  have e : (bA l).data.toList ++ (⟨#[]⟩ : ByteArray).data.toList = l := by rw [app_nil, bA_toList]
  have hs : (bA l).size ≤ 1000 := by rw [bA_size]; omega
  by_cases hv : M.val 10 l = 0
  · refine ⟨⟨#[48]⟩, ⟨#[48]⟩, 0, 0, Or.inl ⟨hv, rfl, rfl⟩, by omega, by omega, ?_⟩
    have := mk_zero neg (bA l) ⟨#[]⟩ 0 hs (by decide) (by rw [tx0]; decide) (by rw [e]; exact h1) (by rw [e]; exact h2) (by rw [e]; exact hv)
    rwa [tx0] at this
  · obtain ⟨c, t, hc, hct⟩ := M.exists_ct _ (Nat.pos_of_ne_zero hv)
    obtain ⟨m, hm⟩ := M.ct_of_val h2 hc hct
    have hlen := congrArg List.length hm
    simp only [List.length_append, List.length_replicate] at hlen
    have hcl := M.dg_lt c
    have hcb : c < 10 ^ 40 := Nat.lt_of_lt_of_le hcl (Nat.pow_le_pow_right (by omega) (by omega))
    refine ⟨bA (M.dg c), tx (t : Int), c, t, Or.inr ⟨hct, hc, rfl, rfl⟩, by omega, hcb, ?_⟩
    have := mk_yes neg (bA l) ⟨#[]⟩ 0 (t : Int) c t hs (by decide) (by rw [tx0]; decide) (by rw [e]; exact h1) (by rw [e]; exact h2) hc (by rw [e]; exact hct) (by rw [empty_size]; omega)
    rwa [tx0] at this
theorem whole_eq {x y : Nat} {D E D' E' : ByteArray} {c t c' t' : Nat} (h : Whole x D E c t) (h' : Whole y D' E' c' t') : decide ((0 : Int) = 0 ∧ True ∧ D = D' ∧ E = E') = decide (x = y) := by
  rw [decide_eq_decide]
  rcases h with ⟨rfl, rfl, rfl⟩ | ⟨rfl, hc, rfl, rfl⟩
  · rcases h' with ⟨rfl, rfl, rfl⟩ | ⟨rfl, hc', rfl, rfl⟩
    · simp
    · constructor
      · rintro ⟨_, _, h, _⟩
        have h := (eq_bA_iff _ _).1 h
        exact absurd h.symm (M.dg_core_ne c' hc')
      · intro h
        have := M.ct_pos t' hc'
        omega
  · rcases h' with ⟨rfl, rfl, rfl⟩ | ⟨rfl, hc', rfl, rfl⟩
    · constructor
      · rintro ⟨_, _, h, _⟩
        have h := (eq_bA_iff _ _).1 h.symm
        exact absurd h.symm (M.dg_core_ne c hc)
      · intro h
        have := M.ct_pos t hc
        omega
    · constructor
      · rintro ⟨_, _, h1, h2⟩
        have h3 := M.dg_inj (bA_inj.1 h1)
        have h4 := tx_inj h2
        rw [h3, show t = t' by omega]
      · intro h
        obtain ⟨rfl, rfl⟩ := M.ct_uniq hc hc' h
        exact ⟨rfl, trivial, rfl, rfl⟩
theorem lift_s {S : World → Prop} {W0 : World} {f : FuncId} {args : Array Value} {w : World} {v : Value} (_ : ∀ w', Below W0.heap.size W0 w' → S w') (c : Calls Tryd.prog f args w fun r w' => r = .returned v ∧ w = w') (h : S w) :
    Calls Tryd.prog f args w fun r w' => r = .returned v ∧ S w' := c.mono fun _ _ ⟨h1, h2⟩ => ⟨h1, h2 ▸ h⟩
theorem lift_b {S : World → Prop} {W0 : World} {f : FuncId} {args : Array Value} {w : World} {v : Value} (h2 : ∀ w', Below W0.heap.size W0 w' → S w') (h1 : ∀ w', S w' → Below W0.heap.size W0 w') (c : Calls Tryd.prog f args w fun r w' => r = .returned v ∧ Below w.heap.size w w') (h : S w) :
    Calls Tryd.prog f args w fun r w' => r = .returned v ∧ S w' := c.mono fun _ _ ⟨h3, h4⟩ => ⟨h3, h2 _ ((h1 _ h).trans (h4.mono (h1 _ h).size))⟩
theorem whole_loop {x : Nat} {D E : ByteArray} {c t : Nat} (h : Whole x D E c t) (ht : t ≤ 40) (hc : c < 10 ^ 40) : ∃ (C : List UInt8) (K : Nat) (z : Bool), D = bA C ∧ E = tx (K : Int) ∧ K ≤ 40 ∧ C.length ≤ 40 ∧ (D.toList == [48]) = z ∧ (z = true → K = 0) ∧ bA (C ++ M.zs K) = tx (x : Int) := by
  rcases h with ⟨rfl, rfl, rfl⟩ | ⟨rfl, hc', rfl, rfl⟩
  · exact ⟨[48], 0, _, rfl, tx0.symm, by omega, by simp, rfl, fun _ => rfl, tx0.symm⟩
  · refine ⟨M.dg c, t, false, rfl, rfl, ht, M.dg_len_le c 40 (by omega) hc, ?_, (fun h => by cases h), ?_⟩
    · rw [bA_beq]; exact decide_eq_false (M.dg_core_ne c hc')
    · unfold tx; rw [M.txt_nat, M.dg_pow c t (M.c_pos hc')]
theorem whole_end {x : Nat} {D E : ByteArray} {c t : Nat} (h : Whole x D E c t) (hx : x ≠ 0) : bA (M.dg c ++ M.zs t) = tx (x : Int) := by
  rcases h with ⟨h, _⟩ | ⟨rfl, hc, _, _⟩
  · exact absurd h hx
  · unfold tx; rw [M.txt_nat, M.dg_pow c t (M.c_pos hc)]
set_option maxRecDepth 100000 in
set_option maxHeartbeats 2000000 in
theorem whole_law (s t : ByteArray) (neg : Bool) (w : World) (he : Env w) (hs : s.size ≤ maxLen) (hu : t.size ≤ maxLen) :
    Calls Tryd.prog 6 #[.string s, .string t, .bool neg] w fun r w' => r = .returned (.bool true) ∧ Below w.heap.size w w' := by
  unfold maxLen at hs hu
  have hs2 : s.size ≤ 9223372036854775807 := by omega
  have hu2 : t.size ≤ 9223372036854775807 := by omega
  clear hs hu
  go_enter Tryd.func6, Tryd.ntmps6
  go_wp2_with fail
  refine (known_any w he).mono ?_
  rintro r w1 ⟨rfl, hb1⟩
  have B1 : Below w.heap.size w w1 := hb1
  clear hb1
  by_cases h1 : s.size < 1
  · have d1 : decide ((s.size : Int) < 1) = true := decide_eq_true (by omega)
    go_wp2
    go_ret
    exact ⟨rfl, B1⟩
  have d1 : decide ((s.size : Int) < 1) = false := decide_eq_false (by omega)
  by_cases h2 : t.size < 1
  · have d2 : decide ((t.size : Int) < 1) = true := decide_eq_true (by omega)
    go_wp2
    go_ret
    exact ⟨rfl, B1⟩
  have d2 : decide ((t.size : Int) < 1) = false := decide_eq_false (by omega)
  by_cases h3 : 40 < s.size
  · have d3 : decide ((40 : Int) < (s.size : Int)) = true := decide_eq_true (by omega)
    go_wp2
    go_ret
    exact ⟨rfl, B1⟩
  have d3 : decide ((40 : Int) < (s.size : Int)) = false := decide_eq_false (by omega)
  by_cases h4 : 40 < t.size
  · have d4 : decide ((40 : Int) < (t.size : Int)) = true := decide_eq_true (by omega)
    go_wp2
    go_ret
    exact ⟨rfl, B1⟩
  have d4 : decide ((40 : Int) < (t.size : Int)) = false := decide_eq_false (by omega)
  have cG0 := fun (u : ByteArray) (hu : u.size ≤ 40) W => digits_any u W (by omega)
  have cN0 := fun (u : ByteArray) (hu : u.size ≤ 40) (hv : 0 < u.size) W => rnorm_list false (digs u.data.toList) W (digs_ok u.data.toList (by rw [← sz_list]; exact hv)) (by rw [digs_length, ← sz_list]; omega)
  have okS := digs_ok s.data.toList (by rw [← sz_list]; omega)
  have okU := digs_ok t.data.toList (by rw [← sz_list]; omega)
  have hlS : (digs s.data.toList).length ≤ 40 := by rw [digs_length, ← sz_list]; omega
  have hlU : (digs t.data.toList).length ≤ 40 := by rw [digs_length, ← sz_list]; omega
  obtain ⟨D, E, c, k, hW, hk, hc, cA⟩ := whole_make neg _ ((M.okD_iff _ _).1 okS).1 (digs_all _) hlS
  obtain ⟨D2, E2, c2, k2, hW2, hk2, hc2, cB⟩ := whole_make neg _ ((M.okD_iff _ _).1 okU).1 (digs_all _) hlU
  obtain ⟨x, hx⟩ : ∃ x, M.val 10 (digs s.data.toList) = x := ⟨_, rfl⟩
  obtain ⟨y, hy⟩ : ∃ y, M.val 10 (digs t.data.toList) = y := ⟨_, rfl⟩
  rw [hx] at hW
  rw [hy] at hW2
  have e1 := eqG
  have e2 := eql4 0 0 neg neg D D2 E E2
  have e3 := whole_eq hW hW2
  have e4 := tx_beq (x : Int) (y : Int)
  rw [show decide ((x : Int) = (y : Int)) = decide (x = y) by rw [decide_eq_decide]; omega] at e4
  rw [show decide ((0 : Int) = 0 ∧ neg = neg ∧ D = D2 ∧ E = E2) = decide (x = y) by rw [← e3]; simp] at e2
  generalize decide (x = y) = p at *
  obtain ⟨C, K, z0, hDC, hEK, hK40, hC40, hz, hzK, hend⟩ := whole_loop hW hk hc
  have HEND := Lib.hid hend
  have HDC := Lib.hid hDC
  have HEK := Lib.hid hEK
  clear hDC hEK
  clear hlS hlU okS okU e3 hW2 hk2 hc2 hW hk hc hend
  obtain ⟨G, hG⟩ : ∃ G : ByteArray → ByteArray, ∀ u, bA (digs u.data.toList) = G u := ⟨fun u => bA (digs u.data.toList), fun _ => rfl⟩
  obtain ⟨H, hH⟩ : ∃ H : ByteArray → ByteArray, ∀ u, tx (M.sgn false (M.val 10 (digs u.data.toList))) = H u := ⟨fun u => tx (M.sgn false (M.val 10 (digs u.data.toList))), fun _ => rfl⟩
  simp only [hG] at cG0 cN0 cA cB
  simp only [hH] at cN0
  have hXs : tx (x : Int) = H s := by rw [← hH, hx]; rfl
  have hYt : tx (y : Int) = H t := by rw [← hH, hy]; rfl
  rw [hXs] at e4 HEND
  rw [hYt] at e4
  have hs40 : s.size ≤ 40 := by omega
  have ht40 : t.size ≤ 40 := by omega
  have hs0 : 0 < s.size := by omega
  have ht0 : 0 < t.size := by omega
  have cS := cG0 s hs40
  have cU := cG0 t ht40
  clear hG hH hXs hYt hx hy h1 h2 h3 h4
  go_wp2_with fail
  refine (cS _).mono ?_
  rintro r w2 ⟨rfl, hb2⟩
  have B2 : Below w.heap.size w w2 := B1.trans (hb2.mono B1.size)
  have T2 := he.next B2
  clear hb2 B1
  go_wp2_with fail
  refine (cA _ T2.1).mono ?_
  rintro r w3 ⟨rfl, hb3⟩
  have B3 : Below w.heap.size w w3 := B2.trans (hb3.mono B2.size)
  clear hb3 B2 T2
  go_wp2_with fail
  refine (cU _).mono ?_
  rintro r w4 ⟨rfl, hb4⟩
  have KA := (Blk.made w3 0 neg D E).next hb4
  have B4 : Below w.heap.size w w4 := below_over B3 hb4
  have T4 := he.next B4
  clear hb4 B3
  obtain ⟨ga, hga⟩ : ∃ g, w3.heap.size = g := ⟨_, rfl⟩
  rw [hga] at KA ⊢
  clear hga
  go_wp2_with fail
  refine (cB _ T4.1).mono ?_
  rintro r w5 ⟨rfl, hb5⟩
  have KA5 := (KA.next hb5).alloc' (.cells #[.int .i64 0, .bool neg, .string D2, .string E2] 23)
  have KB5 := Blk.made w5 0 neg D2 E2
  have B5' : Below w.heap.size w w5 := B4.trans (hb5.mono B4.size)
  have B5 := B5'.alloc B5'.size (.cells #[.int .i64 0, .bool neg, .string D2, .string E2] 23)
  have la := (KA.next hb5).lt
  obtain ⟨ka0, ka1, ka2, ka3⟩ := (KA.next hb5).cells
  clear hb5 B4 T4 KA B5' cA cB
  go_wp2_with fail
  generalize w5.heap.size = gb at *
  generalize w5.alloc (.cells #[.int .i64 0, .bool neg, .string D2, .string E2] 23) = W0 at *
  clear ka0 ka1 ka2 ka3 la d1 d2 d3 d4
  go_loopw [11, 12] (fun dv iv wr => ∃ (j : Nat) (Dd : ByteArray), dv = .string Dd ∧ iv = .string (tx (j : Int)) ∧ j ≤ K ∧ Dd.size ≤ 80 ∧ Hid (Dd = bA (C ++ M.zs j)) ∧ Below W0.heap.size W0 wr) (fun dv _ _ => match dv with | .string t => 100 - t.size | _ => 0)
  case atStart => exact ⟨0, D, rfl, by rw [show tx ((0 : Nat) : Int) = ⟨#[48]⟩ from tx0], Nat.zero_le _, by rw [HDC.out, bA_size]; omega, by rw [Hid, HDC.out]; simp, Below.refl _ _⟩
  case round =>
    obtain ⟨j, Dd, rfl, rfl, hjK, hDd, HD, hbw⟩ := hrel
    have KA := KA5.next hbw
    have KB := KB5.next hbw
    have la := KA.lt
    obtain ⟨ka0, ka1, ka2, ka3⟩ := KA.cells
    have HDs : Hid (Dd.size = C.length + j) := Lib.hid (by rw [HD.out, bA_size]; simp)
    have zj := tx_small (j : Int) (by omega)
    have zK := tx_small (K : Int) (by omega)
    have cC := fun W => rcomp_yes (j : Int) (K : Int) W (by omega) (by omega)
    rw [← HEK.out] at cC
    have aJ := fun W => radd_yes (j : Int) 1 W (by omega) (by omega) (by omega)
    by_cases hjl : j < K
    · have hz0 : (D.toList == [48]) = false := by
        rw [hz]
        cases z0
        · rfl
        · have := hzK rfl; omega
      rw [show M.cmpZ (j : Int) (K : Int) = -1 by unfold M.cmpZ; rw [if_pos (by omega)]] at cC
      rw [show (j : Int) + 1 = ((j + 1 : Nat) : Int) by omega] at aJ
      generalize tx (j : Int) = TJ at *
      obtain ⟨TN, hTN⟩ : ∃ TN, tx ((j + 1 : Nat) : Int) = TN := ⟨_, rfl⟩
      rw [hTN] at aJ
      have HTN := Lib.hid hTN
      clear hTN hz zj zK
      go_wp2_with fail
      refine (cC _).mono ?_
      rintro r w6 ⟨rfl, hb6⟩
      have B6 : Below W0.heap.size W0 w6 := hbw.trans (hb6.mono hbw.size)
      clear hb6 hbw ka0 ka1 ka2 ka3 KA KB cC
      go_wp2_with fail
      refine (aJ _).mono ?_
      rintro r w7 ⟨rfl, hb7⟩
      have B7 : Below W0.heap.size W0 w7 := B6.trans (hb7.mono B6.size)
      clear hb7 B6 aJ
      go_wp2
      go_roundw
      case rel => exact ⟨j + 1, Dd ++ ⟨#[48]⟩, rfl, by rw [HTN.out], by omega, by rw [append_sz, HDs.out]; show C.length + j + 1 ≤ 80; omega, by rw [Hid, HD.out, ← M.zs_snoc, ← List.append_assoc]; exact bA_append _ [48], B7⟩
      case measure => simp only []; rw [append_sz, HDs.out]; show 100 - (C.length + j + 1) < 100 - (C.length + j); omega
    · obtain rfl : j = K := by omega
      have hX : Dd = H s := by rw [HD.out, HEND.out]
      subst hX
      rw [show M.cmpZ (j : Int) (j : Int) = 0 from M.cmpZ_self _] at cC
      generalize tx (j : Int) = TJ at *
      clear zj zK aJ hjl hzK
      have hS2 : ∀ w', Below W0.heap.size W0 w' → (w'.cell? ⟨ga, 0, none⟩ = some (.int .i64 0) ∧ w'.cell? ⟨ga, 1, none⟩ = some (.bool neg) ∧ w'.cell? ⟨ga, 2, none⟩ = some (.string D) ∧ w'.cell? ⟨ga, 3, none⟩ = some (.string E) ∧ w'.cell? ⟨gb, 0, none⟩ = some (.int .i64 0) ∧ w'.cell? ⟨gb, 1, none⟩ = some (.bool neg) ∧ w'.cell? ⟨gb, 2, none⟩ = some (.string D2) ∧ w'.cell? ⟨gb, 3, none⟩ = some (.string E2) ∧ Below W0.heap.size W0 w') := by
        intro w' hb
        obtain ⟨a0, a1, a2, a3⟩ := (KA5.next hb).cells
        obtain ⟨b0, b1, b2, b3⟩ := (KB5.next hb).cells
        exact ⟨a0, a1, a2, a3, b0, b1, b2, b3, hb⟩
      cases z0
      · go_wp2_with fail
        refine (cC _).mono ?_
        rintro r w6 ⟨rfl, hb6⟩
        have B6 : Below W0.heap.size W0 w6 := hbw.trans (hb6.mono hbw.size)
        clear hb6 hbw ka0 ka1 ka2 ka3 KA KB cC la cS cU
        go_wp2_with fail
        go_region_held3 (fun w' => w'.cell? ⟨ga, 0, none⟩ = some (.int .i64 0) ∧ w'.cell? ⟨ga, 1, none⟩ = some (.bool neg) ∧ w'.cell? ⟨ga, 2, none⟩ = some (.string D) ∧ w'.cell? ⟨ga, 3, none⟩ = some (.string E) ∧ w'.cell? ⟨gb, 0, none⟩ = some (.int .i64 0) ∧ w'.cell? ⟨gb, 1, none⟩ = some (.bool neg) ∧ w'.cell? ⟨gb, 2, none⟩ = some (.string D2) ∧ w'.cell? ⟨gb, 3, none⟩ = some (.string E2) ∧ Below W0.heap.size W0 w')
          (first | exact hS | exact hS2 _ B6.drew)
          (first
            | (go_at_call 17; refine (lift_b hS2 (fun _ h => h.2.2.2.2.2.2.2.2) (cG0 _ (by assumption) _) ?_).mono ?_; (exact ‹_ ∧ _ ∧ _ ∧ _ ∧ _ ∧ _ ∧ _ ∧ _ ∧ Below _ _ _›); rintro r w2 ⟨rfl, hS⟩)
            | (go_at_call 20; refine (lift_s hS2 (cN0 _ (by assumption) (by assumption) _) ?_).mono ?_; (exact ‹_ ∧ _ ∧ _ ∧ _ ∧ _ ∧ _ ∧ _ ∧ _ ∧ Below _ _ _›); rintro r w2 ⟨rfl, hS⟩))
        have B7 : Below w.heap.size w w2 := B5.trans (hS.2.2.2.2.2.2.2.2.mono B5.size)
        go_wp2
        go_ret
        exact ⟨rfl, B7⟩
      · clear KA KB cC cS cU
        go_wp2_with fail
        have B6 := hbw
        clear hbw ka0 ka1 ka2 ka3 la
        go_region_held3 (fun w' => w'.cell? ⟨ga, 0, none⟩ = some (.int .i64 0) ∧ w'.cell? ⟨ga, 1, none⟩ = some (.bool neg) ∧ w'.cell? ⟨ga, 2, none⟩ = some (.string D) ∧ w'.cell? ⟨ga, 3, none⟩ = some (.string E) ∧ w'.cell? ⟨gb, 0, none⟩ = some (.int .i64 0) ∧ w'.cell? ⟨gb, 1, none⟩ = some (.bool neg) ∧ w'.cell? ⟨gb, 2, none⟩ = some (.string D2) ∧ w'.cell? ⟨gb, 3, none⟩ = some (.string E2) ∧ Below W0.heap.size W0 w')
          (first | exact hS | exact hS2 _ B6.drew)
          (first
            | (go_at_call 17; refine (lift_b hS2 (fun _ h => h.2.2.2.2.2.2.2.2) (cG0 _ (by assumption) _) ?_).mono ?_; (exact ‹_ ∧ _ ∧ _ ∧ _ ∧ _ ∧ _ ∧ _ ∧ _ ∧ Below _ _ _›); rintro r w2 ⟨rfl, hS⟩)
            | (go_at_call 20; refine (lift_s hS2 (cN0 _ (by assumption) (by assumption) _) ?_).mono ?_; (exact ‹_ ∧ _ ∧ _ ∧ _ ∧ _ ∧ _ ∧ _ ∧ _ ∧ Below _ _ _›); rintro r w2 ⟨rfl, hS⟩))
        have B7 : Below w.heap.size w w2 := B5.trans (hS.2.2.2.2.2.2.2.2.mono B5.size)
        go_wp2
        go_ret
        exact ⟨rfl, B7⟩
end Go.Proofs.YtomgbcgaokebjaaDoor
