/- Walks of the document's find, odd, tail. Walks of the document's sixty at any first digit. Ways of the document's Float11: z1 z2 z3 z4. -/
import Derived.Test.YtipgipgehnhgkaaGreatDoorBh
import Derived.Test.YtipgipgehnhgkaaGreatDoorBe
set_option linter.unusedVariables false
namespace Go.Proofs.YtipgipgehnhgkaaGreatDoor
open Go.RowKit

set_option maxRecDepth 100000 in
theorem rfind46_no (s : ByteArray) (w : World) (hs : s.size ≤ 1000) (h : ∀ c ∈ s.data.toList, c ≠ 46) :
    Calls Tryz.prog 74 #[.string s, .int .u8 46] w fun e w' => e = .returned (.int .i64 (-1)) ∧ w = w' := by
  have H := Lib.hid h
  clear h
  go_enter Tryz.func74, Tryz.ntmps74
  go_wp2
  go_loop [5] (fun i => ∃ k : Nat, i = .int .i64 k ∧ k ≤ s.size) (fun i => s.size - (intOf i).toNat)
  case atStart => exact ⟨0, rfl, Nat.zero_le _⟩
  case round =>
    obtain ⟨k, rfl, hk⟩ := hrel
    by_cases hlt : k < s.size
    · have hltd : decide (k < s.size) = true := by simpa using hlt
      have hne : ((s[k].toNat : Int) == 46) = false := neC (k := 46) (by omega) (H.out _ (List.mem_of_getElem? (get_list s k hlt)))
      go_wp2
      go_round
      case rel => exact ⟨k + 1, by go_num, by omega⟩
      case measure => simp [intOf]; omega
    · obtain rfl : k = s.size := by omega
      have hltd : decide (s.size < s.size) = false := by simp
      go_wp2
      go_ret
      exact ⟨rfl, rfl⟩
set_option maxRecDepth 100000 in
theorem rfind46_yes (s : ByteArray) (D r : List UInt8) (w : World) (hs : s.size ≤ 1000) (he : s.data.toList = D ++ 46 :: r) (h : ∀ c ∈ D, c ≠ 46) :
    Calls Tryz.prog 74 #[.string s, .int .u8 46] w fun e w' => e = .returned (.int .i64 (D.length : Nat)) ∧ w = w' := by
  have hsz : D.length < s.size := by rw [sz_list, he]; simp
  have hat : s[D.length] = 46 := by
    have := get_list s D.length hsz
    rw [he] at this
    simpa using this.symm
  have hlow : ∀ k, k < D.length → (hk' : k < s.size) → s[k] ≠ 46 := by
    intro k hk hk'
    have := get_list s k hk'
    rw [he, List.getElem?_append_left hk] at this
    exact h _ (List.mem_of_getElem? this)
  have HL := Lib.hid hlow
  have hat2 : s[D.length].toNat = 46 := by rw [hat]; rfl
  clear h he hlow hat
  generalize D.length = n at *
  go_enter Tryz.func74, Tryz.ntmps74
  go_wp2
  go_loop [5] (fun i => ∃ k : Nat, i = .int .i64 k ∧ k ≤ n) (fun i => s.size - (intOf i).toNat)
  case atStart => exact ⟨0, rfl, Nat.zero_le _⟩
  case round =>
    obtain ⟨k, rfl, hk⟩ := hrel
    have hltd : decide (k < s.size) = true := by simp; omega
    by_cases hlt : k < n
    · have hks : k < s.size := by omega
      have hne : ((s[k].toNat : Int) == 46) = false := neC (k := 46) (by omega) (HL.out k hlt hks)
      clear hat2
      go_wp2
      go_round
      case rel => exact ⟨k + 1, by go_num, by omega⟩
      case measure => simp [intOf]; omega
    · obtain rfl : k = n := by omega
      go_wp2
      go_ret
      exact ⟨rfl, rfl⟩
set_option maxRecDepth 100000 in
theorem rodd_inf0 (n g : Bool) (w : World) : Calls Tryz.prog 69 #[.string ⟨#[46, 105, 110, 102]⟩, .bool n, .bool g] w fun e w' => e = .returned (.tuple #[dV 1 n ⟨#[]⟩ ⟨#[]⟩, .bool true]) ∧ Below w.heap.size w w' := by
  go_enter Tryz.func69, Tryz.ntmps69
  go_wp2
  exact bodyPost_ret (ret_dec Tryz.results69 _ rfl rfl (Blk.made w 1 n ⟨#[]⟩ ⟨#[]⟩)) rfl ⟨rfl, (Below.refl _ _).alloc (Nat.le_refl _) _⟩
set_option maxRecDepth 100000 in
theorem rodd_inf1 (n g : Bool) (w : World) : Calls Tryz.prog 69 #[.string ⟨#[46, 73, 110, 102]⟩, .bool n, .bool g] w fun e w' => e = .returned (.tuple #[dV 1 n ⟨#[]⟩ ⟨#[]⟩, .bool true]) ∧ Below w.heap.size w w' := by
  go_enter Tryz.func69, Tryz.ntmps69
  go_wp2
  exact bodyPost_ret (ret_dec Tryz.results69 _ rfl rfl (Blk.made w 1 n ⟨#[]⟩ ⟨#[]⟩)) rfl ⟨rfl, (Below.refl _ _).alloc (Nat.le_refl _) _⟩
set_option maxRecDepth 100000 in
theorem rodd_inf2 (n g : Bool) (w : World) : Calls Tryz.prog 69 #[.string ⟨#[46, 73, 78, 70]⟩, .bool n, .bool g] w fun e w' => e = .returned (.tuple #[dV 1 n ⟨#[]⟩ ⟨#[]⟩, .bool true]) ∧ Below w.heap.size w w' := by
  go_enter Tryz.func69, Tryz.ntmps69
  go_wp2
  exact bodyPost_ret (ret_dec Tryz.results69 _ rfl rfl (Blk.made w 1 n ⟨#[]⟩ ⟨#[]⟩)) rfl ⟨rfl, (Below.refl _ _).alloc (Nat.le_refl _) _⟩
set_option maxRecDepth 100000 in
theorem rodd_nan0 (n : Bool) (w : World) : Calls Tryz.prog 69 #[.string ⟨#[46, 110, 97, 110]⟩, .bool n, .bool false] w fun e w' => e = .returned (.tuple #[dV 2 false ⟨#[]⟩ ⟨#[]⟩, .bool true]) ∧ Below w.heap.size w w' := by
  go_enter Tryz.func69, Tryz.ntmps69
  go_wp2
  exact bodyPost_ret (ret_dec Tryz.results69 _ rfl rfl (Blk.made w 2 false ⟨#[]⟩ ⟨#[]⟩)) rfl ⟨rfl, (Below.refl _ _).alloc (Nat.le_refl _) _⟩
set_option maxRecDepth 100000 in
theorem rodd_snan0 (n : Bool) (w : World) : Calls Tryz.prog 69 #[.string ⟨#[46, 110, 97, 110]⟩, .bool n, .bool true] w fun e w' => e = .returned (.tuple #[dZ, .bool false]) ∧ Below w.heap.size w w' := by
  go_enter Tryz.func69, Tryz.ntmps69
  go_wp2
  exact bodyPost_ret (ret_dec Tryz.results69 _ rfl rfl (Blk.made w 0 false ⟨#[]⟩ ⟨#[]⟩)) rfl ⟨rfl, (Below.refl _ _).alloc (Nat.le_refl _) _⟩
set_option maxRecDepth 100000 in
theorem rodd_nan1 (n : Bool) (w : World) : Calls Tryz.prog 69 #[.string ⟨#[46, 78, 97, 78]⟩, .bool n, .bool false] w fun e w' => e = .returned (.tuple #[dV 2 false ⟨#[]⟩ ⟨#[]⟩, .bool true]) ∧ Below w.heap.size w w' := by
  go_enter Tryz.func69, Tryz.ntmps69
  go_wp2
  exact bodyPost_ret (ret_dec Tryz.results69 _ rfl rfl (Blk.made w 2 false ⟨#[]⟩ ⟨#[]⟩)) rfl ⟨rfl, (Below.refl _ _).alloc (Nat.le_refl _) _⟩
set_option maxRecDepth 100000 in
theorem rodd_snan1 (n : Bool) (w : World) : Calls Tryz.prog 69 #[.string ⟨#[46, 78, 97, 78]⟩, .bool n, .bool true] w fun e w' => e = .returned (.tuple #[dZ, .bool false]) ∧ Below w.heap.size w w' := by
  go_enter Tryz.func69, Tryz.ntmps69
  go_wp2
  exact bodyPost_ret (ret_dec Tryz.results69 _ rfl rfl (Blk.made w 0 false ⟨#[]⟩ ⟨#[]⟩)) rfl ⟨rfl, (Below.refl _ _).alloc (Nat.le_refl _) _⟩
set_option maxRecDepth 100000 in
theorem rodd_nan2 (n : Bool) (w : World) : Calls Tryz.prog 69 #[.string ⟨#[46, 78, 65, 78]⟩, .bool n, .bool false] w fun e w' => e = .returned (.tuple #[dV 2 false ⟨#[]⟩ ⟨#[]⟩, .bool true]) ∧ Below w.heap.size w w' := by
  go_enter Tryz.func69, Tryz.ntmps69
  go_wp2
  exact bodyPost_ret (ret_dec Tryz.results69 _ rfl rfl (Blk.made w 2 false ⟨#[]⟩ ⟨#[]⟩)) rfl ⟨rfl, (Below.refl _ _).alloc (Nat.le_refl _) _⟩
set_option maxRecDepth 100000 in
theorem rodd_snan2 (n : Bool) (w : World) : Calls Tryz.prog 69 #[.string ⟨#[46, 78, 65, 78]⟩, .bool n, .bool true] w fun e w' => e = .returned (.tuple #[dZ, .bool false]) ∧ Below w.heap.size w w' := by
  go_enter Tryz.func69, Tryz.ntmps69
  go_wp2
  exact bodyPost_ret (ret_dec Tryz.results69 _ rfl rfl (Blk.made w 0 false ⟨#[]⟩ ⟨#[]⟩)) rfl ⟨rfl, (Below.refl _ _).alloc (Nat.le_refl _) _⟩
set_option maxRecDepth 100000 in
theorem rodd_no (U : ByteArray) (n g : Bool) (w : World) (h : U.data.toList ∉ M.infs) (h' : U.data.toList ∉ M.nans) : Calls Tryz.prog 69 #[.string U, .bool n, .bool g] w fun e w' => e = .returned (.tuple #[dZ, .bool false]) ∧ Below w.heap.size w w' := by
  simp only [M.nans, List.mem_cons, List.not_mem_nil, or_false, not_or] at h'
  simp only [M.infs, List.mem_cons, List.not_mem_nil, or_false, not_or] at h
  have e1 := beq_list h.1
  have e2 := beq_list h.2.1
  have e3 := beq_list h.2.2
  have g1 := beq_list h'.1
  have g2 := beq_list h'.2.1
  have g3 := beq_list h'.2.2
  clear h h'
  go_enter Tryz.func69, Tryz.ntmps69
  go_wp2
  exact bodyPost_ret (ret_dec Tryz.results69 _ rfl rfl (Blk.made w 0 false ⟨#[]⟩ ⟨#[]⟩)) rfl ⟨rfl, (Below.refl _ _).alloc (Nat.le_refl _) _⟩
theorem rodd_infs (U : ByteArray) (n g : Bool) (w : World) (h : U.data.toList ∈ M.infs) : Calls Tryz.prog 69 #[.string U, .bool n, .bool g] w fun e w' => e = .returned (.tuple #[dV 1 n ⟨#[]⟩ ⟨#[]⟩, .bool true]) ∧ Below w.heap.size w w' := by
  simp only [M.infs, List.mem_cons, List.not_mem_nil, or_false] at h
  rcases h with h | h | h
  · rw [ba_of h]; exact rodd_inf0 n g w
  · rw [ba_of h]; exact rodd_inf1 n g w
  · rw [ba_of h]; exact rodd_inf2 n g w
theorem rodd_nans (U : ByteArray) (n g : Bool) (w : World) (h : U.data.toList ∈ M.nans) : Calls Tryz.prog 69 #[.string U, .bool n, .bool g] w fun e w' => e = .returned (.tuple #[if g = true then dZ else dV 2 false ⟨#[]⟩ ⟨#[]⟩, .bool (!g)]) ∧ Below w.heap.size w w' := by
  simp only [M.nans, List.mem_cons, List.not_mem_nil, or_false] at h
  cases g
  · rcases h with h | h | h
    · rw [ba_of h]; exact rodd_nan0 n w
    · rw [ba_of h]; exact rodd_nan1 n w
    · rw [ba_of h]; exact rodd_nan2 n w
  · rcases h with h | h | h
    · rw [ba_of h]; exact rodd_snan0 n w
    · rw [ba_of h]; exact rodd_snan1 n w
    · rw [ba_of h]; exact rodd_snan2 n w
/-- What the document's tail answers. -/
def tailV : Option Int → Value
  | some z => .tuple #[.string (tx z), .bool true]
  | none => .tuple #[.string ⟨#[]⟩, .bool false]
set_option maxRecDepth 100000 in
set_option maxHeartbeats 1000000 in
theorem rtail_any (X : List UInt8) (w : World) (hl : X.length ≤ 990) :
    Calls Tryz.prog 71 #[.string (bA X), .bool false] w fun e w' => e = .returned (tailV (M.tl X)) ∧ Below w.heap.size w w' := by
  cases X with
  | nil =>
    rw [M.tl, tailV, tx0]
    rw [show bA [] = ⟨#[]⟩ from rfl]
    go_enter Tryz.func71, Tryz.ntmps71
    go_wp2
    go_ret2
    exact ⟨rfl, Below.refl _ _⟩
  | cons e r =>
    have h0 : 0 < (bA (e :: r)).size := by rw [bA_size]; simp
    have hat : (bA (e :: r))[0] = e := by
      have := get_list (bA (e :: r)) 0 h0
      rw [bA_toList] at this; simpa using this.symm
    have hem : ((bA (e :: r)).toList == []) = false := by rw [ByteArray.toList_eq, bA_toList]; rfl
    have hem2 : (bA (e :: r)).toList.isEmpty = false := by rw [ByteArray.toList_eq, bA_toList]; rfl
    have hsz : (bA (e :: r)).size = r.length + 1 := by rw [bA_size]; simp
    have hx : (bA (e :: r)).extract 1 (r.length + 1) = bA r := by
      rw [← hsz]; apply eq_bA; rw [Lib.extract_to_end, bA_toList]; rfl
    have c1 := fun W => rsign_any (bA r) W (by rw [bA_size]; simp at hl; omega)
    rw [bA_toList] at c1
    have c2 := fun W => rdigits_any (bA (M.body r)) W (by rw [bA_size]; have := M.body_len r; simp at hl; omega)
    rw [bA_toList] at c2
    have h256 := e.toNat_lt
    have hbz : (bA (M.body r)).size = (M.body r).length := bA_size _
    have hbl := M.body_len r
    have hrl : r.length ≤ 1000 := by simp at hl; omega
    by_cases he : e = 101 ∨ e = 69
    · have key : (∃ g ds, r = g :: ds ∧ (g = 43 ∨ g = 45)) ∨ M.body r = r := by
        cases r with
        | nil => exact Or.inr rfl
        | cons g ds =>
          by_cases h1 : g = 43
          · exact Or.inl ⟨g, ds, rfl, Or.inl h1⟩
          · by_cases h2 : g = 45
            · exact Or.inl ⟨g, ds, rfl, Or.inr h2⟩
            · exact Or.inr (head_else h1 h2).2
      rcases key with ⟨g, ds, rfl, hg⟩ | hb
      · have hsp : M.isNeg (g :: ds) = decide (g = 45) ∧ M.body (g :: ds) = ds := by
          rcases hg with rfl | rfl
          · exact head_43 rfl
          · exact head_45 rfl
        rw [hsp.2] at c1 c2 hbz
        rw [hsp.1] at c1
        rw [M.tl, if_pos he, M.tlE]
        have hne : decide ((ds.length : Int) = (ds.length : Int) + 1) = false := by simp; omega
        have hne2 : (((ds.length : Nat) : Int) == ((ds.length + 1 : Nat) : Int)) = false := beq_eq_false_iff_ne.2 (by omega)
        rw [List.length_cons] at hsz hx
        by_cases ho : M.okD 10 ds = true
        · rw [if_pos ⟨hg, ho⟩, tailV]
          have c3 := fun W => rnorm_list (decide (g = 45)) ds W ho (by simp at hl; omega)
          rw [ho] at c2
          generalize hB : bA (e :: g :: ds) = B at *
          generalize tx (M.sgn (decide (g = 45)) (M.val 10 ds)) = Z at *
          generalize decide (g = 45) = N at *
          generalize bA (g :: ds) = B1 at *
          generalize bA ds = B2 at *
          have hdl : ds.length ≤ 1000 := by simp at hl; omega
          generalize ds.length = d at *
          clear hsp hbl hrl hB ho hl hg
          rcases he with rfl | rfl
          all_goals
            go_enter Tryz.func71, Tryz.ntmps71
            go_wp2_with fail
            refine (c1 _).mono ?_
            rintro r w1 ⟨rfl, hb1⟩
            go_wp2_with fail
            refine (c2 _).mono ?_
            rintro r w' ⟨rfl, rfl⟩
            go_wp2_with fail
            refine (c3 _).mono ?_
            rintro r w' ⟨rfl, rfl⟩
            go_wp2
            go_ret2
            exact ⟨rfl, hb1⟩
        · rw [if_neg (fun k => ho k.2), tailV]
          rw [show M.okD 10 ds = false by simpa using ho] at c2
          generalize hB : bA (e :: g :: ds) = B at *
          generalize decide (g = 45) = N at *
          generalize bA (g :: ds) = B1 at *
          generalize bA ds = B2 at *
          have hdl : ds.length ≤ 1000 := by simp at hl; omega
          generalize ds.length = d at *
          clear hsp hbl hrl hB ho hl hg
          rcases he with rfl | rfl
          all_goals
            go_enter Tryz.func71, Tryz.ntmps71
            go_wp2_with fail
            refine (c1 _).mono ?_
            rintro r w1 ⟨rfl, hb1⟩
            go_wp2_with fail
            refine (c2 _).mono ?_
            rintro r w' ⟨rfl, rfl⟩
            go_wp2
            go_ret2
            exact ⟨rfl, hb1⟩
      · have ht : M.tl (e :: r) = none := by
          rw [M.tl, if_pos he]
          cases r with
          | nil => rfl
          | cons g ds =>
            rw [M.tlE, if_neg]
            rintro ⟨hg | hg, _⟩
            · rw [(head_43 hg).2] at hb; simpa using congrArg List.length hb
            · rw [(head_45 hg).2] at hb; simpa using congrArg List.length hb
        rw [ht, tailV]
        rw [hb] at c1 hbz
        generalize hB : bA (e :: r) = B at *
        generalize bA r = B1 at *
        generalize M.isNeg r = N at *
        generalize r.length = d at *
        clear hb ht c2 hbl hB hl
        rcases he with rfl | rfl
        all_goals
          go_enter Tryz.func71, Tryz.ntmps71
          go_wp2_with fail
          refine (c1 _).mono ?_
          rintro r w1 ⟨rfl, hb1⟩
          go_wp2
          go_ret2
          exact ⟨rfl, hb1⟩
    · rw [M.tl_cons e r he, tailV]
      have g1 : ((e.toNat : Int) != 101) = true := by rw [bne, show ((e.toNat : Int) == 101) = false from neC (k := 101) (by omega) (fun k => he (Or.inl k))]; rfl
      have g2 : ((e.toNat : Int) != 69) = true := by rw [bne, show ((e.toNat : Int) == 69) = false from neC (k := 69) (by omega) (fun k => he (Or.inr k))]; rfl
      have hat2 : (bA (e :: r))[0].toNat = e.toNat := by rw [hat]
      generalize e.toNat = n at *
      generalize hB : bA (e :: r) = B at *
      clear c1 c2 he hl hB hat
      go_enter Tryz.func71, Tryz.ntmps71
      go_wp2
      go_ret2
      exact ⟨rfl, Below.refl _ _⟩
end Go.Proofs.YtipgipgehnhgkaaGreatDoor

namespace Go.Proofs.YtipgipgehnhgkaaGreatDoor
open Go.RowKit

theorem head_cons (c : UInt8) (r : List UInt8) : ∃ h : 0 < (bA (c :: r)).size, (bA (c :: r))[0] = c := by
  have h0 : 0 < (bA (c :: r)).size := by rw [bA_size]; simp
  refine ⟨h0, ?_⟩
  have := get_list (bA (c :: r)) 0 h0
  rw [bA_toList] at this; simpa using this.symm
theorem rsix_yes (c : UInt8) (D R : List UInt8) (w : World) (hl : (c :: (D ++ 58 :: R)).length ≤ 1000) (hc : M.dv c < 10) (hD : ∀ x ∈ D, x ≠ 58) (ha : M.allD 10 (M.gone D) = true) (hR : M.fS 1 R = 6) :
    Calls Tryz.prog 68 #[.string (bA (c :: (D ++ 58 :: R)))] w fun e w' => e = .returned (ansV (some (M.sx (M.val 10 (c :: M.gone D)) 0 R))) ∧ Below w.heap.size w w' := by
  obtain ⟨h0, hh⟩ := head_cons c (D ++ 58 :: R)
  have h95 : c ≠ 95 := M.ne95 hc (by omega)
  have h58 : c ≠ 58 := M.ne58 hc (by omega)
  have hD' : ∀ x ∈ c :: D, x ≠ 58 := by
    intro x hx
    rcases List.mem_cons.1 hx with rfl | hx
    · exact h58
    · exact hD x hx
  have := rsixty_loop (bA (c :: (D ++ 58 :: R))) (c :: D) R w (by rw [bA_size]; exact hl) h0 (by rw [bA_toList]; rfl) hD' (by simp) (by rw [hh]; exact hc) (by rw [M.gone_ne _ h95, M.allD_cons, decide_eq_true hc, ha]; rfl) (by rw [M.gone_ne _ h95]; simp)
  rw [show G (M.val 10 (M.gone (c :: D))) (58 :: R) = (if M.fS 1 R = 6 then some (M.sx (M.val 10 (M.gone (c :: D))) 0 R) else none) from rfl, if_pos hR, M.gone_ne _ h95] at this
  exact this
theorem rsix_no (c : UInt8) (P : List UInt8) (w : World) (hl : (c :: P).length ≤ 1000) (hc : M.dv c < 10) (h0' : M.fA P = 0) :
    Calls Tryz.prog 68 #[.string (bA (c :: P))] w fun e w' => e = .returned (ansV none) ∧ Below w.heap.size w w' := by
  obtain ⟨h0, hh⟩ := head_cons c P
  have h95 : c ≠ 95 := M.ne95 hc (by omega)
  have h58 : c ≠ 58 := M.ne58 hc (by omega)
  have hsz : (bA (c :: P)).size ≤ 1000 := by rw [bA_size]; exact hl
  rcases M.split_at 58 P with hn | ⟨D, R, rfl, hD⟩
  · refine (rsixty_no _ w hsz ?_).mono (fun e w' h => ⟨h.1, h.2 ▸ Below.refl _ _⟩)
    rw [bA_toList]
    intro x hx
    rcases List.mem_cons.1 hx with rfl | hx
    · exact h58
    · exact hn x hx
  · have hD' : ∀ x ∈ c :: D, x ≠ 58 := by
      intro x hx
      rcases List.mem_cons.1 hx with rfl | hx
      · exact h58
      · exact hD x hx
    rw [M.fA_yes D R hD] at h0'
    have hall : M.allD 10 (M.gone (c :: D)) = M.allD 10 (M.gone D) := by
      rw [M.gone_ne _ h95, M.allD_cons, decide_eq_true hc, Bool.true_and]
    by_cases ha : M.allD 10 (M.gone D) = true
    · rw [if_pos ha] at h0'
      have := rsixty_loop (bA (c :: (D ++ 58 :: R))) (c :: D) R w hsz h0 (by rw [bA_toList]; rfl) hD' (by simp) (by rw [hh]; exact hc) (by rw [hall]; exact ha) (by rw [M.gone_ne _ h95]; simp)
      rw [show G (M.val 10 (M.gone (c :: D))) (58 :: R) = (if M.fS 1 R = 6 then some (M.sx (M.val 10 (M.gone (c :: D))) 0 R) else none) from rfl, if_neg (by omega)] at this
      exact this
    · exact rsixty_bad _ (c :: D) R w hsz h0 (by rw [bA_toList]; rfl) hD' (by simp) (by rw [hh]; exact hc) (by rw [hall]; simpa using ha)
theorem ret_decI {fn : Func} {p u : Tmp} {g : Nat} {k i : Int} {n : Bool} {D E : ByteArray} {w : World} (h : fn.results = #[.cell p 46, .tmp u]) (tmps : Array Value) (hp : tmps.getD p undef = .pointer (some ⟨g, 0, none⟩)) (hu : tmps.getD u undef = .int .i64 i)
    (hB : Blk w g k n D E) : (results fn tmps).run Tryz.prog w = .ok (.tuple #[dV k n D E, .int .i64 i]) w := by
  rw [results_cell_tmp h, hp, hu]
  have := load_blk hB
  simp [asAddr, Result.andThen, this]
theorem Blk.alloc' {w : World} {g : Nat} {k : Int} {n : Bool} {D E : ByteArray} (h : Blk w g k n D E) (o : Obj) : Blk (w.alloc o) g k n D E := h.next ((Below.refl _ _).alloc (Nat.le_refl _) o)
theorem Blk.over {w w1 : World} {o : Obj} {g : Nat} {k : Int} {n : Bool} {D E : ByteArray} (h : Blk w g k n D E) (hb : Below (w.alloc o).heap.size (w.alloc o) w1) : Blk w1 g k n D E := (h.alloc' o).next hb
theorem below_over {a w w1 : World} {o : Obj} (h : Below a.heap.size a w) (hb : Below (w.alloc o).heap.size (w.alloc o) w1) : Below a.heap.size a w1 := h.trans ((below_new hb).mono h.size)
theorem below_on {a w w1 : World} (h : Below a.heap.size a w) (hb : Below w.heap.size w w1) : Below a.heap.size a w1 := h.trans (hb.mono h.size)
end Go.Proofs.YtipgipgehnhgkaaGreatDoor

namespace Go.Proofs.YtipgipgehnhgkaaGreatDoor
open Go.RowKit

namespace M
theorem bk_head (l : List UInt8) : ∀ x r, bk l = x :: r → ¬ (x = 95 ∨ dv x < 10) := by
  induction l with
  | nil => intro x r h; cases h
  | cons b l ih =>
    intro x r h
    by_cases hb : du b = true
    · rw [(fr_yes hb).2] at h; exact ih x r h
    · rw [(fr_no (by simpa using hb)).2] at h
      obtain rfl := (List.cons.inj h).1
      rw [← du_iff]; exact hb
end M
set_option maxRecDepth 100000 in
set_option maxHeartbeats 4000000 in
theorem rf_z1 (s : ByteArray) (w : World)  (hs : s.size ≤ 900) (hi : M.body s.data.toList ∉ M.infs) (hn : M.body s.data.toList ∉ M.nans) (h46 : ∀ c ∈ M.body s.data.toList, c ≠ 46) :
    Calls Tryz.prog 35 #[.string s] w fun e w' => e = .returned (.tuple #[dZ, .int .i64 0]) ∧ Below w.heap.size w w' := by
  have hbl := M.body_len s.data.toList
  rw [← sz_list] at hbl
  have c1 := fun W => rsign_any s W (by omega)
  have c2 := fun g W => rodd_no (bA (M.body s.data.toList)) (M.isNeg s.data.toList) g W (by rw [bA_toList]; exact hi) (by rw [bA_toList]; exact hn)
  have c3 := fun W => rfind46_no (bA (M.body s.data.toList)) W (by rw [bA_size]; omega) (by rw [bA_toList]; exact h46)
  have hU : (bA (M.body s.data.toList)).size ≤ 900 := by rw [bA_size]; omega
  clear h46 hi hn hbl
  generalize bA (M.body s.data.toList) = U at *
  generalize M.isNeg s.data.toList = N at *
  go_enter Tryz.func35, Tryz.ntmps35
  go_wp2_with fail
  refine (c1 _).mono ?_
  rintro r w1 ⟨rfl, hw1⟩
  have K1 := (Blk.made w 0 false ⟨#[]⟩ ⟨#[]⟩).next hw1
  have B1 : Below w.heap.size w w1 := below_new hw1
  clear hw1 c1
  go_wp2_with fail
  refine (c2 _ _).mono ?_
  rintro r w2 ⟨rfl, hw2⟩
  have K2 := K1.next hw2
  have B2 : Below w.heap.size w w2 := below_on B1 hw2
  clear hw2 c2 K1 B1
  go_wp2_with fail
  refine (c3 _).mono ?_
  rintro r w' ⟨rfl, rfl⟩
  clear c3
  have KZ := K2.alloc' (Obj.cells #[.int .i64 0, .bool false, .string ⟨#[]⟩, .string ⟨#[]⟩] 46)
  have BZ : Below w.heap.size w _ := B2.alloc B2.size (Obj.cells #[.int .i64 0, .bool false, .string ⟨#[]⟩, .string ⟨#[]⟩] 46)
  obtain ⟨g, hg⟩ : ∃ g, w.heap.size = g := ⟨_, rfl⟩
  rw [hg] at KZ ⊢
  obtain ⟨k0, k1, k2, k3⟩ := KZ.cells
  obtain ⟨f0, f1, f2, f3⟩ := KZ.fro
  go_wp2
  exact bodyPost_ret (ret_decI Tryz.results35 _ rfl rfl (KZ.set 0 false _ _)) rfl ⟨rfl, below_set4 BZ (by omega) _ _ _ _⟩
set_option maxRecDepth 100000 in
set_option maxHeartbeats 4000000 in
theorem rf_z2 (s : ByteArray) (w : World) (P l : List UInt8) (hs : s.size ≤ 900) (hi : M.body s.data.toList ∉ M.infs) (hn : M.body s.data.toList ∉ M.nans) (hL : M.body s.data.toList = P ++ 46 :: l) (hP : ∀ x ∈ P, x ≠ 46) (ht : M.tl (M.bk l) = none) :
    Calls Tryz.prog 35 #[.string s] w fun e w' => e = .returned (.tuple #[dZ, .int .i64 0]) ∧ Below w.heap.size w w' := by
  have hbl := M.body_len s.data.toList
  rw [← sz_list] at hbl
  have c1 := fun W => rsign_any s W (by omega)
  have c2 := fun g W => rodd_no (bA (M.body s.data.toList)) (M.isNeg s.data.toList) g W (by rw [bA_toList]; exact hi) (by rw [bA_toList]; exact hn)
  have c3 := fun W => rfind46_yes (bA (M.body s.data.toList)) P l W (by rw [bA_size]; omega) (by rw [bA_toList]; exact hL) hP
  have hUs : (bA (M.body s.data.toList)).size = P.length + 1 + l.length := by rw [bA_size, hL]; simp; omega
  have hlen : P.length + 1 + l.length ≤ 900 := by rw [← hUs, bA_size]; omega
  have hx1 : (bA (M.body s.data.toList)).extract (P.length + 1) (bA (M.body s.data.toList)).size = bA l := by
    apply eq_bA; rw [Lib.extract_to_end, bA_toList, hL, show P ++ 46 :: l = (P ++ [46]) ++ l by simp]; exact List.drop_left' (by simp)
  have hsp := M.fr_bk l
  have hRl : (bA l).data.toList = l := bA_toList l
  have hRs : (bA l).size = l.length := bA_size l
  obtain ⟨a, hae⟩ : ∃ a, (M.fr l).length = a := ⟨_, rfl⟩
  have hal : a + (M.bk l).length = l.length := by rw [← hae, ← List.length_append, hsp]
  have hx2 : (bA l).extract 0 a = bA (M.fr l) := by
    apply eq_bA
    rw [extract_take, hRl]
    have := List.take_left' (l₁ := M.fr l) (l₂ := M.bk l) hae
    rwa [hsp] at this
  have hx3 : (bA l).extract a (bA l).size = bA (M.bk l) := by
    apply eq_bA
    rw [Lib.extract_to_end, hRl]
    have := List.drop_left' (l₁ := M.fr l) (l₂ := M.bk l) hae
    rwa [hsp] at this
  have HD : Hid (∀ j (h : j < (bA l).size), j < a → M.dv (bA l)[j] < 10 ∨ (bA l)[j] = 95) := Lib.hid (by
    intro j h hj
    have g := get_list (bA l) j h
    rw [hRl, show l[j]? = (M.fr l ++ M.bk l)[j]? by rw [hsp], List.getElem?_append_left (by omega)] at g
    exact ((M.du_iff _).1 (M.fr_du l _ (List.mem_of_getElem? g))).symm)
  have HE : Hid (∀ (h : a < (bA l).size), ¬ M.dv (bA l)[a] < 10 ∧ (bA l)[a] ≠ 95) := Lib.hid (by
    intro h
    have g := get_list (bA l) a h
    rw [hRl, show l[a]? = (M.fr l ++ M.bk l)[a]? by rw [hsp], List.getElem?_append_right (by omega), hae, Nat.sub_self] at g
    have hnd := M.bk_head l
    cases hb : M.bk l with
    | nil => rw [hb] at g; cases g
    | cons x r =>
      rw [hb] at g hnd
      have hx : x = (bA l)[a] := by simpa using g
      have := hnd x r rfl
      rw [← hx]
      exact ⟨fun k => this (Or.inr k), fun k => this (Or.inl k)⟩)
  have c5 := fun W => rbare_any (bA (M.fr l)) 10 W (by rw [bA_size]; omega) (by omega)
  rw [bA_toList] at c5
  unfold bareV at c5
  rw [if_pos (M.gone_du (M.fr_du l))] at c5
  have c6 := fun W => rtail_any (M.bk l) W (by omega)
  rw [ht] at c6
  simp only [tailV] at c6
  have haR : a ≤ (bA l).size := by omega
  have hlt : a < (bA l).size := by
    have : M.bk l ≠ [] := by intro e; rw [e] at ht; cases ht
    have := List.length_pos_iff.2 this; omega
  have hR9 : (bA l).size ≤ 900 := by omega
  generalize (!(M.gone (M.fr l)).isEmpty) = SM at c5
  clear hbl hi hn hP ht hsp hRl hal hae hRs hL
  generalize hBU : bA (M.body s.data.toList) = U at *
  clear hBU
  generalize M.isNeg s.data.toList = N at *
  generalize bA (M.gone (M.fr l)) = FG at *
  generalize bA (M.fr l) = FB at *
  generalize bA (M.bk l) = BB at *
  generalize hpl : P.length = p at *
  generalize hRS : bA l = RS at *
  generalize hll : l.length = ll at *
  clear hRS hll hpl
  rw [hUs] at hx1
  go_enter Tryz.func35, Tryz.ntmps35
  go_wp2_with fail
  refine (c1 _).mono ?_
  rintro r w1 ⟨rfl, hw1⟩
  have K1 := (Blk.made w 0 false ⟨#[]⟩ ⟨#[]⟩).next hw1
  have B1 : Below w.heap.size w w1 := below_new hw1
  clear hw1 c1
  go_wp2_with fail
  refine (c2 _ _).mono ?_
  rintro r w2 ⟨rfl, hw2⟩
  have K2 := K1.next hw2
  have B2 : Below w.heap.size w w2 := below_on B1 hw2
  clear hw2 c2 K1 B1
  go_wp2_with fail
  refine (c3 _).mono ?_
  rintro r w' ⟨rfl, rfl⟩
  clear c3
  obtain ⟨W, hW⟩ : ∃ W, w2.alloc (Obj.cells #[.int .i64 0, .bool false, .string ⟨#[]⟩, .string ⟨#[]⟩] 46) = W := ⟨_, rfl⟩
  have K3 : Blk W w.heap.size 0 false ⟨#[]⟩ ⟨#[]⟩ := hW ▸ K2.alloc' _
  have B3 : Below w.heap.size w W := hW ▸ B2.alloc B2.size _
  rw [hW]
  clear K2 B2 hW
  go_wp2_with fail
  go_loop [10] (fun ev => ∃ j : Nat, ev = .int .i64 j ∧ j ≤ a) (fun ev => a - (intOf ev).toNat)
  case atStart => exact ⟨0, rfl, Nat.zero_le _⟩
  case round =>
    obtain ⟨j, rfl, hj⟩ := hrel
    by_cases hja : j < a
    · have hjs : j < RS.size := by omega
      have hltd : decide (j < RS.size) = true := by simpa using hjs
      have hjz : (j : Int) < (RS.size : Int) := by omega
      have hor := HD.out j hjs hja
      have cd := fun W => isDigit_any RS[j] W
      have h256 := RS[j].toNat_lt
      by_cases hdv : M.dv RS[j] < 10
      · rw [decide_eq_true hdv] at cd
        clear hor hdv
        go_wp2_with fail
        refine (cd _).mono ?_
        rintro r w' ⟨rfl, rfl⟩
        go_wp2
        go_round
        case rel => exact ⟨j + 1, by go_num, by omega⟩
        case measure => simp [intOf]; omega
      · have h95 : RS[j].toNat = 95 := by rw [hor.resolve_left hdv]; rfl
        rw [decide_eq_false hdv, h95] at cd
        clear hor hdv
        go_wp2_with fail
        refine (cd _).mono ?_
        rintro r w' ⟨rfl, rfl⟩
        go_wp2
        go_round
        case rel => exact ⟨j + 1, by go_num, by omega⟩
        case measure => simp [intOf]; omega
    · obtain rfl : j = a := by omega
      have ha1 : (j : Int) ≤ (RS.size : Int) := by omega
      have hltd : decide (j < RS.size) = true := by simpa using hlt
      obtain ⟨hnd, hn95⟩ := HE.out hlt
      have cd := fun W => isDigit_any RS[j] W
      rw [decide_eq_false hnd] at cd
      have h256 := RS[j].toNat_lt
      have hx95 : ((RS[j].toNat : Int) == 95) = false := neC (k := 95) (by omega) hn95
      clear hnd hn95 HD
      go_wp2_with fail
      refine (cd _).mono ?_
      rintro r w' ⟨rfl, rfl⟩
      clear HE
      go_wp2_with fail
      refine (c5 _).mono ?_
      rintro r w4 ⟨rfl, hw4⟩
      have K4 := K3.next hw4
      have B4 := below_on B3 hw4
      clear hw4 K3 B3 c5
      go_wp2_with fail
      refine (c6 _).mono ?_
      rintro r w5 ⟨rfl, hw5⟩
      have K5 := K4.next hw5
      have B5 := below_on B4 hw5
      clear hw5 K4 B4 c6
      have KZ := K5
      have BZ : Below w.heap.size w _ := B5
      obtain ⟨g, hg⟩ : ∃ g, w.heap.size = g := ⟨_, rfl⟩
      rw [hg] at KZ ⊢
      obtain ⟨k0, k1, k2, k3⟩ := KZ.cells
      obtain ⟨f0, f1, f2, f3⟩ := KZ.fro
      go_wp2
      exact bodyPost_ret (ret_decI Tryz.results35 _ rfl rfl (KZ.set 0 false _ _)) rfl ⟨rfl, below_set4 BZ (by omega) _ _ _ _⟩
set_option maxRecDepth 100000 in
set_option maxHeartbeats 4000000 in
theorem rf_z3 (s : ByteArray) (w : World) (l : List UInt8) (z : Int) (hs : s.size ≤ 900) (hi : M.body s.data.toList ∉ M.infs) (hn : M.body s.data.toList ∉ M.nans) (hL : M.body s.data.toList = 46 :: l) (hP : ∀ x ∈ ([] : List UInt8), x ≠ 46) (ht : M.tl (M.bk l) = some z) (hF : M.gone (M.fr l) = []) :
    Calls Tryz.prog 35 #[.string s] w fun e w' => e = .returned (.tuple #[dZ, .int .i64 0]) ∧ Below w.heap.size w w' := by
  have hbl := M.body_len s.data.toList
  rw [← sz_list] at hbl
  have c1 := fun W => rsign_any s W (by omega)
  have c2 := fun g W => rodd_no (bA (M.body s.data.toList)) (M.isNeg s.data.toList) g W (by rw [bA_toList]; exact hi) (by rw [bA_toList]; exact hn)
  have c3 := fun W => rfind46_yes (bA (M.body s.data.toList)) ([] : List UInt8) l W (by rw [bA_size]; omega) (by rw [bA_toList]; exact hL) hP
  have hUs : (bA (M.body s.data.toList)).size = ([] : List UInt8).length + 1 + l.length := by rw [bA_size, hL]; simp; omega
  have hlen : ([] : List UInt8).length + 1 + l.length ≤ 900 := by rw [← hUs, bA_size]; omega
  have hx1 : (bA (M.body s.data.toList)).extract (([] : List UInt8).length + 1) (bA (M.body s.data.toList)).size = bA l := by
    apply eq_bA; rw [Lib.extract_to_end, bA_toList, hL, show 46 :: l = (([] : List UInt8) ++ [46]) ++ l by simp]; exact List.drop_left' (by simp)
  have hsp := M.fr_bk l
  have hRl : (bA l).data.toList = l := bA_toList l
  have hRs : (bA l).size = l.length := bA_size l
  obtain ⟨a, hae⟩ : ∃ a, (M.fr l).length = a := ⟨_, rfl⟩
  have hal : a + (M.bk l).length = l.length := by rw [← hae, ← List.length_append, hsp]
  have hx2 : (bA l).extract 0 a = bA (M.fr l) := by
    apply eq_bA
    rw [extract_take, hRl]
    have := List.take_left' (l₁ := M.fr l) (l₂ := M.bk l) hae
    rwa [hsp] at this
  have hx3 : (bA l).extract a (bA l).size = bA (M.bk l) := by
    apply eq_bA
    rw [Lib.extract_to_end, hRl]
    have := List.drop_left' (l₁ := M.fr l) (l₂ := M.bk l) hae
    rwa [hsp] at this
  have HD : Hid (∀ j (h : j < (bA l).size), j < a → M.dv (bA l)[j] < 10 ∨ (bA l)[j] = 95) := Lib.hid (by
    intro j h hj
    have g := get_list (bA l) j h
    rw [hRl, show l[j]? = (M.fr l ++ M.bk l)[j]? by rw [hsp], List.getElem?_append_left (by omega)] at g
    exact ((M.du_iff _).1 (M.fr_du l _ (List.mem_of_getElem? g))).symm)
  have HE : Hid (∀ (h : a < (bA l).size), ¬ M.dv (bA l)[a] < 10 ∧ (bA l)[a] ≠ 95) := Lib.hid (by
    intro h
    have g := get_list (bA l) a h
    rw [hRl, show l[a]? = (M.fr l ++ M.bk l)[a]? by rw [hsp], List.getElem?_append_right (by omega), hae, Nat.sub_self] at g
    have hnd := M.bk_head l
    cases hb : M.bk l with
    | nil => rw [hb] at g; cases g
    | cons x r =>
      rw [hb] at g hnd
      have hx : x = (bA l)[a] := by simpa using g
      have := hnd x r rfl
      rw [← hx]
      exact ⟨fun k => this (Or.inr k), fun k => this (Or.inl k)⟩)
  have c5 := fun W => rbare_any (bA (M.fr l)) 10 W (by rw [bA_size]; omega) (by omega)
  rw [bA_toList] at c5
  unfold bareV at c5
  rw [if_pos (M.gone_du (M.fr_du l))] at c5
  have c6 := fun W => rtail_any (M.bk l) W (by omega)
  rw [ht] at c6
  simp only [tailV] at c6
  have hse : (!(M.gone (M.fr l)).isEmpty) = false := by
    cases hg : M.gone (M.fr l) with
    | nil => rfl
    | cons x r => exact absurd (hg.symm.trans hF) (by simp)
  rw [hse] at c5
  have haR : a ≤ (bA l).size := by omega
  have hR9 : (bA l).size ≤ 900 := by omega
  skip
  clear hbl hi hn hP ht hsp hRl hal hae hRs hF hse hL
  generalize hBU : bA (M.body s.data.toList) = U at *
  clear hBU
  generalize M.isNeg s.data.toList = N at *
  generalize tx z = Z at *
  generalize bA (M.gone (M.fr l)) = FG at *
  generalize bA (M.fr l) = FB at *
  generalize bA (M.bk l) = BB at *
  skip
  generalize hRS : bA l = RS at *
  simp only [List.length_nil, Nat.zero_add] at hx1 hlen hUs c3
  generalize hll : l.length = ll at *
  clear hRS hll
  rw [hUs] at hx1
  go_enter Tryz.func35, Tryz.ntmps35
  go_wp2_with fail
  refine (c1 _).mono ?_
  rintro r w1 ⟨rfl, hw1⟩
  have K1 := (Blk.made w 0 false ⟨#[]⟩ ⟨#[]⟩).next hw1
  have B1 : Below w.heap.size w w1 := below_new hw1
  clear hw1 c1
  go_wp2_with fail
  refine (c2 _ _).mono ?_
  rintro r w2 ⟨rfl, hw2⟩
  have K2 := K1.next hw2
  have B2 : Below w.heap.size w w2 := below_on B1 hw2
  clear hw2 c2 K1 B1
  go_wp2_with fail
  refine (c3 _).mono ?_
  rintro r w' ⟨rfl, rfl⟩
  clear c3
  obtain ⟨W, hW⟩ : ∃ W, w2.alloc (Obj.cells #[.int .i64 0, .bool false, .string ⟨#[]⟩, .string ⟨#[]⟩] 46) = W := ⟨_, rfl⟩
  have K3 : Blk W w.heap.size 0 false ⟨#[]⟩ ⟨#[]⟩ := hW ▸ K2.alloc' _
  have B3 : Below w.heap.size w W := hW ▸ B2.alloc B2.size _
  rw [hW]
  clear K2 B2 hW
  go_wp2_with fail
  go_loop [10] (fun ev => ∃ j : Nat, ev = .int .i64 j ∧ j ≤ a) (fun ev => a - (intOf ev).toNat)
  case atStart => exact ⟨0, rfl, Nat.zero_le _⟩
  case round =>
    obtain ⟨j, rfl, hj⟩ := hrel
    by_cases hja : j < a
    · have hjs : j < RS.size := by omega
      have hltd : decide (j < RS.size) = true := by simpa using hjs
      have hjz : (j : Int) < (RS.size : Int) := by omega
      have hor := HD.out j hjs hja
      have cd := fun W => isDigit_any RS[j] W
      have h256 := RS[j].toNat_lt
      by_cases hdv : M.dv RS[j] < 10
      · rw [decide_eq_true hdv] at cd
        clear hor hdv
        go_wp2_with fail
        refine (cd _).mono ?_
        rintro r w' ⟨rfl, rfl⟩
        go_wp2
        go_round
        case rel => exact ⟨j + 1, by go_num, by omega⟩
        case measure => simp [intOf]; omega
      · have h95 : RS[j].toNat = 95 := by rw [hor.resolve_left hdv]; rfl
        rw [decide_eq_false hdv, h95] at cd
        clear hor hdv
        go_wp2_with fail
        refine (cd _).mono ?_
        rintro r w' ⟨rfl, rfl⟩
        go_wp2
        go_round
        case rel => exact ⟨j + 1, by go_num, by omega⟩
        case measure => simp [intOf]; omega
    · obtain rfl : j = a := by omega
      have ha1 : (j : Int) ≤ (RS.size : Int) := by omega
      by_cases hlt : j < RS.size
      · have hltd : decide (j < RS.size) = true := by simpa using hlt
        obtain ⟨hnd, hn95⟩ := HE.out hlt
        have cd := fun W => isDigit_any RS[j] W
        rw [decide_eq_false hnd] at cd
        have h256 := RS[j].toNat_lt
        have hx95 : ((RS[j].toNat : Int) == 95) = false := neC (k := 95) (by omega) hn95
        clear hnd hn95 HD
        go_wp2_with fail
        refine (cd _).mono ?_
        rintro r w' ⟨rfl, rfl⟩
        clear HE
        go_wp2_with fail
        refine (c5 _).mono ?_
        rintro r w4 ⟨rfl, hw4⟩
        have K4 := K3.next hw4
        have B4 := below_on B3 hw4
        clear hw4 K3 B3 c5
        go_wp2_with fail
        refine (c6 _).mono ?_
        rintro r w5 ⟨rfl, hw5⟩
        have K5 := K4.next hw5
        have B5 := below_on B4 hw5
        clear hw5 K4 B4 c6
        have KZ := K5
        have BZ : Below w.heap.size w _ := B5
        obtain ⟨g, hg⟩ : ∃ g, w.heap.size = g := ⟨_, rfl⟩
        rw [hg] at KZ ⊢
        obtain ⟨k0, k1, k2, k3⟩ := KZ.cells
        obtain ⟨f0, f1, f2, f3⟩ := KZ.fro
        go_wp2
        exact bodyPost_ret (ret_decI Tryz.results35 _ rfl rfl (KZ.set 0 false _ _)) rfl ⟨rfl, below_set4 BZ (by omega) _ _ _ _⟩
      · have hltd : decide (j < RS.size) = false := by simp; omega
        clear HE
        go_wp2_with fail
        refine (c5 _).mono ?_
        rintro r w4 ⟨rfl, hw4⟩
        have K4 := K3.next hw4
        have B4 := below_on B3 hw4
        clear hw4 K3 B3 c5
        go_wp2_with fail
        refine (c6 _).mono ?_
        rintro r w5 ⟨rfl, hw5⟩
        have K5 := K4.next hw5
        have B5 := below_on B4 hw5
        clear hw5 K4 B4 c6
        have KZ := K5
        have BZ : Below w.heap.size w _ := B5
        obtain ⟨g, hg⟩ : ∃ g, w.heap.size = g := ⟨_, rfl⟩
        rw [hg] at KZ ⊢
        obtain ⟨k0, k1, k2, k3⟩ := KZ.cells
        obtain ⟨f0, f1, f2, f3⟩ := KZ.fro
        go_wp2
        exact bodyPost_ret (ret_decI Tryz.results35 _ rfl rfl (KZ.set 0 false _ _)) rfl ⟨rfl, below_set4 BZ (by omega) _ _ _ _⟩
set_option maxRecDepth 100000 in
set_option maxHeartbeats 4000000 in
theorem rf_z4 (s : ByteArray) (w : World) (c : UInt8) (P l : List UInt8) (z : Int) (hs : s.size ≤ 900) (hi : M.body s.data.toList ∉ M.infs) (hn : M.body s.data.toList ∉ M.nans) (hL : M.body s.data.toList = c :: P ++ 46 :: l) (hP : ∀ x ∈ (c :: P), x ≠ 46) (ht : M.tl (M.bk l) = some z) (hd : ¬ M.dv c < 10) :
    Calls Tryz.prog 35 #[.string s] w fun e w' => e = .returned (.tuple #[dZ, .int .i64 0]) ∧ Below w.heap.size w w' := by
  have hbl := M.body_len s.data.toList
  rw [← sz_list] at hbl
  have c1 := fun W => rsign_any s W (by omega)
  have c2 := fun g W => rodd_no (bA (M.body s.data.toList)) (M.isNeg s.data.toList) g W (by rw [bA_toList]; exact hi) (by rw [bA_toList]; exact hn)
  have c3 := fun W => rfind46_yes (bA (M.body s.data.toList)) (c :: P) l W (by rw [bA_size]; omega) (by rw [bA_toList]; exact hL) hP
  have hUs : (bA (M.body s.data.toList)).size = (c :: P).length + 1 + l.length := by rw [bA_size, hL]; simp; omega
  have hlen : (c :: P).length + 1 + l.length ≤ 900 := by rw [← hUs, bA_size]; omega
  have hx1 : (bA (M.body s.data.toList)).extract ((c :: P).length + 1) (bA (M.body s.data.toList)).size = bA l := by
    apply eq_bA; rw [Lib.extract_to_end, bA_toList, hL, show c :: P ++ 46 :: l = ((c :: P) ++ [46]) ++ l by simp]; exact List.drop_left' (by simp)
  have hsp := M.fr_bk l
  have hRl : (bA l).data.toList = l := bA_toList l
  have hRs : (bA l).size = l.length := bA_size l
  obtain ⟨a, hae⟩ : ∃ a, (M.fr l).length = a := ⟨_, rfl⟩
  have hal : a + (M.bk l).length = l.length := by rw [← hae, ← List.length_append, hsp]
  have hx2 : (bA l).extract 0 a = bA (M.fr l) := by
    apply eq_bA
    rw [extract_take, hRl]
    have := List.take_left' (l₁ := M.fr l) (l₂ := M.bk l) hae
    rwa [hsp] at this
  have hx3 : (bA l).extract a (bA l).size = bA (M.bk l) := by
    apply eq_bA
    rw [Lib.extract_to_end, hRl]
    have := List.drop_left' (l₁ := M.fr l) (l₂ := M.bk l) hae
    rwa [hsp] at this
  have HD : Hid (∀ j (h : j < (bA l).size), j < a → M.dv (bA l)[j] < 10 ∨ (bA l)[j] = 95) := Lib.hid (by
    intro j h hj
    have g := get_list (bA l) j h
    rw [hRl, show l[j]? = (M.fr l ++ M.bk l)[j]? by rw [hsp], List.getElem?_append_left (by omega)] at g
    exact ((M.du_iff _).1 (M.fr_du l _ (List.mem_of_getElem? g))).symm)
  have HE : Hid (∀ (h : a < (bA l).size), ¬ M.dv (bA l)[a] < 10 ∧ (bA l)[a] ≠ 95) := Lib.hid (by
    intro h
    have g := get_list (bA l) a h
    rw [hRl, show l[a]? = (M.fr l ++ M.bk l)[a]? by rw [hsp], List.getElem?_append_right (by omega), hae, Nat.sub_self] at g
    have hnd := M.bk_head l
    cases hb : M.bk l with
    | nil => rw [hb] at g; cases g
    | cons x r =>
      rw [hb] at g hnd
      have hx : x = (bA l)[a] := by simpa using g
      have := hnd x r rfl
      rw [← hx]
      exact ⟨fun k => this (Or.inr k), fun k => this (Or.inl k)⟩)
  have c5 := fun W => rbare_any (bA (M.fr l)) 10 W (by rw [bA_size]; omega) (by omega)
  rw [bA_toList] at c5
  unfold bareV at c5
  rw [if_pos (M.gone_du (M.fr_du l))] at c5
  have c6 := fun W => rtail_any (M.bk l) W (by omega)
  rw [ht] at c6
  simp only [tailV] at c6
  have hat : ∃ h : 0 < (bA (M.body s.data.toList)).size, (bA (M.body s.data.toList))[0].toNat = c.toNat := by
    obtain ⟨q1, q2⟩ := head_cons c (P ++ 46 :: l)
    rw [hL]; exact ⟨q1, congrArg UInt8.toNat q2⟩
  obtain ⟨h00, hat⟩ := hat
  have c7 := fun W => isDigit_any c W
  rw [decide_eq_false hd] at c7
  have hkp : 0 < (c :: P).length := by simp
  have haR : a ≤ (bA l).size := by omega
  have hR9 : (bA l).size ≤ 900 := by omega
  generalize (!(M.gone (M.fr l)).isEmpty) = SM at c5
  clear hbl hi hn hP ht hsp hRl hal hae hRs hd hL
  generalize hBU : bA (M.body s.data.toList) = U at *
  clear hBU
  generalize M.isNeg s.data.toList = N at *
  generalize tx z = Z at *
  generalize bA (M.gone (M.fr l)) = FG at *
  generalize bA (M.fr l) = FB at *
  generalize bA (M.bk l) = BB at *
  generalize hpl : (c :: P).length = p at *
  generalize c.toNat = cn at *
  generalize hRS : bA l = RS at *
  generalize hll : l.length = ll at *
  clear hRS hll hpl
  rw [hUs] at hx1
  go_enter Tryz.func35, Tryz.ntmps35
  go_wp2_with fail
  refine (c1 _).mono ?_
  rintro r w1 ⟨rfl, hw1⟩
  have K1 := (Blk.made w 0 false ⟨#[]⟩ ⟨#[]⟩).next hw1
  have B1 : Below w.heap.size w w1 := below_new hw1
  clear hw1 c1
  go_wp2_with fail
  refine (c2 _ _).mono ?_
  rintro r w2 ⟨rfl, hw2⟩
  have K2 := K1.next hw2
  have B2 : Below w.heap.size w w2 := below_on B1 hw2
  clear hw2 c2 K1 B1
  go_wp2_with fail
  refine (c3 _).mono ?_
  rintro r w' ⟨rfl, rfl⟩
  clear c3
  obtain ⟨W, hW⟩ : ∃ W, w2.alloc (Obj.cells #[.int .i64 0, .bool false, .string ⟨#[]⟩, .string ⟨#[]⟩] 46) = W := ⟨_, rfl⟩
  have K3 : Blk W w.heap.size 0 false ⟨#[]⟩ ⟨#[]⟩ := hW ▸ K2.alloc' _
  have B3 : Below w.heap.size w W := hW ▸ B2.alloc B2.size _
  rw [hW]
  clear K2 B2 hW
  go_wp2_with fail
  go_loop [10] (fun ev => ∃ j : Nat, ev = .int .i64 j ∧ j ≤ a) (fun ev => a - (intOf ev).toNat)
  case atStart => exact ⟨0, rfl, Nat.zero_le _⟩
  case round =>
    obtain ⟨j, rfl, hj⟩ := hrel
    by_cases hja : j < a
    · have hjs : j < RS.size := by omega
      have hltd : decide (j < RS.size) = true := by simpa using hjs
      have hjz : (j : Int) < (RS.size : Int) := by omega
      have hor := HD.out j hjs hja
      have cd := fun W => isDigit_any RS[j] W
      have h256 := RS[j].toNat_lt
      by_cases hdv : M.dv RS[j] < 10
      · rw [decide_eq_true hdv] at cd
        clear hor hdv
        go_wp2_with fail
        refine (cd _).mono ?_
        rintro r w' ⟨rfl, rfl⟩
        go_wp2
        go_round
        case rel => exact ⟨j + 1, by go_num, by omega⟩
        case measure => simp [intOf]; omega
      · have h95 : RS[j].toNat = 95 := by rw [hor.resolve_left hdv]; rfl
        rw [decide_eq_false hdv, h95] at cd
        clear hor hdv
        go_wp2_with fail
        refine (cd _).mono ?_
        rintro r w' ⟨rfl, rfl⟩
        go_wp2
        go_round
        case rel => exact ⟨j + 1, by go_num, by omega⟩
        case measure => simp [intOf]; omega
    · obtain rfl : j = a := by omega
      have ha1 : (j : Int) ≤ (RS.size : Int) := by omega
      by_cases hlt : j < RS.size
      · have hltd : decide (j < RS.size) = true := by simpa using hlt
        obtain ⟨hnd, hn95⟩ := HE.out hlt
        have cd := fun W => isDigit_any RS[j] W
        rw [decide_eq_false hnd] at cd
        have h256 := RS[j].toNat_lt
        have hx95 : ((RS[j].toNat : Int) == 95) = false := neC (k := 95) (by omega) hn95
        clear hnd hn95 HD
        go_wp2_with fail
        refine (cd _).mono ?_
        rintro r w' ⟨rfl, rfl⟩
        clear HE
        go_wp2_with fail
        refine (c5 _).mono ?_
        rintro r w4 ⟨rfl, hw4⟩
        have K4 := K3.next hw4
        have B4 := below_on B3 hw4
        clear hw4 K3 B3 c5
        go_wp2_with fail
        refine (c6 _).mono ?_
        rintro r w5 ⟨rfl, hw5⟩
        have K5 := K4.next hw5
        have B5 := below_on B4 hw5
        clear hw5 K4 B4 c6
        go_wp2_with fail
        refine (c7 _).mono ?_
        rintro r w' ⟨rfl, rfl⟩
        have KZ := K5
        have BZ : Below w.heap.size w _ := B5
        obtain ⟨g, hg⟩ : ∃ g, w.heap.size = g := ⟨_, rfl⟩
        rw [hg] at KZ ⊢
        obtain ⟨k0, k1, k2, k3⟩ := KZ.cells
        obtain ⟨f0, f1, f2, f3⟩ := KZ.fro
        go_wp2
        exact bodyPost_ret (ret_decI Tryz.results35 _ rfl rfl (KZ.set 0 false _ _)) rfl ⟨rfl, below_set4 BZ (by omega) _ _ _ _⟩
      · have hltd : decide (j < RS.size) = false := by simp; omega
        clear HE
        go_wp2_with fail
        refine (c5 _).mono ?_
        rintro r w4 ⟨rfl, hw4⟩
        have K4 := K3.next hw4
        have B4 := below_on B3 hw4
        clear hw4 K3 B3 c5
        go_wp2_with fail
        refine (c6 _).mono ?_
        rintro r w5 ⟨rfl, hw5⟩
        have K5 := K4.next hw5
        have B5 := below_on B4 hw5
        clear hw5 K4 B4 c6
        go_wp2_with fail
        refine (c7 _).mono ?_
        rintro r w' ⟨rfl, rfl⟩
        have KZ := K5
        have BZ : Below w.heap.size w _ := B5
        obtain ⟨g, hg⟩ : ∃ g, w.heap.size = g := ⟨_, rfl⟩
        rw [hg] at KZ ⊢
        obtain ⟨k0, k1, k2, k3⟩ := KZ.cells
        obtain ⟨f0, f1, f2, f3⟩ := KZ.fro
        go_wp2
        exact bodyPost_ret (ret_decI Tryz.results35 _ rfl rfl (KZ.set 0 false _ _)) rfl ⟨rfl, below_set4 BZ (by omega) _ _ _ _⟩
end Go.Proofs.YtipgipgehnhgkaaGreatDoor
