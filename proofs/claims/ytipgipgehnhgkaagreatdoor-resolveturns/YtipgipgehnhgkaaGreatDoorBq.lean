/- Walks: ReplaceAll and Cut off the shelf; worth, sixties. Walks: sixties, said, Of. Walks: Of; the document's find, sign. -/
import Derived.Test.YtipgipgehnhgkaaGreatDoorBh
import Derived.Test.YtipgipgehnhgkaaGreatDoorBb
import Derived.Test.YtipgipgehnhgkaaGreatDoorBd
set_option linter.unusedVariables false
namespace Go.Proofs.YtipgipgehnhgkaaGreatDoor
open Go.RowKit

set_option maxRecDepth 100000 in
set_option maxHeartbeats 1000000 in
theorem iworth_any (s : ByteArray) (w : World) (h : M.pr s.data.toList = true) :
    Calls Tryz.prog 128 #[.string s] w fun e w' => e = .returned (.int .i64 (M.val 10 s.data.toList : Nat)) ∧ w = w' := by
  obtain ⟨h1, h2, h3, h4, h5⟩ := M.pr_facts h
  have hd := ((M.okD_iff _ _).1 h1).2
  rw [← sz_list] at h2
  obtain ⟨R, hR⟩ : ∃ R, M.val 10 s.data.toList = R := ⟨_, rfl⟩
  rw [hR]
  have HR := Lib.hid hR
  have HD := Lib.hid hd
  clear hR h h1 h3 h4 h5 hd
  go_enter Tryz.func128, Tryz.ntmps128
  go_wp2
  go_loop [3, 7] (fun nv iv => ∃ k n : Nat, iv = .int .i64 k ∧ nv = .int .i64 n ∧ k ≤ s.size ∧ n < 1000 ∧ Hid (M.val 10 (s.data.toList.take k) = n)) (fun _ iv => s.size - (intOf iv).toNat)
  case atStart => exact ⟨0, 0, rfl, rfl, Nat.zero_le _, by omega, rfl⟩
  case round =>
    obtain ⟨k, n, rfl, rfl, hk, hn, hst⟩ := hrel
    by_cases hlt : k < s.size
    · have hltd : decide (k < s.size) = true := by simpa using hlt
      have hdv : M.dv s[k] < 10 := (M.allD_iff _ _).1 HD.out _ (List.mem_of_getElem? (get_list s k hlt))
      obtain ⟨g1, g2, g3⟩ := M.dv_lt10 hdv
      have hvs := M.val_snoc 10 (s.data.toList.take k) s[k]
      rw [← take_snoc s k hlt, hst.out, g3] at hvs
      have hal : M.allD 10 (s.data.toList.take (k + 1)) = true := by
        rw [M.allD_iff]; intro c hc; exact (M.allD_iff _ _).1 HD.out c (List.mem_of_mem_take hc)
      have hvl := M.val_lt 10 _ hal
      have hle : (s.data.toList.take (k + 1)).length ≤ 2 := by rw [List.length_take]; omega
      have hvl2 : M.val 10 (s.data.toList.take (k + 1)) < 100 := Nat.lt_of_lt_of_le hvl (Nat.pow_le_pow_right (by omega) hle)
      rw [hvs] at hvl2
      have HS := Lib.hid hvs
      clear hvs hvl hdv g3 hst hal hle
      obtain ⟨m, hm⟩ : ∃ m, s[k].toNat = 48 + m := ⟨s[k].toNat - 48, by omega⟩
      rw [hm, Nat.add_sub_cancel_left] at hvl2 HS
      rw [hm] at g1 g2
      go_wp2
      go_round
      case rel => exact ⟨k + 1, n * 10 + m, by go_num, by go_num, by omega, by omega, HS.out⟩
      case measure => simp [intOf]; omega
    · obtain rfl : k = s.size := by omega
      have hltd : decide (s.size < s.size) = false := by simp
      have h1 := hst.out
      rw [take_all, HR.out] at h1
      subst h1
      clear hst
      go_wp2
      go_ret
      exact ⟨rfl, rfl⟩
end Go.Proofs.YtipgipgehnhgkaaGreatDoor

namespace Go.Proofs.YtipgipgehnhgkaaGreatDoor
open Go.RowKit

set_option maxRecDepth 100000 in
set_option maxHeartbeats 2000000 in
theorem sixties_any (D R : List UInt8) (w : World) (he : Env w) (hd : M.okD 10 D = true) (h48 : D.head? ≠ some 48) (hR : M.fS 1 R = 6) (hl : D.length + R.length ≤ 990) :
    Calls Tryz.prog 90 #[.string (bA (D ++ 58 :: R))] w fun e w' => e = .returned (.string (tx (M.sx (M.val 10 D) 0 R : Nat))) ∧ Below w.heap.size w w' := by
  have hT := M.six_lt D R ((M.okD_iff _ _).1 hd).2
  have hD58 : ∀ c ∈ D, c ≠ 58 := fun c hc => M.ne58 ((M.allD_iff _ _).1 ((M.okD_iff _ _).1 hd).2 c hc) (by omega)
  have hRne : R ≠ [] := by intro e; rw [e] at hR; cases hR
  have h0 : M.rd (M.val 10 D * 1 + 0) R = M.sx (M.val 10 D) 0 R := by unfold M.rd; rw [if_neg hRne, Nat.mul_one, Nat.add_zero]
  obtain ⟨T, hTe⟩ : ∃ T, M.sx (M.val 10 D) 0 R = T := ⟨_, rfl⟩
  obtain ⟨E, hE⟩ : ∃ E, D.length + 2 + 3 * R.length = E := ⟨_, rfl⟩
  have hE5 : 0 < E ∧ E ≤ 5000 := by omega
  rw [hTe] at h0 hT ⊢
  rw [hE] at hT
  have c1 := cut58_any (D ++ 58 :: R) D R true w he (by simp; omega) (M.cut_yes 58 D R hD58)
  rw [dec_tx D hd h48] at c1
  generalize M.val 10 D = a0 at *
  have HT := Lib.hid hT
  have H0 := Lib.hid h0
  have HR := Lib.hid hR
  have hRl : R.length ≤ 1000 := by omega
  clear hT h0 hR hTe hE hRne hD58 h48 hd hl
  generalize bA (D ++ 58 :: R) = B at *
  go_enter Tryz.func90, Tryz.ntmps90
  go_wp2_with fail
  refine c1.mono ?_
  rintro r w1 ⟨rfl, hb1⟩
  clear c1
  go_wp2_with fail
  go_loopw [3, 4, 6, 7] (fun nv rv mv kv wr => ∃ (a m k : Nat) (R : List UInt8), nv = .string (tx (a : Int)) ∧ rv = .string (bA R) ∧ mv = .int .i64 (m : Int) ∧ kv = .int .i64 (k : Int) ∧ 1 ≤ m ∧ m * 60 ≤ 1099511627776 ∧ k < m ∧ R.length ≤ 1000 ∧ SRel w T a m k R wr) (fun _ rv _ _ _ => match rv with | .string t => t.size | _ => 0)
  case atStart => exact ⟨a0, 1, 0, R, rfl, rfl, rfl, rfl, by omega, by omega, by omega, hRl, Or.inr HR.out, H0.out, hb1⟩
  case round =>
    clear HR H0 hRl
    obtain ⟨a, m, k, S, rfl, rfl, rfl, rfl, hm1, hm60, hkm, hRl, hR, hrd, hbw⟩ := hrel
    have haT : a ≤ T := by
      have h1 := M.rd_ge (a * m + k) S
      rw [hrd] at h1
      have h2 : a * 1 ≤ a * m := Nat.mul_le_mul_left a hm1
      omega
    rcases hR with rfl | hR
    · have hlen := txt_le haT HT.out hE5.1
      have c2 := fun W => mulAdd_yes a m k W (by omega) (by omega) (by omega)
      have hv : a * m + k = T := by rw [← hrd]; rfl
      rw [hv] at c2
      clear hv hrd hlen haT
      generalize tx (a : Int) = A at *
      rw [show bA [] = ⟨#[]⟩ from rfl]
      go_wp2_with fail
      refine (c2 _).mono ?_
      rintro r w2 ⟨rfl, hb2⟩
      go_wp2
      go_ret
      exact ⟨rfl, hbw.trans (hb2.mono hbw.size)⟩
    · obtain ⟨P, r, b, hcut, hp, hr, hlr, hstep⟩ := M.step_six S hR
      have c2 := cut58_any S P r b wr (he.next hbw) hRl hcut
      have c3 := fun W => iworth_any (bA P) W (by rw [bA_toList]; exact hp)
      rw [bA_toList] at c3
      have hv60 := (M.pr_facts hp).2.2.2.1
      have hrd2 := hstep (a * m + k)
      rw [hrd, mk_step] at hrd2
      have hRs : (bA S).size = S.length := bA_size S
      have hrs : (bA r).size = r.length := bA_size r
      have hne : ((bA S).toList == []) = false := by
        rw [ByteArray.toList_eq, bA_toList]
        cases S with
        | nil => cases hR
        | cons c q => rfl
      have hne2 : (bA S).toList.isEmpty = false := by
        rw [ByteArray.toList_eq, bA_toList]
        cases S with
        | nil => cases hR
        | cons c q => rfl
      have HRD := Lib.hid hrd2.symm
      have HR2 := Lib.hid hr
      have HRs := Lib.hid hRs
      have HLR := Lib.hid hlr
      generalize M.val 10 P = v at *
      have hlen := txt_le haT HT.out hE5.1
      clear hrd2 hr hcut hp hstep hR hrd hRs
      generalize hBP : bA P = BP at *
      by_cases hgt : 1099511627776 < m * 60 * 60
      · have hgd : decide ((1099511627776 : Int) < (m : Int) * 60 * 60) = true := by simp; omega
        have c4 := fun W => mulAdd_yes a (m * 60) (k * 60 + v) W (by omega) (by omega) (by omega)
        have e4 : ((k * 60 + v : Nat) : Int) = (k : Int) * 60 + (v : Int) := by omega
        have e5 : ((m * 60 : Nat) : Int) = (m : Int) * 60 := by omega
        rw [e4, e5] at c4
        clear e4 e5 hBP haT hlen
        generalize tx (a : Int) = A at *
        generalize hBR : bA S = BR at *
        go_wp2_with fail
        refine c2.mono ?_
        rintro r w2 ⟨rfl, hb2⟩
        clear c2
        go_wp2_with fail
        refine (c3 _).mono ?_
        rintro r w' ⟨rfl, rfl⟩
        clear c3
        go_wp2_with fail
        refine (c4 _).mono ?_
        rintro r w3 ⟨rfl, hb3⟩
        clear c4
        go_wp2
        have hbz := hbw.trans ((hb2.mono hbw.size).trans (hb3.mono (Nat.le_trans hbw.size hb2.size)))
        go_roundw
        case rel => exact ⟨_, 1, 0, _, rfl, rfl, rfl, rfl, by omega, by omega, by omega, by have := HLR.out; omega, HR2.out, by rw [Nat.mul_one, Nat.add_zero]; exact HRD.out, hbz⟩
        case measure => have := HLR.out; have := HRs.out; simp only; omega
      · have hgd : decide ((1099511627776 : Int) < (m : Int) * 60 * 60) = false := by simp; omega
        clear hBP haT hlen
        generalize hA : tx (a : Int) = A at *
        have HA := Lib.hid hA
        clear hA
        generalize hBR : bA S = BR at *
        go_wp2_with fail
        refine c2.mono ?_
        rintro r w2 ⟨rfl, hb2⟩
        clear c2
        go_wp2_with fail
        refine (c3 _).mono ?_
        rintro r w' ⟨rfl, rfl⟩
        clear c3
        go_wp2
        have hbz := hbw.trans (hb2.mono hbw.size)
        go_roundw
        case rel => exact ⟨a, m * 60, k * 60 + v, _, by rw [HA.out], rfl, by go_num, by go_num, by omega, by omega, by omega, by have := HLR.out; omega, HR2.out, HRD.out, hbz⟩
        case measure => have := HLR.out; have := HRs.out; simp only; omega

theorem tx_dgo (n : Nat) : M.okD 10 (tx (n : Int)).data.toList = true ∧ M.val 10 (tx (n : Int)).data.toList = n := by
  rw [tx_list, M.txt_nat]; exact ⟨M.dg_ok n, M.dg_val n⟩
theorem tx_room {n b E : Nat} (h : n < b ^ E) (hb : b ≤ 100) (hE : E ≤ 1000) : (tx (n : Int)).size ≤ 6000 := by
  have h1 : n < 10 ^ (2 * E + 1) := by
    refine Nat.lt_of_lt_of_le h ?_
    rw [Nat.pow_succ, Nat.pow_mul]
    exact Nat.le_trans (Nat.pow_le_pow_left hb E) (Nat.le_mul_of_pos_right _ (by omega))
  have := tx_len (n : Int) (2 * E + 1) (by omega) h1
  omega
set_option maxRecDepth 100000 in
set_option maxHeartbeats 2000000 in
theorem said_any (U : List UInt8) (hU : U.length ≤ 990) (hf : M.fB U ≠ 0) : ∃ D : ByteArray, M.okD 10 D.data.toList = true ∧ M.val 10 D.data.toList = M.num U ∧ D.size ≤ 6000 ∧ ∀ w, Env w → Calls Tryz.prog 45 #[.int .i64 (M.fB U : Nat), .string (bA (M.gone U))] w fun e w' => e = .returned (.string D) ∧ Below w.heap.size w w' := by
  have hgl := M.gone_len U
  rcases M.isForm U hf with ⟨r, h, hg, hd⟩ | ⟨r, h, hg, hd⟩ | ⟨h, hd⟩ | ⟨h, hu⟩ | ⟨h, hd, h48⟩ | ⟨D, R, h, hg, hd, h48, hR⟩
  · have hn : M.num U = M.val 2 r := by unfold M.num; rw [if_pos h, hg]; rfl
    have hrl : r.length ≤ 988 := by rw [hg] at hgl; simp at hgl; omega
    have hx : (bA (48 :: 98 :: r)).extract 2 (bA (48 :: 98 :: r)).size = bA r := by apply eq_bA; rw [Lib.extract_to_end, bA_toList]; rfl
    have hz : 2 ≤ (bA (48 :: 98 :: r)).size := by rw [bA_size]; simp
    refine ⟨tx (M.val 2 r : Nat), (tx_dgo _).1, by rw [(tx_dgo _).2, hn], tx_room (M.val_lt 2 r ((M.okD_iff _ _).1 hd).2) (by omega) (by omega), fun w he => ?_⟩
    have c1 := fun W => base_yes (bA r) 2 W (Or.inl rfl) (by rw [bA_size]; omega) (by rw [bA_toList]; exact hd)
    rw [bA_toList] at c1
    rw [h, hg]
    generalize bA (48 :: 98 :: r) = B at *
    generalize bA r = C at *
    clear hgl hn hg hd hf hU hrl
    go_enter Tryz.func45, Tryz.ntmps45
    go_wp2_with fail
    refine (c1 _).mono ?_
    rintro r w1 ⟨rfl, hb1⟩
    go_wp2
    go_ret
    exact ⟨rfl, hb1⟩
  · have hn : M.num U = M.val 16 r := by unfold M.num; rw [if_neg (by omega), if_pos h, hg]; rfl
    have hrl : r.length ≤ 988 := by rw [hg] at hgl; simp at hgl; omega
    have hx : (bA (48 :: 120 :: r)).extract 2 (bA (48 :: 120 :: r)).size = bA r := by apply eq_bA; rw [Lib.extract_to_end, bA_toList]; rfl
    have hz : 2 ≤ (bA (48 :: 120 :: r)).size := by rw [bA_size]; simp
    refine ⟨tx (M.val 16 r : Nat), (tx_dgo _).1, by rw [(tx_dgo _).2, hn], tx_room (M.val_lt 16 r ((M.okD_iff _ _).1 hd).2) (by omega) (by omega), fun w he => ?_⟩
    have c1 := fun W => base_yes (bA r) 16 W (Or.inr (Or.inr rfl)) (by rw [bA_size]; omega) (by rw [bA_toList]; exact hd)
    rw [bA_toList] at c1
    rw [h, hg]
    generalize bA (48 :: 120 :: r) = B at *
    generalize bA r = C at *
    clear hgl hn hg hd hf hU hrl
    go_enter Tryz.func45, Tryz.ntmps45
    go_wp2_with fail
    refine (c1 _).mono ?_
    rintro r w1 ⟨rfl, hb1⟩
    go_wp2
    go_ret
    exact ⟨rfl, hb1⟩
  · have hn : M.num U = M.val 8 (M.gone U) := by unfold M.num; rw [if_neg (by omega), if_neg (by omega), if_pos h]
    refine ⟨tx (M.val 8 (M.gone U) : Nat), (tx_dgo _).1, by rw [(tx_dgo _).2, hn], tx_room (M.val_lt 8 _ ((M.okD_iff _ _).1 hd).2) (by omega) (by omega), fun w he => ?_⟩
    have c1 := fun W => base_yes (bA (M.gone U)) 8 W (Or.inr (Or.inl rfl)) (by rw [bA_size]; omega) (by rw [bA_toList]; exact hd)
    rw [bA_toList] at c1
    rw [h]
    generalize bA (M.gone U) = C at *
    clear hgl hn hd hf hU
    go_enter Tryz.func45, Tryz.ntmps45
    go_wp2_with fail
    refine (c1 _).mono ?_
    rintro r w1 ⟨rfl, hb1⟩
    go_wp2
    go_ret
    exact ⟨rfl, hb1⟩
  · have hn : M.num U = M.val 10 (M.gone U) := by unfold M.num; rw [if_neg (by omega), if_neg (by omega), if_neg (by omega), if_neg (by omega)]
    refine ⟨bA (M.gone U), by rw [bA_toList, hu]; rfl, by rw [bA_toList, hn], by rw [bA_size]; omega, fun w he => ?_⟩
    rw [h]
    generalize bA (M.gone U) = C at *
    clear hgl hn hu hf hU
    go_enter Tryz.func45, Tryz.ntmps45
    go_wp2
    go_ret
    exact ⟨rfl, Below.refl _ _⟩
  · have hn : M.num U = M.val 10 (M.gone U) := by unfold M.num; rw [if_neg (by omega), if_neg (by omega), if_neg (by omega), if_neg (by omega)]
    refine ⟨bA (M.gone U), by rw [bA_toList]; exact hd, by rw [bA_toList, hn], by rw [bA_size]; omega, fun w he => ?_⟩
    rw [h]
    generalize bA (M.gone U) = C at *
    clear hgl hn hd h48 hf hU
    go_enter Tryz.func45, Tryz.ntmps45
    go_wp2
    go_ret
    exact ⟨rfl, Below.refl _ _⟩
  · have hD58 : ∀ c ∈ D, c ≠ 58 := fun c hc => M.ne58 ((M.allD_iff _ _).1 ((M.okD_iff _ _).1 hd).2 c hc) (by omega)
    have hn : M.num U = M.sx (M.val 10 D) 0 R := by
      unfold M.num
      rw [if_neg (by omega), if_neg (by omega), if_neg (by omega), if_pos h, hg, M.sx_yes 0 D R hD58, Nat.zero_mul, Nat.zero_add]
    have hll : D.length + R.length ≤ 989 := by rw [hg] at hgl; simp at hgl; omega
    have hsz := tx_len ((M.sx (M.val 10 D) 0 R : Nat) : Int) (D.length + 2 + 3 * R.length) (by omega) (M.six_lt D R ((M.okD_iff _ _).1 hd).2)
    refine ⟨tx (M.sx (M.val 10 D) 0 R : Nat), (tx_dgo _).1, by rw [(tx_dgo _).2, hn], by omega, fun w he => ?_⟩
    have c1 := fun W hW => sixties_any D R W hW hd h48 hR (by omega)
    rw [h, hg]
    generalize bA (D ++ 58 :: R) = C at *
    generalize M.sx (M.val 10 D) 0 R = T at *
    clear hgl hn hd h48 hf hU hD58 hll hsz hg hR
    go_enter Tryz.func45, Tryz.ntmps45
    go_wp2_with fail
    refine (c1 _ he).mono ?_
    rintro r w1 ⟨rfl, hb1⟩
    go_wp2
    go_ret
    exact ⟨rfl, hb1⟩
end Go.Proofs.YtipgipgehnhgkaaGreatDoor

namespace Go.Proofs.YtipgipgehnhgkaaGreatDoor
open Go.RowKit

/-- The number that a text says, by its form. -/
def zOf (l : List UInt8) : Int := M.sgn (M.isNeg l) (M.num (M.body l))
set_option maxRecDepth 100000 in
set_option maxHeartbeats 1000000 in
theorem of_yes (s : ByteArray) (w : World) (he : Env w) (hs : s.size ≤ 990) (hf : M.form s.data.toList ≠ 0) :
    Calls Tryz.prog 22 #[.string s] w fun e w' => e = .returned (.tuple #[.string (tx (zOf s.data.toList)), .bool true]) ∧ Below w.heap.size w w' := by
  have hl := M.body_len s.data.toList
  rw [← sz_list] at hl
  obtain ⟨D, hD, hv, hDs, c4⟩ := said_any (M.body s.data.toList) (by omega) hf
  have c1 := form_any s w (by omega)
  have c2 := isplit_any s w (by omega)
  have c3 := rep_any (bA (M.body s.data.toList)) w he (by rw [bA_size]; omega)
  rw [bA_toList] at c3
  have c5 := fun W => norm_yes (M.isNeg s.data.toList) D W (by omega) hD
  rw [hv] at c5
  rw [show M.fB (M.body s.data.toList) = M.form s.data.toList from rfl] at c4
  unfold zOf
  have hfd : ((M.form s.data.toList : Int) == 0) = false := beq_eq_false_iff_ne.2 (by omega)
  generalize M.form s.data.toList = F at *
  generalize tx (M.sgn (M.isNeg s.data.toList) (M.num (M.body s.data.toList))) = Z at *
  generalize bA (M.body s.data.toList) = B at *
  generalize bA (M.gone (M.body s.data.toList)) = G at *
  generalize M.isNeg s.data.toList = N at *
  clear hD hv hDs hl hf
  go_enter Tryz.func22, Tryz.ntmps22
  go_wp2_with fail
  refine c1.mono ?_
  rintro r w' ⟨rfl, rfl⟩
  go_wp2_with fail
  refine c2.mono ?_
  rintro r w' ⟨rfl, rfl⟩
  go_wp2_with fail
  refine c3.mono ?_
  rintro r w1 ⟨rfl, hb1⟩
  go_wp2_with fail
  refine (c4 _ (he.next hb1)).mono ?_
  rintro r w2 ⟨rfl, hb2⟩
  go_wp2_with fail
  refine (c5 _).mono ?_
  rintro r w3 ⟨rfl, hb3⟩
  clear c1 c2 c3 c4 c5
  go_wp2
  go_ret2
  exact ⟨rfl, hb1.trans ((hb2.mono hb1.size).trans (hb3.mono (Nat.le_trans hb1.size hb2.size)))⟩
theorem of_no (s : ByteArray) (w : World) (hs : s.size ≤ 990) (hf : M.form s.data.toList = 0) :
    Calls Tryz.prog 22 #[.string s] w fun e w' => e = .returned (.tuple #[.string ⟨#[]⟩, .bool false]) ∧ w = w' := by
  have c1 := form_any s w (by omega)
  rw [hf] at c1
  clear hf
  go_enter Tryz.func22, Tryz.ntmps22
  go_wp2_with fail
  refine c1.mono ?_
  rintro r w' ⟨rfl, rfl⟩
  go_wp2
  go_ret2
  exact ⟨rfl, rfl⟩
end Go.Proofs.YtipgipgehnhgkaaGreatDoor
