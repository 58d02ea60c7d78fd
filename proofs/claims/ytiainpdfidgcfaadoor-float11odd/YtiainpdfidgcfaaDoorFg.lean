/- Walks: ReplaceAll, Cut and IndexAny off the shelf; worth, sixties, power. -/
import Derived.Test.YtiainpdfidgcfaaDoorFf
import Derived.Test.YtiainpdfidgcfaaDoorWo
import Derived.Test.YtiainpdfidgcfaaDoorYa
set_option linter.unusedVariables false
namespace Go.Proofs.YtiainpdfidgcfaaDoor
open Go.RowKit

/-- What the walks ask of the world: the table of powers of ten, and that the library's variable MaxLen holds some number. -/
def Env (w : World) : Prop := Tab w ∧ ∃ m, w.cell? ⟨0, 0, none⟩ = some (.int .i64 m)
theorem cell_lt {w : World} {v : Value} (h : w.cell? ⟨0, 0, none⟩ = some v) : 0 < w.heap.size := by
  rcases Nat.eq_zero_or_pos w.heap.size with h0 | h0
  · have : w.heap[0]? = none := Array.getElem?_eq_none (by omega)
    simp [World.cell?, this] at h
  · exact h0
theorem Env.next {w w' : World} (h : Env w) (hb : Below w.heap.size w w') : Env w' := by
  obtain ⟨h1, m, hm⟩ := h
  exact ⟨h1.next hb, m, (hb.cell (p := ⟨0, 0, none⟩) (cell_lt hm)).trans hm⟩
theorem env_new {w : World} (h : Env w) (o : Obj) : Env (w.alloc o) := h.next ((Below.refl w.heap.size w).alloc (Nat.le_refl _) o)


theorem Tryd.extra155 : Builder.Extra Tryd.prog Tryd.lays155_ren := {
  sizeBuilder := by kernel_rfl
  liesBuilder := by kernel_rfl
  t5 := Tryd.underlying5
  a5 := Tryd.isAgg5
  z5 := Tryd.sizeOf5
  v5 := Tryd.zeroValue5
  infoByte := by kernel_rfl
  cellsByte := by kernel_rfl
  sizeByte := by kernel_rfl
  neB5 := by decide }
theorem rep_any (s : ByteArray) (w : World) (he : Env w) (hs : s.size ≤ 1000) :
    Calls Tryd.prog 10 #[.string s, .string ⟨#[95]⟩, .string ⟨#[]⟩] w fun e w' => e = .returned (.string (bA (M.gone s.data.toList))) ∧ Below w.heap.size w w' := by
  obtain ⟨_, m, hm⟩ := he
  have h := Any.strings_ReplaceAll Tryd.lays155 Tryd.extra155 s ⟨#[95]⟩ ⟨#[]⟩ m w (by omega) hm (by decide) (by show s.size + _ * 0 ≤ _; omega)
  refine h.mono ?_
  rintro e w' ⟨rfl, hb⟩
  refine ⟨ret_str ?_, hb⟩
  show bA (Lib.replaceAll s.data.toList [95] []) = _
  rw [M.replace_gone]
theorem cut58_any (l P r : List UInt8) (b : Bool) (w : World) (he : Env w) (hs : l.length ≤ 1000) (hc : Lib.cut l [58] = (P, r, b)) :
    Calls Tryd.prog 11 #[.string (bA l), .string ⟨#[58]⟩] w fun e w' => e = .returned (.tuple #[.string (bA P), .string (bA r), .bool b]) ∧ Below w.heap.size w w' := by
  obtain ⟨_, m, hm⟩ := he
  have h := Any.strings_Cut Tryd.lays145 (bA l) ⟨#[58]⟩ m w (by rw [bA_size]; omega) hm
  refine h.mono ?_
  rintro e w' ⟨rfl, n, rfl⟩
  refine ⟨?_, below_dN (Below.refl _ _) n⟩
  rw [bA_toList]
  show Ending.returned (.tuple #[.string (bA (Lib.cut l [58]).1), .string (bA (Lib.cut l [58]).2.1), .bool (Lib.cut l [58]).2.2]) = _
  rw [hc]

set_option maxRecDepth 100000 in
set_option maxHeartbeats 1000000 in
theorem worth_any (s : ByteArray) (w : World) (h : M.pr s.data.toList = true) :
    Calls Tryd.prog 21 #[.string s] w fun e w' => e = .returned (.int .i64 (M.val 10 s.data.toList : Nat)) ∧ w = w' := by
  obtain ⟨h1, h2, h3, h4, h5⟩ := M.pr_facts h
  have hd := ((M.okD_iff _ _).1 h1).2
  rw [← sz_list] at h2
  obtain ⟨R, hR⟩ : ∃ R, M.val 10 s.data.toList = R := ⟨_, rfl⟩
  rw [hR]
  have HR := Lib.hid hR
  have HD := Lib.hid hd
  clear hR h h1 h3 h4 h5 hd
  go_enter Tryd.func21, Tryd.ntmps21
  go_wp2
  go_loop [3, 7] (fun nv iv => ∃ k n : Nat, iv = .int .i64 k ∧ nv = .int .i64 n ∧ k ≤ s.size ∧ n < 1000 ∧ Hid (M.val 10 (s.data.toList.take k) = n)) (fun _ iv => s.size - (intOf iv).toNat)
  case atStart => exact ⟨0, 0, rfl, rfl, Nat.zero_le _, by omega, rfl⟩
  case round =>
    obtain ⟨k, n, rfl, rfl, hk, hn, hst⟩ := hrel
    by_cases hlt : k < s.size
    · have hltd : decide (k < s.size) = true := by simpa using hlt
      have hdv : M.dv s[k] < 10 := (M.allD_iff _ _).1 HD.out _ (List.mem_of_getElem? (get_list s k hlt))
      obtain ⟨g1, g2, g3⟩ := M.dv_lt10 hdv
      have hvs := M.val_snoc 10 (s.data.toList.take k) s[k]
      rw [← take_snoc s k hlt, hst.out, g3] at hvs
      have hal : M.allD 10 (s.data.toList.take (k + 1)) = true := by
        rw [M.allD_iff]; intro c hc; exact (M.allD_iff _ _).1 HD.out c (List.mem_of_mem_take hc)
      have hvl := M.val_lt 10 _ hal
      have hle : (s.data.toList.take (k + 1)).length ≤ 2 := by rw [List.length_take]; omega
      have hvl2 : M.val 10 (s.data.toList.take (k + 1)) < 100 := Nat.lt_of_lt_of_le hvl (Nat.pow_le_pow_right (by omega) hle)
      rw [hvs] at hvl2
      have HS := Lib.hid hvs
      clear hvs hvl hdv g3 hst hal hle
      obtain ⟨m, hm⟩ : ∃ m, s[k].toNat = 48 + m := ⟨s[k].toNat - 48, by omega⟩
      rw [hm, Nat.add_sub_cancel_left] at hvl2 HS
      rw [hm] at g1 g2
      go_wp2
      go_round
      case rel => exact ⟨k + 1, n * 10 + m, by go_num, by go_num, by omega, by omega, HS.out⟩
      case measure => simp [intOf]; omega
    · obtain rfl : k = s.size := by omega
      have hltd : decide (s.size < s.size) = false := by simp
      have h1 := hst.out
      rw [take_all, HR.out] at h1
      subst h1
      clear hst
      go_wp2
      go_ret
      exact ⟨rfl, rfl⟩

theorem dec_tx (D : List UInt8) (hd : M.okD 10 D = true) (h48 : D.head? ≠ some 48) : bA D = tx (M.val 10 D : Nat) := by
  obtain ⟨_, h⟩ := M.dg_of D hd ⟨((M.okD_iff _ _).1 hd).1, h48⟩
  unfold tx
  rw [M.txt_nat, ← h]
theorem txt_le {a T E : Nat} (h : a ≤ T) (hT : T < 10 ^ E) (hE : 0 < E) : (M.txt (a : Int)).length ≤ E + 1 := by
  refine M.txt_len _ E hE ?_
  show a < _
  omega
/-- What holds ahead of each round of sixties. -/
def SRel (w : World) (T a m k : Nat) (R : List UInt8) (wr : World) : Prop :=
  (R = [] ∨ M.fS 1 R = 6) ∧ M.rd (a * m + k) R = T ∧ Below w.heap.size w wr
theorem mk_step {a m k v : Nat} : (a * m + k) * 60 + v = a * (m * 60) + (k * 60 + v) := by
  rw [Nat.add_mul, Nat.mul_assoc, Nat.add_assoc]
set_option maxRecDepth 100000 in
set_option maxHeartbeats 2000000 in
theorem fsix_any (D R : List UInt8) (w : World) (he : Env w) (hd : M.okD 10 D = true) (hR : M.fS 1 R = 6) (hl : D.length + R.length ≤ 990) :
    Calls Tryd.prog 12 #[.string (bA (D ++ 58 :: R))] w fun e w' => e = .returned (.string (tx (M.sx (M.val 10 D) 0 R : Nat))) ∧ Below w.heap.size w w' := by
  have hT := M.six_lt D R ((M.okD_iff _ _).1 hd).2
  have hD58 : ∀ c ∈ D, c ≠ 58 := fun c hc => M.ne58 ((M.allD_iff _ _).1 ((M.okD_iff _ _).1 hd).2 c hc) (by omega)
  have hRne : R ≠ [] := by intro e; rw [e] at hR; cases hR
  have h0 : M.rd (M.val 10 D * 1 + 0) R = M.sx (M.val 10 D) 0 R := by unfold M.rd; rw [if_neg hRne, Nat.mul_one, Nat.add_zero]
  obtain ⟨T, hTe⟩ : ∃ T, M.sx (M.val 10 D) 0 R = T := ⟨_, rfl⟩
  obtain ⟨E, hE⟩ : ∃ E, D.length + 2 + 3 * R.length = E := ⟨_, rfl⟩
  have hE5 : 0 < E ∧ E ≤ 5000 := by omega
  rw [hTe] at h0 hT ⊢
  rw [hE] at hT
  have c1 := cut58_any (D ++ 58 :: R) D R true w he (by simp; omega) (M.cut_yes 58 D R hD58)
  have cN := fun W => norm_yes false (bA D) W (by rw [bA_size]; omega) (by rw [bA_toList]; exact hd)
  rw [bA_toList, show M.sgn false (M.val 10 D) = ((M.val 10 D : Nat) : Int) from rfl] at cN
  generalize M.val 10 D = a0 at *
  have HT := Lib.hid hT
  have H0 := Lib.hid h0
  have HR := Lib.hid hR
  have hRl : R.length ≤ 1000 := by omega
  clear hT h0 hR hTe hE hRne hD58 hd hl
  generalize bA D = BD0 at *
  generalize bA (D ++ 58 :: R) = B at *
  go_enter Tryd.func12, Tryd.ntmps12
  go_wp2_with fail
  refine c1.mono ?_
  rintro r w0 ⟨rfl, hb0⟩
  clear c1
  go_wp2_with fail
  refine (cN _).mono ?_
  rintro r w1 ⟨rfl, hbN⟩
  have hb1 : Below w.heap.size w w1 := hb0.trans (hbN.mono hb0.size)
  clear cN hb0 hbN
  go_wp2_with fail
  go_loopw [3, 4, 6, 7] (fun nv rv mv kv wr => ∃ (a m k : Nat) (R : List UInt8), nv = .string (tx (a : Int)) ∧ rv = .string (bA R) ∧ mv = .int .i64 (m : Int) ∧ kv = .int .i64 (k : Int) ∧ 1 ≤ m ∧ m * 60 ≤ 1099511627776 ∧ k < m ∧ R.length ≤ 1000 ∧ SRel w T a m k R wr) (fun _ rv _ _ _ => match rv with | .string t => t.size | _ => 0)
  case atStart => exact ⟨a0, 1, 0, R, rfl, rfl, rfl, rfl, by omega, by omega, by omega, hRl, Or.inr HR.out, H0.out, hb1⟩
  case round =>
    clear HR H0 hRl
    obtain ⟨a, m, k, S, rfl, rfl, rfl, rfl, hm1, hm60, hkm, hRl, hR, hrd, hbw⟩ := hrel
    have haT : a ≤ T := by
      have h1 := M.rd_ge (a * m + k) S
      rw [hrd] at h1
      have h2 : a * 1 ≤ a * m := Nat.mul_le_mul_left a hm1
      omega
    rcases hR with rfl | hR
    · have hlen := txt_le haT HT.out hE5.1
      have c2 := fun W => mulAdd_yes a m k W (by omega) (by omega) (by omega)
      have hv : a * m + k = T := by rw [← hrd]; rfl
      rw [hv] at c2
      clear hv hrd hlen haT
      generalize tx (a : Int) = A at *
      rw [show bA [] = ⟨#[]⟩ from rfl]
      go_wp2_with fail
      refine (c2 _).mono ?_
      rintro r w2 ⟨rfl, hb2⟩
      go_wp2
      go_ret
      exact ⟨rfl, hbw.trans (hb2.mono hbw.size)⟩
    · obtain ⟨P, r, b, hcut, hp, hr, hlr, hstep⟩ := M.step_six S hR
      have c2 := cut58_any S P r b wr (he.next hbw) hRl hcut
      have c3 := fun W => worth_any (bA P) W (by rw [bA_toList]; exact hp)
      rw [bA_toList] at c3
      have hv60 := (M.pr_facts hp).2.2.2.1
      have hrd2 := hstep (a * m + k)
      rw [hrd, mk_step] at hrd2
      have hRs : (bA S).size = S.length := bA_size S
      have hrs : (bA r).size = r.length := bA_size r
      have hne : ((bA S).toList == []) = false := by
        rw [ByteArray.toList_eq, bA_toList]
        cases S with
        | nil => cases hR
        | cons c q => rfl
      have hne2 : (bA S).toList.isEmpty = false := by
        rw [ByteArray.toList_eq, bA_toList]
        cases S with
        | nil => cases hR
        | cons c q => rfl
      have HRD := Lib.hid hrd2.symm
      have HR2 := Lib.hid hr
      have HRs := Lib.hid hRs
      have HLR := Lib.hid hlr
      generalize M.val 10 P = v at *
      have hlen := txt_le haT HT.out hE5.1
      clear hrd2 hr hcut hp hstep hR hrd hRs
      generalize hBP : bA P = BP at *
      by_cases hgt : 1099511627776 < m * 60 * 60
      · have hgd : decide ((1099511627776 : Int) < (m : Int) * 60 * 60) = true := by simp; omega
        have c4 := fun W => mulAdd_yes a (m * 60) (k * 60 + v) W (by omega) (by omega) (by omega)
        have e4 : ((k * 60 + v : Nat) : Int) = (k : Int) * 60 + (v : Int) := by omega
        have e5 : ((m * 60 : Nat) : Int) = (m : Int) * 60 := by omega
        rw [e4, e5] at c4
        clear e4 e5 hBP haT hlen
        generalize tx (a : Int) = A at *
        generalize hBR : bA S = BR at *
        go_wp2_with fail
        refine c2.mono ?_
        rintro r w2 ⟨rfl, hb2⟩
        clear c2
        go_wp2_with fail
        refine (c3 _).mono ?_
        rintro r w' ⟨rfl, rfl⟩
        clear c3
        go_wp2_with fail
        refine (c4 _).mono ?_
        rintro r w3 ⟨rfl, hb3⟩
        clear c4
        go_wp2
        have hbz := hbw.trans ((hb2.mono hbw.size).trans (hb3.mono (Nat.le_trans hbw.size hb2.size)))
        go_roundw
        case rel => exact ⟨_, 1, 0, _, rfl, rfl, rfl, rfl, by omega, by omega, by omega, by have := HLR.out; omega, HR2.out, by rw [Nat.mul_one, Nat.add_zero]; exact HRD.out, hbz⟩
        case measure => have := HLR.out; have := HRs.out; simp only; omega
      · have hgd : decide ((1099511627776 : Int) < (m : Int) * 60 * 60) = false := by simp; omega
        clear hBP haT hlen
        generalize hA : tx (a : Int) = A at *
        have HA := Lib.hid hA
        clear hA
        generalize hBR : bA S = BR at *
        go_wp2_with fail
        refine c2.mono ?_
        rintro r w2 ⟨rfl, hb2⟩
        clear c2
        go_wp2_with fail
        refine (c3 _).mono ?_
        rintro r w' ⟨rfl, rfl⟩
        clear c3
        go_wp2
        have hbz := hbw.trans (hb2.mono hbw.size)
        go_roundw
        case rel => exact ⟨a, m * 60, k * 60 + v, _, by rw [HA.out], rfl, by go_num, by go_num, by omega, by omega, by omega, by have := HLR.out; omega, HR2.out, HRD.out, hbz⟩
        case measure => have := HLR.out; have := HRs.out; simp only; omega

theorem cut46_any (l P r : List UInt8) (b : Bool) (w : World) (he : Env w) (hs : l.length ≤ 1000) (hc : Lib.cut l [46] = (P, r, b)) :
    Calls Tryd.prog 11 #[.string (bA l), .string ⟨#[46]⟩] w fun e w' => e = .returned (.tuple #[.string (bA P), .string (bA r), .bool b]) ∧ Below w.heap.size w w' := by
  obtain ⟨_, m, hm⟩ := he
  have h := Any.strings_Cut Tryd.lays145 (bA l) ⟨#[46]⟩ m w (by rw [bA_size]; omega) hm
  refine h.mono ?_
  rintro e w' ⟨rfl, n, rfl⟩
  refine ⟨?_, below_dN (Below.refl _ _) n⟩
  rw [bA_toList]
  show Ending.returned (.tuple #[.string (bA (Lib.cut l [46]).1), .string (bA (Lib.cut l [46]).2.1), .bool (Lib.cut l [46]).2.2]) = _
  rw [hc]
theorem anyE_no (l : List UInt8) (h : ∀ c ∈ l, c ≠ 101 ∧ c ≠ 69) : Lib.indexAny l [101, 69] = -1 := by
  induction l with
  | nil => rfl
  | cons b l ih =>
    have hb := h b (by simp)
    unfold Lib.indexAny
    rw [if_neg (by simp [hb.1, hb.2]), ih (fun c hc => h c (by simp [hc]))]
    rfl
theorem anyE_yes (Q r : List UInt8) (e : UInt8) (he : e = 101 ∨ e = 69) (h : ∀ c ∈ Q, c ≠ 101 ∧ c ≠ 69) : Lib.indexAny (Q ++ e :: r) [101, 69] = (Q.length : Nat) := by
  induction Q with
  | nil => rw [List.nil_append]; unfold Lib.indexAny; rw [if_pos (by simpa using he)]; rfl
  | cons b l ih =>
    have hb := h b (by simp)
    rw [List.cons_append]
    unfold Lib.indexAny
    rw [if_neg (by simp [hb.1, hb.2]), ih (fun c hc => h c (by simp [hc])), if_neg (by simp)]
    simp
theorem anyE_any (l : List UInt8) (w : World) (hs : l.length ≤ 1000) (h : ∀ c ∈ l, c.toNat < 128) :
    Calls Tryd.prog 17 #[.string (bA l), .string ⟨#[101, 69]⟩] w fun e w' => e = .returned (.int .i64 (Lib.indexAny l [101, 69])) ∧ Below w.heap.size w w' := by
  have := Any.strings_IndexAny_laid Tryd.lays153 (by kernel_rfl) (bA l) ⟨#[101, 69]⟩ w (by rw [bA_size]; omega) (by decide) (fun j b hj => h b (by rw [bA_toList] at hj; exact List.mem_of_getElem? hj)) (fun j b hj => by
    match j, hj with
    | 0, hj => simp at hj; subst hj; decide
    | 1, hj => simp at hj; subst hj; decide
    | n + 2, hj => simp at hj)
  rw [bA_toList] at this
  exact this
end Go.Proofs.YtiainpdfidgcfaaDoor
