/- Walks: float11's split, Form, Is. Walks: ReplaceAll, Cut and IndexAny off the shelf; worth, sixties, power. Walk of float11's power. Walk of float11's Of. -/
import Derived.Test.YtipgipgehnhgkaaGreatDoorBf
import Derived.Test.YtipgipgehnhgkaaGreatDoorBd
import Derived.Test.YtipgipgehnhgkaaGreatDoorBg
import Derived.Test.YtipgipgehnhgkaaGreatDoorBb
import Derived.Test.YtipgipgehnhgkaaGreatDoorBe
import Derived.Deep.RegionHeld3
set_option linter.unusedVariables false
namespace Go.Proofs.YtipgipgehnhgkaaGreatDoor
open Go.RowKit

set_option maxRecDepth 100000 in
theorem fsplit_any (s : ByteArray) (w : World) (hs : s.size ≤ 1000000) :
    Calls Tryz.prog 48 #[.string s] w fun e w' => e = .returned (.tuple #[.bool (M.isNeg s.data.toList), .string (bA (M.body s.data.toList))]) ∧ w = w' := by
  have c1 := fun W => cut_any s W hs
  have c2 := fun W => trimP_any s W hs
  by_cases h : M.isNeg s.data.toList = true
  · have hb : M.body s.data.toList = M.unsign s.data.toList := by unfold M.body; rw [if_pos h]
    rw [hb]
    rw [h] at c1 ⊢
    clear h hb
    generalize bA (M.unsign s.data.toList) = U at *
    go_enter Tryz.func48, Tryz.ntmps48
    go_wp2_with fail
    refine (c1 _).mono ?_
    rintro r w' ⟨rfl, rfl⟩
    go_wp2
    go_ret2
    exact ⟨rfl, rfl⟩
  · have hb : M.body s.data.toList = M.unplus s.data.toList := by unfold M.body; rw [if_neg h]
    rw [hb]
    rw [show M.isNeg s.data.toList = false by simpa using h] at c1 ⊢
    clear h hb
    generalize bA (M.unsign s.data.toList) = U at *
    generalize bA (M.unplus s.data.toList) = V at *
    go_enter Tryz.func48, Tryz.ntmps48
    go_wp2_with fail
    refine (c1 _).mono ?_
    rintro r w' ⟨rfl, rfl⟩
    go_wp2_with fail
    refine (c2 _).mono ?_
    rintro r w' ⟨rfl, rfl⟩
    go_wp2
    go_ret2
    exact ⟨rfl, rfl⟩
theorem beq_list {s : ByteArray} {l : List UInt8} (h : s.data.toList ≠ l) : (s.toList == l) = false := by
  rw [ByteArray.toList_eq]; exact beq_eq_false_iff_ne.2 h
theorem ba_of {s : ByteArray} {l : List UInt8} (h : s.data.toList = l) : s = ⟨l.toArray⟩ := eq_bA h
set_option maxRecDepth 100000 in
theorem form_nan0 (w : World) : Calls Tryz.prog 47 #[.string ⟨#[46, 110, 97, 110]⟩] w fun e w' => e = .returned (.int .i64 5) ∧ w = w' := by
  go_enter Tryz.func47, Tryz.ntmps47
  go_wp2
  go_ret
  exact ⟨rfl, rfl⟩
set_option maxRecDepth 100000 in
theorem form_nan1 (w : World) : Calls Tryz.prog 47 #[.string ⟨#[46, 78, 97, 78]⟩] w fun e w' => e = .returned (.int .i64 5) ∧ w = w' := by
  go_enter Tryz.func47, Tryz.ntmps47
  go_wp2
  go_ret
  exact ⟨rfl, rfl⟩
set_option maxRecDepth 100000 in
theorem form_nan2 (w : World) : Calls Tryz.prog 47 #[.string ⟨#[46, 78, 65, 78]⟩] w fun e w' => e = .returned (.int .i64 5) ∧ w = w' := by
  go_enter Tryz.func47, Tryz.ntmps47
  go_wp2
  go_ret
  exact ⟨rfl, rfl⟩
set_option maxRecDepth 100000 in
set_option maxHeartbeats 1000000 in
theorem form_inf (s : ByteArray) (U : ByteArray) (w : World) (n : Bool) (hs : s.size ≤ 1000) (h : s.data.toList ∉ M.nans) (hb : bA (M.body s.data.toList) = U) (hU : U = ⟨#[46, 105, 110, 102]⟩ ∨ U = ⟨#[46, 73, 110, 102]⟩ ∨ U = ⟨#[46, 73, 78, 70]⟩) : Calls Tryz.prog 47 #[.string s] w fun e w' => e = .returned (.int .i64 4) ∧ w = w' := by
  have c1 := fsplit_any s w (by omega)
  rw [hb] at c1
  generalize M.isNeg s.data.toList = N at *
  simp only [M.nans, List.mem_cons, List.not_mem_nil, or_false, not_or] at h
  have e1 := beq_list h.1
  have e2 := beq_list h.2.1
  have e3 := beq_list h.2.2
  clear h hb
  rcases hU with rfl | rfl | rfl
  all_goals
    go_enter Tryz.func47, Tryz.ntmps47
    go_wp2_with fail
    refine c1.mono ?_
    rintro r w' ⟨rfl, rfl⟩
    go_wp2
    go_ret
    exact ⟨rfl, rfl⟩
set_option maxRecDepth 100000 in
set_option maxHeartbeats 1000000 in
theorem form_dig (s : ByteArray) (U : ByteArray) (w : World) (hs : s.size ≤ 1000) (h : s.data.toList ∉ M.nans) (hb : bA (M.body s.data.toList) = U) (hU : U.data.toList ∉ M.infs) : Calls Tryz.prog 47 #[.string s] w fun e w' => e = .returned (.int .i64 (M.fl U.data.toList : Nat)) ∧ w = w' := by
  have c1 := fsplit_any s w (by omega)
  have hUs : U.size ≤ 1000 := by
    rw [← hb, bA_size]; have := M.body_len s.data.toList; rw [← sz_list] at this; omega
  have c2 := fun W => ofD_any U W hUs
  rw [hb] at c1
  generalize M.isNeg s.data.toList = N at *
  generalize M.fl U.data.toList = F at *
  simp only [M.nans, List.mem_cons, List.not_mem_nil, or_false, not_or] at h
  simp only [M.infs, List.mem_cons, List.not_mem_nil, or_false, not_or] at hU
  have e1 := beq_list h.1
  have e2 := beq_list h.2.1
  have e3 := beq_list h.2.2
  have g1 := beq_list hU.1
  have g2 := beq_list hU.2.1
  have g3 := beq_list hU.2.2
  clear h hb hU
  go_enter Tryz.func47, Tryz.ntmps47
  go_wp2_with fail
  refine c1.mono ?_
  rintro r w' ⟨rfl, rfl⟩
  go_wp2_with fail
  refine (c2 _).mono ?_
  rintro r w' ⟨rfl, rfl⟩
  go_wp2
  go_ret
  exact ⟨rfl, rfl⟩
theorem flo_any (s : ByteArray) (w : World) (hs : s.size ≤ 1000) : Calls Tryz.prog 47 #[.string s] w fun e w' => e = .returned (.int .i64 (M.flo s.data.toList : Nat)) ∧ w = w' := by
  unfold M.flo
  by_cases h : s.data.toList ∈ M.nans
  · rw [if_pos h]
    simp only [M.nans, List.mem_cons, List.not_mem_nil, or_false] at h
    rcases h with h | h | h
    · rw [ba_of h]; exact form_nan0 w
    · rw [ba_of h]; exact form_nan1 w
    · rw [ba_of h]; exact form_nan2 w
  · rw [if_neg h]
    by_cases hi : M.body s.data.toList ∈ M.infs
    · rw [if_pos hi]
      refine form_inf s _ w (M.isNeg s.data.toList) hs h rfl ?_
      simp only [M.infs, List.mem_cons, List.not_mem_nil, or_false] at hi
      rcases hi with hi | hi | hi
      · exact Or.inl (congrArg bA hi)
      · exact Or.inr (Or.inl (congrArg bA hi))
      · exact Or.inr (Or.inr (congrArg bA hi))
    · rw [if_neg hi]
      have := form_dig s _ w hs h rfl (by rw [bA_toList]; exact hi)
      rwa [bA_toList] at this
end Go.Proofs.YtipgipgehnhgkaaGreatDoor

namespace Go.Proofs.YtipgipgehnhgkaaGreatDoor
open Go.RowKit

/-- What the walks ask of the world: the table of powers of ten, and that the library's variable MaxLen holds some number. -/
def Env (w : World) : Prop := Tab w ∧ ∃ m, w.cell? ⟨0, 0, none⟩ = some (.int .i64 m)
theorem cell_lt {w : World} {v : Value} (h : w.cell? ⟨0, 0, none⟩ = some v) : 0 < w.heap.size := by
  rcases Nat.eq_zero_or_pos w.heap.size with h0 | h0
  · have : w.heap[0]? = none := Array.getElem?_eq_none (by omega)
    simp [World.cell?, this] at h
  · exact h0
theorem Env.next {w w' : World} (h : Env w) (hb : Below w.heap.size w w') : Env w' := by
  obtain ⟨h1, m, hm⟩ := h
  exact ⟨h1.next hb, m, (hb.cell (p := ⟨0, 0, none⟩) (cell_lt hm)).trans hm⟩
theorem env_new {w : World} (h : Env w) (o : Obj) : Env (w.alloc o) := h.next ((Below.refl w.heap.size w).alloc (Nat.le_refl _) o)


theorem Tryz.extra155 : Builder.Extra Tryz.prog Tryz.lays155_ren := {
  sizeBuilder := by kernel_rfl
  liesBuilder := by kernel_rfl
  t5 := Tryz.underlying5
  a5 := Tryz.isAgg5
  z5 := Tryz.sizeOf5
  v5 := Tryz.zeroValue5
  infoByte := by kernel_rfl
  cellsByte := by kernel_rfl
  sizeByte := by kernel_rfl
  neB5 := by decide }
theorem rep_any (s : ByteArray) (w : World) (he : Env w) (hs : s.size ≤ 1000) :
    Calls Tryz.prog 46 #[.string s, .string ⟨#[95]⟩, .string ⟨#[]⟩] w fun e w' => e = .returned (.string (bA (M.gone s.data.toList))) ∧ Below w.heap.size w w' := by
  obtain ⟨_, m, hm⟩ := he
  have h := Any.strings_ReplaceAll Tryz.lays155 Tryz.extra155 s ⟨#[95]⟩ ⟨#[]⟩ m w (by omega) hm (by decide) (by show s.size + _ * 0 ≤ _; omega)
  refine h.mono ?_
  rintro e w' ⟨rfl, hb⟩
  refine ⟨ret_str ?_, hb⟩
  show bA (Lib.replaceAll s.data.toList [95] []) = _
  rw [M.replace_gone]
theorem cut58_any (l P r : List UInt8) (b : Bool) (w : World) (he : Env w) (hs : l.length ≤ 1000) (hc : Lib.cut l [58] = (P, r, b)) :
    Calls Tryz.prog 50 #[.string (bA l), .string ⟨#[58]⟩] w fun e w' => e = .returned (.tuple #[.string (bA P), .string (bA r), .bool b]) ∧ Below w.heap.size w w' := by
  obtain ⟨_, m, hm⟩ := he
  have h := Any.strings_Cut Tryz.lays145 (bA l) ⟨#[58]⟩ m w (by rw [bA_size]; omega) hm
  refine h.mono ?_
  rintro e w' ⟨rfl, n, rfl⟩
  refine ⟨?_, below_dN (Below.refl _ _) n⟩
  rw [bA_toList]
  show Ending.returned (.tuple #[.string (bA (Lib.cut l [58]).1), .string (bA (Lib.cut l [58]).2.1), .bool (Lib.cut l [58]).2.2]) = _
  rw [hc]

set_option maxRecDepth 100000 in
set_option maxHeartbeats 1000000 in
theorem worth_any (s : ByteArray) (w : World) (h : M.pr s.data.toList = true) :
    Calls Tryz.prog 95 #[.string s] w fun e w' => e = .returned (.int .i64 (M.val 10 s.data.toList : Nat)) ∧ w = w' := by
  obtain ⟨h1, h2, h3, h4, h5⟩ := M.pr_facts h
  have hd := ((M.okD_iff _ _).1 h1).2
  rw [← sz_list] at h2
  obtain ⟨R, hR⟩ : ∃ R, M.val 10 s.data.toList = R := ⟨_, rfl⟩
  rw [hR]
  have HR := Lib.hid hR
  have HD := Lib.hid hd
  clear hR h h1 h3 h4 h5 hd
  go_enter Tryz.func95, Tryz.ntmps95
  go_wp2
  go_loop [3, 7] (fun nv iv => ∃ k n : Nat, iv = .int .i64 k ∧ nv = .int .i64 n ∧ k ≤ s.size ∧ n < 1000 ∧ Hid (M.val 10 (s.data.toList.take k) = n)) (fun _ iv => s.size - (intOf iv).toNat)
  case atStart => exact ⟨0, 0, rfl, rfl, Nat.zero_le _, by omega, rfl⟩
  case round =>
    obtain ⟨k, n, rfl, rfl, hk, hn, hst⟩ := hrel
    by_cases hlt : k < s.size
    · have hltd : decide (k < s.size) = true := by simpa using hlt
      have hdv : M.dv s[k] < 10 := (M.allD_iff _ _).1 HD.out _ (List.mem_of_getElem? (get_list s k hlt))
      obtain ⟨g1, g2, g3⟩ := M.dv_lt10 hdv
      have hvs := M.val_snoc 10 (s.data.toList.take k) s[k]
      rw [← take_snoc s k hlt, hst.out, g3] at hvs
      have hal : M.allD 10 (s.data.toList.take (k + 1)) = true := by
        rw [M.allD_iff]; intro c hc; exact (M.allD_iff _ _).1 HD.out c (List.mem_of_mem_take hc)
      have hvl := M.val_lt 10 _ hal
      have hle : (s.data.toList.take (k + 1)).length ≤ 2 := by rw [List.length_take]; omega
      have hvl2 : M.val 10 (s.data.toList.take (k + 1)) < 100 := Nat.lt_of_lt_of_le hvl (Nat.pow_le_pow_right (by omega) hle)
      rw [hvs] at hvl2
      have HS := Lib.hid hvs
      clear hvs hvl hdv g3 hst hal hle
      obtain ⟨m, hm⟩ : ∃ m, s[k].toNat = 48 + m := ⟨s[k].toNat - 48, by omega⟩
      rw [hm, Nat.add_sub_cancel_left] at hvl2 HS
      rw [hm] at g1 g2
      go_wp2
      go_round
      case rel => exact ⟨k + 1, n * 10 + m, by go_num, by go_num, by omega, by omega, HS.out⟩
      case measure => simp [intOf]; omega
    · obtain rfl : k = s.size := by omega
      have hltd : decide (s.size < s.size) = false := by simp
      have h1 := hst.out
      rw [take_all, HR.out] at h1
      subst h1
      clear hst
      go_wp2
      go_ret
      exact ⟨rfl, rfl⟩

theorem dec_tx (D : List UInt8) (hd : M.okD 10 D = true) (h48 : D.head? ≠ some 48) : bA D = tx (M.val 10 D : Nat) := by
  obtain ⟨_, h⟩ := M.dg_of D hd ⟨((M.okD_iff _ _).1 hd).1, h48⟩
  unfold tx
  rw [M.txt_nat, ← h]
theorem txt_le {a T E : Nat} (h : a ≤ T) (hT : T < 10 ^ E) (hE : 0 < E) : (M.txt (a : Int)).length ≤ E + 1 := by
  refine M.txt_len _ E hE ?_
  show a < _
  omega
/-- What holds ahead of each round of sixties. -/
def SRel (w : World) (T a m k : Nat) (R : List UInt8) (wr : World) : Prop :=
  (R = [] ∨ M.fS 1 R = 6) ∧ M.rd (a * m + k) R = T ∧ Below w.heap.size w wr
theorem mk_step {a m k v : Nat} : (a * m + k) * 60 + v = a * (m * 60) + (k * 60 + v) := by
  rw [Nat.add_mul, Nat.mul_assoc, Nat.add_assoc]
set_option maxRecDepth 100000 in
set_option maxHeartbeats 2000000 in
theorem fsix_any (D R : List UInt8) (w : World) (he : Env w) (hd : M.okD 10 D = true) (hR : M.fS 1 R = 6) (hl : D.length + R.length ≤ 990) :
    Calls Tryz.prog 51 #[.string (bA (D ++ 58 :: R))] w fun e w' => e = .returned (.string (tx (M.sx (M.val 10 D) 0 R : Nat))) ∧ Below w.heap.size w w' := by
  have hT := M.six_lt D R ((M.okD_iff _ _).1 hd).2
  have hD58 : ∀ c ∈ D, c ≠ 58 := fun c hc => M.ne58 ((M.allD_iff _ _).1 ((M.okD_iff _ _).1 hd).2 c hc) (by omega)
  have hRne : R ≠ [] := by intro e; rw [e] at hR; cases hR
  have h0 : M.rd (M.val 10 D * 1 + 0) R = M.sx (M.val 10 D) 0 R := by unfold M.rd; rw [if_neg hRne, Nat.mul_one, Nat.add_zero]
  obtain ⟨T, hTe⟩ : ∃ T, M.sx (M.val 10 D) 0 R = T := ⟨_, rfl⟩
  obtain ⟨E, hE⟩ : ∃ E, D.length + 2 + 3 * R.length = E := ⟨_, rfl⟩
  have hE5 : 0 < E ∧ E ≤ 5000 := by omega
  rw [hTe] at h0 hT ⊢
  rw [hE] at hT
  have c1 := cut58_any (D ++ 58 :: R) D R true w he (by simp; omega) (M.cut_yes 58 D R hD58)
  have cN := fun W => norm_yes false (bA D) W (by rw [bA_size]; omega) (by rw [bA_toList]; exact hd)
  rw [bA_toList, show M.sgn false (M.val 10 D) = ((M.val 10 D : Nat) : Int) from rfl] at cN
  generalize M.val 10 D = a0 at *
  have HT := Lib.hid hT
  have H0 := Lib.hid h0
  have HR := Lib.hid hR
  have hRl : R.length ≤ 1000 := by omega
  clear hT h0 hR hTe hE hRne hD58 hd hl
  generalize bA D = BD0 at *
  generalize bA (D ++ 58 :: R) = B at *
  go_enter Tryz.func51, Tryz.ntmps51
  go_wp2_with fail
  refine c1.mono ?_
  rintro r w0 ⟨rfl, hb0⟩
  clear c1
  go_wp2_with fail
  refine (cN _).mono ?_
  rintro r w1 ⟨rfl, hbN⟩
  have hb1 : Below w.heap.size w w1 := hb0.trans (hbN.mono hb0.size)
  clear cN hb0 hbN
  go_wp2_with fail
  go_loopw [3, 4, 6, 7] (fun nv rv mv kv wr => ∃ (a m k : Nat) (R : List UInt8), nv = .string (tx (a : Int)) ∧ rv = .string (bA R) ∧ mv = .int .i64 (m : Int) ∧ kv = .int .i64 (k : Int) ∧ 1 ≤ m ∧ m * 60 ≤ 1099511627776 ∧ k < m ∧ R.length ≤ 1000 ∧ SRel w T a m k R wr) (fun _ rv _ _ _ => match rv with | .string t => t.size | _ => 0)
  case atStart => exact ⟨a0, 1, 0, R, rfl, rfl, rfl, rfl, by omega, by omega, by omega, hRl, Or.inr HR.out, H0.out, hb1⟩
  case round =>
    clear HR H0 hRl
    obtain ⟨a, m, k, S, rfl, rfl, rfl, rfl, hm1, hm60, hkm, hRl, hR, hrd, hbw⟩ := hrel
    have haT : a ≤ T := by
      have h1 := M.rd_ge (a * m + k) S
      rw [hrd] at h1
      have h2 : a * 1 ≤ a * m := Nat.mul_le_mul_left a hm1
      omega
    rcases hR with rfl | hR
    · have hlen := txt_le haT HT.out hE5.1
      have c2 := fun W => mulAdd_yes a m k W (by omega) (by omega) (by omega)
      have hv : a * m + k = T := by rw [← hrd]; rfl
      rw [hv] at c2
      clear hv hrd hlen haT
      generalize tx (a : Int) = A at *
      rw [show bA [] = ⟨#[]⟩ from rfl]
      go_wp2_with fail
      refine (c2 _).mono ?_
      rintro r w2 ⟨rfl, hb2⟩
      go_wp2
      go_ret
      exact ⟨rfl, hbw.trans (hb2.mono hbw.size)⟩
    · obtain ⟨P, r, b, hcut, hp, hr, hlr, hstep⟩ := M.step_six S hR
      have c2 := cut58_any S P r b wr (he.next hbw) hRl hcut
      have c3 := fun W => worth_any (bA P) W (by rw [bA_toList]; exact hp)
      rw [bA_toList] at c3
      have hv60 := (M.pr_facts hp).2.2.2.1
      have hrd2 := hstep (a * m + k)
      rw [hrd, mk_step] at hrd2
      have hRs : (bA S).size = S.length := bA_size S
      have hrs : (bA r).size = r.length := bA_size r
      have hne : ((bA S).toList == []) = false := by
        rw [ByteArray.toList_eq, bA_toList]
        cases S with
        | nil => cases hR
        | cons c q => rfl
      have hne2 : (bA S).toList.isEmpty = false := by
        rw [ByteArray.toList_eq, bA_toList]
        cases S with
        | nil => cases hR
        | cons c q => rfl
      have HRD := Lib.hid hrd2.symm
      have HR2 := Lib.hid hr
      have HRs := Lib.hid hRs
      have HLR := Lib.hid hlr
      generalize M.val 10 P = v at *
      have hlen := txt_le haT HT.out hE5.1
      clear hrd2 hr hcut hp hstep hR hrd hRs
      generalize hBP : bA P = BP at *
      by_cases hgt : 1099511627776 < m * 60 * 60
      · have hgd : decide ((1099511627776 : Int) < (m : Int) * 60 * 60) = true := by simp; omega
        have c4 := fun W => mulAdd_yes a (m * 60) (k * 60 + v) W (by omega) (by omega) (by omega)
        have e4 : ((k * 60 + v : Nat) : Int) = (k : Int) * 60 + (v : Int) := by omega
        have e5 : ((m * 60 : Nat) : Int) = (m : Int) * 60 := by omega
        rw [e4, e5] at c4
        clear e4 e5 hBP haT hlen
        generalize tx (a : Int) = A at *
        generalize hBR : bA S = BR at *
        go_wp2_with fail
        refine c2.mono ?_
        rintro r w2 ⟨rfl, hb2⟩
        clear c2
        go_wp2_with fail
        refine (c3 _).mono ?_
        rintro r w' ⟨rfl, rfl⟩
        clear c3
        go_wp2_with fail
        refine (c4 _).mono ?_
        rintro r w3 ⟨rfl, hb3⟩
        clear c4
        go_wp2
        have hbz := hbw.trans ((hb2.mono hbw.size).trans (hb3.mono (Nat.le_trans hbw.size hb2.size)))
        go_roundw
        case rel => exact ⟨_, 1, 0, _, rfl, rfl, rfl, rfl, by omega, by omega, by omega, by have := HLR.out; omega, HR2.out, by rw [Nat.mul_one, Nat.add_zero]; exact HRD.out, hbz⟩
        case measure => have := HLR.out; have := HRs.out; simp only; omega
      · have hgd : decide ((1099511627776 : Int) < (m : Int) * 60 * 60) = false := by simp; omega
        clear hBP haT hlen
        generalize hA : tx (a : Int) = A at *
        have HA := Lib.hid hA
        clear hA
        generalize hBR : bA S = BR at *
        go_wp2_with fail
        refine c2.mono ?_
        rintro r w2 ⟨rfl, hb2⟩
        clear c2
        go_wp2_with fail
        refine (c3 _).mono ?_
        rintro r w' ⟨rfl, rfl⟩
        clear c3
        go_wp2
        have hbz := hbw.trans (hb2.mono hbw.size)
        go_roundw
        case rel => exact ⟨a, m * 60, k * 60 + v, _, by rw [HA.out], rfl, by go_num, by go_num, by omega, by omega, by omega, by have := HLR.out; omega, HR2.out, HRD.out, hbz⟩
        case measure => have := HLR.out; have := HRs.out; simp only; omega

theorem cut46_any (l P r : List UInt8) (b : Bool) (w : World) (he : Env w) (hs : l.length ≤ 1000) (hc : Lib.cut l [46] = (P, r, b)) :
    Calls Tryz.prog 50 #[.string (bA l), .string ⟨#[46]⟩] w fun e w' => e = .returned (.tuple #[.string (bA P), .string (bA r), .bool b]) ∧ Below w.heap.size w w' := by
  obtain ⟨_, m, hm⟩ := he
  have h := Any.strings_Cut Tryz.lays145 (bA l) ⟨#[46]⟩ m w (by rw [bA_size]; omega) hm
  refine h.mono ?_
  rintro e w' ⟨rfl, n, rfl⟩
  refine ⟨?_, below_dN (Below.refl _ _) n⟩
  rw [bA_toList]
  show Ending.returned (.tuple #[.string (bA (Lib.cut l [46]).1), .string (bA (Lib.cut l [46]).2.1), .bool (Lib.cut l [46]).2.2]) = _
  rw [hc]
theorem anyE_no (l : List UInt8) (h : ∀ c ∈ l, c ≠ 101 ∧ c ≠ 69) : Lib.indexAny l [101, 69] = -1 := by
  induction l with
  | nil => rfl
  | cons b l ih =>
    have hb := h b (by simp)
    unfold Lib.indexAny
    rw [if_neg (by simp [hb.1, hb.2]), ih (fun c hc => h c (by simp [hc]))]
    rfl
theorem anyE_yes (Q r : List UInt8) (e : UInt8) (he : e = 101 ∨ e = 69) (h : ∀ c ∈ Q, c ≠ 101 ∧ c ≠ 69) : Lib.indexAny (Q ++ e :: r) [101, 69] = (Q.length : Nat) := by
  induction Q with
  | nil => rw [List.nil_append]; unfold Lib.indexAny; rw [if_pos (by simpa using he)]; rfl
  | cons b l ih =>
    have hb := h b (by simp)
    rw [List.cons_append]
    unfold Lib.indexAny
    rw [if_neg (by simp [hb.1, hb.2]), ih (fun c hc => h c (by simp [hc])), if_neg (by simp)]
    simp
theorem anyE_any (l : List UInt8) (w : World) (hs : l.length ≤ 1000) (h : ∀ c ∈ l, c.toNat < 128) :
    Calls Tryz.prog 93 #[.string (bA l), .string ⟨#[101, 69]⟩] w fun e w' => e = .returned (.int .i64 (Lib.indexAny l [101, 69])) ∧ Below w.heap.size w w' := by
  have := Any.strings_IndexAny_laid Tryz.lays153 (by kernel_rfl) (bA l) ⟨#[101, 69]⟩ w (by rw [bA_size]; omega) (by decide) (fun j b hj => h b (by rw [bA_toList] at hj; exact List.mem_of_getElem? hj)) (fun j b hj => by
    match j, hj with
    | 0, hj => simp at hj; subst hj; decide
    | 1, hj => simp at hj; subst hj; decide
    | n + 2, hj => simp at hj)
  rw [bA_toList] at this
  exact this
end Go.Proofs.YtipgipgehnhgkaaGreatDoor

namespace Go.Proofs.YtipgipgehnhgkaaGreatDoor
open Go.RowKit

theorem liftB {f : FuncId} {args : Array Value} {W0 w : World} {R : Value} (c : Calls Tryz.prog f args w fun e w' => e = .returned R ∧ Below w.heap.size w w') (h : Below W0.heap.size W0 w) :
    Calls Tryz.prog f args w fun e w' => e = .returned R ∧ Below W0.heap.size W0 w' := c.mono fun _ _ k => ⟨k.1, h.trans (k.2.mono h.size)⟩
theorem dv_low {c : UInt8} (h : M.dv c < 10) : c.toNat < 128 := by have := (M.dv_lt10 h).2.1; omega
set_option maxRecDepth 100000 in
set_option maxHeartbeats 1000000 in
/-- What stands ahead of an e, and the power behind it. -/
theorem power_any (Q X : List UInt8) (z : Int) (w : World) (hl : Q.length + X.length ≤ 1000) (hQ : ∀ c ∈ Q, c ≠ 101 ∧ c ≠ 69 ∧ c.toNat < 128) (hX : M.tl X = some z) :
    Calls Tryz.prog 49 #[.string (bA (Q ++ X))] w fun e w' => e = .returned (.tuple #[.string (bA Q), .string (tx z)]) ∧ Below w.heap.size w w' := by
  cases X with
  | nil =>
    obtain rfl : z = 0 := by rw [M.tl] at hX; exact (Option.some.inj hX).symm
    rw [List.append_nil, tx0]
    have c1 := fun W => anyE_any Q W (by simp at hl; omega) (fun c hc => (hQ c hc).2.2)
    rw [anyE_no Q (fun c hc => ⟨(hQ c hc).1, (hQ c hc).2.1⟩)] at c1
    clear hX hQ hl
    generalize bA Q = B at *
    go_enter Tryz.func49, Tryz.ntmps49
    go_wp2_with fail
    refine (c1 _).mono ?_
    rintro r w1 ⟨rfl, hb1⟩
    clear c1
    go_wp2
    go_ret2
    exact ⟨rfl, hb1⟩
  | cons e r =>
    rw [M.tl] at hX
    by_cases he : e = 101 ∨ e = 69
    · rw [if_pos he] at hX
      cases r with
      | nil => rw [M.tlE] at hX; cases hX
      | cons g ds =>
        rw [M.tlE] at hX
        by_cases hg : (g = 43 ∨ g = 45) ∧ M.okD 10 ds = true
        · rw [if_pos hg] at hX
          obtain ⟨hg1, hd⟩ := hg
          have hz := Option.some.inj hX
          have hall := (M.allD_iff _ _).1 ((M.okD_iff _ _).1 hd).2
          have hlow : ∀ c ∈ Q ++ e :: g :: ds, c.toNat < 128 := by
            intro c hc
            rcases List.mem_append.1 hc with hc | hc
            · exact (hQ c hc).2.2
            · rcases List.mem_cons.1 hc with rfl | hc
              · rcases he with rfl | rfl <;> decide
              · rcases List.mem_cons.1 hc with rfl | hc
                · rcases hg1 with rfl | rfl <;> decide
                · exact dv_low (hall c hc)
          have c1 := fun W => anyE_any (Q ++ e :: g :: ds) W (by simp at hl ⊢; omega) hlow
          rw [anyE_yes Q (g :: ds) e he (fun c hc => ⟨(hQ c hc).1, (hQ c hc).2.1⟩)] at c1
          have c2 := fun W => fsplit_any (bA (g :: ds)) W (by rw [bA_size]; simp at hl ⊢; omega)
          rw [bA_toList] at c2
          have hsp : M.isNeg (g :: ds) = decide (g = 45) ∧ M.body (g :: ds) = ds := by
            rcases hg1 with rfl | rfl
            · exact head_43 rfl
            · exact head_45 rfl
          rw [hsp.1, hsp.2] at c2
          have c3 := fun W => norm_yes (decide (g = 45)) (bA ds) W (by rw [bA_size]; simp at hl; omega) (by rw [bA_toList]; exact hd)
          rw [bA_toList, hz] at c3
          have hx1 : (bA (Q ++ e :: g :: ds)).extract (Q.length + 1) (bA (Q ++ e :: g :: ds)).size = bA (g :: ds) := by
            apply eq_bA; rw [Lib.extract_to_end, bA_toList, show Q ++ e :: g :: ds = (Q ++ [e]) ++ g :: ds by simp]
            exact List.drop_left' (by simp)
          have hx2 : (bA (Q ++ e :: g :: ds)).extract 0 Q.length = bA Q := by
            apply eq_bA; rw [extract_take, bA_toList]; exact List.take_left' rfl
          have hsz : (bA (Q ++ e :: g :: ds)).size = Q.length + ds.length + 2 := by rw [bA_size]; simp; omega
          have hq : Q.length ≤ 1000 ∧ ds.length ≤ 1000 := by simp at hl; omega
          clear hX hz hall hlow hsp hl hg1 hd he hQ
          generalize decide (g = 45) = N at *
          generalize hBB : bA (Q ++ e :: g :: ds) = B at *
          generalize bA (g :: ds) = B1 at *
          generalize bA ds = B2 at *
          generalize bA Q = B3 at *
          generalize tx z = Z at *
          generalize Q.length = q at *
          generalize ds.length = d at *
          clear hBB
          rw [hsz] at hx1
          have hq0 : decide ((q : Int) < 0) = false := by simp
          go_enter Tryz.func49, Tryz.ntmps49
          go_wp2_with fail
          refine (c1 _).mono ?_
          rintro r w1 ⟨rfl, hb1⟩
          clear c1
          go_wp2_with fail
          refine (c2 _).mono ?_
          rintro r w' ⟨rfl, rfl⟩
          clear c2
          have hq1 : q ≤ q + d + 2 := by omega
          have hq2 : (q : Int) ≤ (q : Int) + (d : Int) + 2 := by omega
          go_wp2_with fail
          go_region_held3 (fun w' => Below w1.heap.size w1 w')
            (first | exact hS | exact (Below.refl _ _).drew)
            (first
              | (go_at_call 44; refine (liftB (W0 := w1) (c3 _) ?_).mono ?_; (exact ‹Below w1.heap.size w1 _›); rintro r w2 ⟨rfl, hS⟩))
          go_wp2
          go_ret2
          exact ⟨rfl, hb1.trans (hS.mono hb1.size)⟩
        · rw [if_neg hg] at hX; cases hX
    · rw [if_neg he] at hX; cases hX
end Go.Proofs.YtipgipgehnhgkaaGreatDoor

namespace Go.Proofs.YtipgipgehnhgkaaGreatDoor
open Go.RowKit
namespace M
theorem fS_chars (R : List UInt8) : ∀ k, fS k R ≠ 0 → ∀ c ∈ R, dv c < 10 ∨ c = 58 := by
  induction R with
  | nil => intro k h c hc; cases hc
  | cons b R ih =>
    intro k h
    have key : (dv b < 10 ∨ b = 58) ∧ ∃ k', fS k' R ≠ 0 := by
      rw [fS] at h
      by_cases hk : k = 1
      · rw [if_pos hk] at h
        by_cases h6 : dv b < 6
        · rw [if_pos h6] at h; exact ⟨Or.inl (by omega), _, h⟩
        · rw [if_neg h6] at h
          by_cases h10 : dv b < 10
          · rw [if_pos h10] at h; exact ⟨Or.inl h10, _, h⟩
          · rw [if_neg h10] at h; exact absurd rfl h
      · rw [if_neg hk] at h
        by_cases h2 : k = 2 ∧ dv b < 10
        · rw [if_pos h2] at h; exact ⟨Or.inl h2.2, _, h⟩
        · rw [if_neg h2] at h
          by_cases h58 : b = 58
          · rw [if_pos h58] at h; exact ⟨Or.inr h58, _, h⟩
          · rw [if_neg h58] at h; exact absurd rfl h
    obtain ⟨hb, k', hk⟩ := key
    intro c hc
    rcases List.mem_cons.1 hc with rfl | hc
    · exact hb
    · exact ih k' hk c hc
/-- A sign that a power's letter is not. -/
def lo (c : UInt8) : Prop := c ≠ 101 ∧ c ≠ 69 ∧ c.toNat < 128
theorem lo_dig {c : UInt8} (h : dv c < 10) : lo c := by
  refine ⟨?_, ?_, dv_low h⟩
  · intro e; rw [e, dv101] at h; omega
  · intro e; rw [e, dv69] at h; omega
theorem lo_46 : lo 46 := by unfold lo; decide
theorem lo_58 : lo 58 := by unfold lo; decide
theorem tl_gone {X : List UInt8} {z : Int} (h : tl X = some z) : gone X = X := by
  refine gone_no X ?_
  cases X with
  | nil => intro c hc; cases hc
  | cons e r =>
    rw [tl] at h
    by_cases he : e = 101 ∨ e = 69
    · rw [if_pos he] at h
      cases r with
      | nil => rw [tlE] at h; cases h
      | cons g ds =>
        rw [tlE] at h
        by_cases hg : (g = 43 ∨ g = 45) ∧ okD 10 ds = true
        · have hall := (allD_iff _ _).1 ((okD_iff _ _).1 hg.2).2
          intro c hc
          rcases List.mem_cons.1 hc with rfl | hc
          · rcases he with rfl | rfl <;> decide
          · rcases List.mem_cons.1 hc with rfl | hc
            · rcases hg.1 with rfl | rfl <;> decide
            · exact ne95 (hall c hc) (by omega)
        · rw [if_neg hg] at h; cases h
    · rw [if_neg he] at h; cases h
/-- The text of a form without its gaps: ahead of the point, behind it, the power. -/
structure Shape (L W F H X : List UInt8) (z : Int) : Prop where
  eq : gone L = (H ++ 46 :: F) ++ X
  low : ∀ c ∈ H ++ 46 :: F, c ≠ 101 ∧ c ≠ 69 ∧ c.toNat < 128
  no46 : ∀ c ∈ H, c ≠ 46
  pow : tl X = some z
  digF : allD 10 F = true
  plain : fl L ≠ 3 → W = H ∧ allD 10 H = true ∧ (fl L = 1 ↔ H ≠ []) ∧ (H = [] → F ≠ [])
  six : fl L = 3 → ∃ D R, H = D ++ 58 :: R ∧ okD 10 D = true ∧ fS 1 R = 6 ∧ W = dg (sx (val 10 D) 0 R) ∧ z = 0 ∧ X = []
  le : (H ++ 46 :: F).length + X.length ≤ L.length
theorem fl_le3 (L : List UInt8) (h : fl L ≠ 0) : fl L = 1 ∨ fl L = 2 ∨ fl L = 3 := by
  obtain ⟨W, F, z, hp⟩ := isParts L h
  rcases hp with ⟨h, _⟩ | ⟨h, _⟩ | ⟨h, _⟩
  · exact Or.inl h
  · exact Or.inr (Or.inl h)
  · exact Or.inr (Or.inr h)
theorem shape {L W F : List UInt8} {z : Int} (h : Parts L W F z) : ∃ H X, Shape L W F H X z := by
  have hlen := gone_len L
  rcases h with ⟨h1, c, P, l, rfl, hc, hP, hd, ha, rfl, rfl, ht⟩ | ⟨h1, l, rfl, hg, rfl, rfl, ht⟩ | ⟨h1, c, D, R, l, rfl, hc, hP, hd, hD, ha, hR, hbk, rfl, rfl, rfl⟩
  · have hF := gone_du (fr_du l)
    have h95 : c ≠ 95 := ne95 hd (by omega)
    have e : gone (c :: P ++ 46 :: l) = ((c :: gone P) ++ 46 :: gone (fr l)) ++ bk l := by
      rw [gone_append, gone_ne P h95, gone_ne l (by decide), ← tl_gone ht]
      conv => lhs; rw [← fr_bk l]
      rw [gone_append, tl_gone ht]; simp
    have hH : allD 10 (c :: gone P) = true := by rw [allD_cons, decide_eq_true hd, ha]; rfl
    refine ⟨c :: gone P, bk l, e, ?_, ?_, ht, hF, fun _ => ⟨rfl, hH, ⟨fun _ => by simp, fun _ => h1⟩, fun k => by cases k⟩, fun k => absurd (h1.symm.trans k) (by omega), ?_⟩
    · intro x hx
      rcases List.mem_append.1 hx with hx | hx
      · exact lo_dig ((allD_iff _ _).1 hH x hx)
      · rcases List.mem_cons.1 hx with rfl | hx
        · exact lo_46
        · exact lo_dig ((allD_iff _ _).1 hF x hx)
    · intro x hx; exact ne46 ((allD_iff _ _).1 hH x hx) (by omega)
    · rw [e, List.length_append] at hlen; exact hlen
  · have hF := gone_du (fr_du l)
    have e : gone (46 :: l) = ([] ++ 46 :: gone (fr l)) ++ bk l := by
      rw [gone_ne l (by decide), ← tl_gone ht]
      conv => lhs; rw [← fr_bk l]
      rw [gone_append, tl_gone ht]; rfl
    refine ⟨[], bk l, e, ?_, ?_, ht, hF, fun _ => ⟨rfl, rfl, ⟨fun k => absurd (h1.symm.trans k) (by omega), fun k => absurd rfl k⟩, fun _ => hg⟩, fun k => absurd (h1.symm.trans k) (by omega), ?_⟩
    · intro x hx
      rcases List.mem_cons.1 hx with rfl | hx
      · exact lo_46
      · exact lo_dig ((allD_iff _ _).1 hF x hx)
    · intro x hx; cases hx
    · rw [e, List.length_append] at hlen; exact hlen
  · have hF := gone_du (fr_du l)
    have h95 : c ≠ 95 := ne95 hd (by omega)
    have hfr : fr l = l := by have := fr_bk l; rw [hbk, List.append_nil] at this; exact this
    have hRg : gone R = R := fS_gone (k := 1) (by omega)
    have e : gone (c :: (D ++ 58 :: R) ++ 46 :: l) = (((c :: gone D) ++ 58 :: R) ++ 46 :: gone (fr l)) ++ [] := by
      rw [gone_append, gone_ne _ h95, gone_append, gone_ne R (by decide), gone_ne l (by decide), hRg, hfr]; simp
    have hH : allD 10 (c :: gone D) = true := by rw [allD_cons, decide_eq_true hd, ha]; rfl
    have hRc := fS_chars R 1 (by omega)
    refine ⟨(c :: gone D) ++ 58 :: R, [], e, ?_, ?_, rfl, hF, fun k => absurd h1 k, fun _ => ⟨c :: gone D, R, rfl, ?_, hR, rfl, rfl, rfl⟩, ?_⟩
    · intro x hx
      rcases List.mem_append.1 hx with hx | hx
      · rcases List.mem_append.1 hx with hx | hx
        · exact lo_dig ((allD_iff _ _).1 hH x hx)
        · rcases List.mem_cons.1 hx with rfl | hx
          · exact lo_58
          · rcases hRc x hx with h | rfl
            · exact lo_dig h
            · exact lo_58
      · rcases List.mem_cons.1 hx with rfl | hx
        · exact lo_46
        · exact lo_dig ((allD_iff _ _).1 hF x hx)
    · intro x hx
      rcases List.mem_append.1 hx with hx | hx
      · exact ne46 ((allD_iff _ _).1 hH x hx) (by omega)
      · rcases List.mem_cons.1 hx with rfl | hx
        · decide
        · rcases hRc x hx with h | rfl
          · exact ne46 h (by omega)
          · decide
    · exact (okD_iff _ _).2 ⟨by simp, hH⟩
    · rw [e, List.length_append] at hlen; exact hlen
end M
end Go.Proofs.YtipgipgehnhgkaaGreatDoor
