/- The law WordPlain: its walk. -/
import Derived.Test.YtlkbgnlmmlchfaaWg
import Derived.Lib.SlBytesConst
set_option linter.unusedVariables false
namespace Go.Proofs.Ytlkbgnlmmlchfaa
open Go.RowKit

theorem info5 : (Try.prog.info? 5).map (fun i => (i.zero, i.size, i.bytes)) = some (some (.int .u8 0), 1, 1) := by kernel_rfl
def bc (c : UInt8) : Value := .int .u8 (c.toNat : Int)
/-- A row of bytes that the call has made. -/
def OwnB (w : World) (B : Nat) (v : Value) (l : List UInt8) : Prop := w.ownsRow B 5 1 v l.length (l.map bc)
theorem OwnB.form {w : World} {B : Nat} {v : Value} {c : UInt8} {l : List UInt8} (h : OwnB w B v (c :: l)) : ∃ g cap, v = .slice (some ⟨g, 0, none⟩) (c :: l).length cap := by
  rcases h.2 with ⟨h1, h2⟩ | ⟨g, cap, cur, h1, hb, _⟩
  · exact absurd h2 (by simp)
  · exact ⟨g, cap, h1⟩
theorem OwnB.bs {w : World} {B g cap : Nat} {l : List UInt8} (h : OwnB w B (.slice (some ⟨g, 0, none⟩) l.length cap) l) : Bs w g l ∧ B ≤ g := by
  refine ⟨⟨fun j hj => ?_, fun j hj => World.ownsRow.frozenAt h j, (World.ownsRow.lt h g rfl).2⟩, (World.ownsRow.lt h g rfl).1⟩
  have := World.ownsRow.cellAt h j (by omega)
  rw [this, List.getElem?_map, List.getElem?_eq_getElem hj]; rfl
theorem bc_one (p : Nat) : ∀ u ∈ [Value.int .u8 (p : Int)], u.oneCell' = true := by intro u hu; rw [List.mem_singleton.1 hu]; rfl
theorem bc_news (w : World) (p : Nat) (t : TypeId) : ∀ (j : Nat) (u : Value), [Value.int .u8 (p : Int)][j]? = some u → (w.alloc (.cells #[.int .u8 (p : Int)] t)).cell? ((⟨w.heap.size, 0, none⟩ : Addr).add j) = some u := by
  intro j u hj
  match j, hj with
  | 0, hj => simp at hj; subst hj; simp [Addr.add]
  | n + 1, hj => simp at hj
theorem OwnB.snoc {w : World} {B : Nat} {v : Value} {l : List UInt8} {c : UInt8} (h : w.ownsRow B 5 1 v (l.length + 1) (l.map bc ++ [.int .u8 (c.toNat : Int)])) : OwnB w B v (l ++ [c]) := by
  unfold OwnB; rw [List.length_append, List.map_append]; exact h
/-- The row of a literal of one byte, as the program lays it. -/
def Lit (w : World) (B : Nat) : Prop := w.heap[B]? = some (.cells #[.int .u8 113] 5 (1, 2))
theorem Lit.lt {w : World} {B : Nat} (h : Lit w B) : B < w.heap.size := (Array.getElem?_eq_some_iff.1 h).1
theorem Lit.alloc {w : World} {B : Nat} (h : Lit w B) (o : Obj) : Lit (w.alloc o) B := by
  unfold Lit
  show (w.heap.push o)[B]? = _
  rw [Array.getElem?_push, if_neg (Nat.ne_of_lt h.lt)]
  exact h
theorem Lit.cell {w : World} {B : Nat} (h : Lit w B) : w.cell? ⟨B, 0, none⟩ = some (.int .u8 113) := by
  unfold Lit at h
  simp [World.cell?, h]
theorem Lit.bs {w : World} {B : Nat} (h : Lit w B) : Bs w B [113] := by
  refine ⟨fun j hj => ?_, fun j hj => ?_, h.lt⟩
  · obtain rfl : j = 0 := by simpa using hj
    exact h.cell
  · obtain rfl : j = 0 := by simpa using hj
    unfold Lit at h
    simp [World.frozen?, h]
theorem lit_made (w : World) : Lit (w.alloc (.cells #[.int .u8 113] 5 (1, 2))) w.heap.size := by
  unfold Lit
  show (w.heap.push _)[w.heap.size]? = _
  simp
theorem lit_conv (w : World) : (convert 32 32 (.slice (some ⟨w.heap.size, 0, none⟩) 1 1)).run Try.prog (w.alloc (.cells #[.int .u8 113] 5)) = .ok (.slice (some ⟨w.heap.size, 0, none⟩) 1 1) (w.alloc (.cells #[.int .u8 113] 5 (1, 2))) :=
  Lib.run_convert_bytes_const w 32 5 #[.int .u8 113] 1 1 Try.underlying32 Try.underlying5
/-- One byte appended to the literal's row, which has no room: a new row. -/
theorem lit_append (w : World) (B c p : Nat) (ty : TypeId) (ad : Addr) (h : Lit w B) (hc : w.cell? ad = some (.int .u8 (p : Int))) :
    ∃ v' w', (Builtin.append_ #[32, 32] ty #[.slice (some ⟨B, 0, none⟩) 1 1, .slice (some ad) 1 c]).run Try.prog w = .ok v' w' ∧ w'.ownsRow B 5 1 v' 2 [.int .u8 113, .int .u8 (p : Int)] ∧ w.grownBy w' none := by
  obtain ⟨i0, hi, hz0, hz1, hz2⟩ := info_parts info5
  have hr := run_append_grow (P := Try.prog) w 32 ty 5 i0 (.int .u8 0) Try.underlying32 hi hz0 ⟨B, 0, none⟩ 1 1 [.int .u8 113] (by rw [hz1]; rfl) (fun j v hj => by
      match j, hj with
      | 0, hj => simp at hj; subst hj; simpa [Addr.add] using h.cell
      | n + 1, hj => simp at hj) ad 1 c [.int .u8 (p : Int)] (by rw [hz1]; rfl) (fun j v hj => by
      match j, hj with
      | 0, hj => simp at hj; subst hj; simpa [Addr.add] using hc
      | n + 1, hj => simp at hj) (by omega) (by omega) (by rw [hz2]; exact growslice_fits (by omega) (by omega))
  have hge := grownCap_ge w (1 + 1) 1 5
  have hle := grownCap_le_maxLen w (1 + 1) 1 5 (by unfold maxLen; omega)
  refine ⟨_, _, hr, ⟨rfl, .inr ⟨w.heap.size, _, _, rfl, Nat.le_of_lt h.lt, heap_alloc_new w.drew _, hge, hle, ?_, ?_⟩⟩, ⟨rfl, rfl, rfl, by simp, fun k hk _ => heap_alloc_old w.drew _ hk⟩⟩
  · have hz : (Value.int IntKind.u8 0).cells.size = 1 := rfl
    simp only [Array.size_append, List.size_toArray, size_zeroCells, hz, List.length_cons, List.length_nil]
    omega
  · simp
theorem wpList_append_lit {ops : Array Oper} {rest : List Oper} {o : Oper} {a : Act} {w : World} {Q : Exit → Act → World → Prop} (hgd : o.guard = none) (s x : Operand)
    (ho : o.op = .call { callee := .builtin .append, args := #[s, x], argTypes := #[32, 32] }) (B c p : Nat) (ad : Addr) (hl : Lit w B) (hs : a.eval s = .slice (some ⟨B, 0, none⟩) 1 1) (hx : a.eval x = .slice (some ad) 1 c)
    (hc : w.cell? ad = some (.int .u8 (p : Int))) (h : ∀ v' w', w'.ownsRow B 5 1 v' 2 [.int .u8 113, .int .u8 (p : Int)] → w.grownBy w' none → wpList Try.prog ops Q rest (a.put o.dst v') w') : wpList Try.prog ops Q (o :: rest) a w := by
  refine wpList_plain hgd fun K hK => ?_
  obtain ⟨v', w', hr, h2, h3⟩ := lit_append w B c p o.type ad hl hc
  unfold Oper.wp execOp
  simp only [ho, resolve, invoke, builtin, Sem.run_bind, Sem.run_pure, Result.andThen_ok, List.map_toArray, List.map_cons, List.map_nil, hs, hx, hr]
  exact hK _ _ (h v' w' h2 h3)

def signs : List UInt8 := [97, 98, 99, 100, 101, 102, 103, 104, 105, 106, 107, 108, 109, 110, 111, 112, 113, 114, 115, 116, 117, 118, 119, 120, 121, 122, 65, 66, 67, 68, 69, 70, 71, 72, 73, 74, 75, 76, 77, 78, 79, 80, 81, 82, 83, 84, 85, 86, 87, 88, 89, 90, 48, 49, 50, 51, 52, 53, 54, 55, 56, 57, 95, 45]
def sg (q : Nat) : UInt8 := signs.getD q 0
theorem sg_at (q : Nat) (h : q < 64) : ((⟨#[97, 98, 99, 100, 101, 102, 103, 104, 105, 106, 107, 108, 109, 110, 111, 112, 113, 114, 115, 116, 117, 118, 119, 120, 121, 122, 65, 66, 67, 68, 69, 70, 71, 72, 73, 74, 75, 76, 77, 78, 79, 80, 81, 82, 83, 84, 85, 86, 87, 88, 89, 90, 48, 49, 50, 51, 52, 53, 54, 55, 56, 57, 95, 45]⟩ : ByteArray)[q]'h) = sg q := by
  unfold sg
  rw [List.getD_eq_getElem?_getD, List.getElem?_eq_getElem (show q < signs.length from h)]
  rfl
theorem sg_mf : ∀ q, q < 64 → M.mf (sg q) = true := by decide
/-- The text that is made. -/
def made (l : List UInt8) : List UInt8 := 113 :: l.map fun c => sg (c.toNat % 64)
theorem made_len (l : List UInt8) : (made l).length = l.length + 1 := by simp [made]
theorem made_snoc (l : List UInt8) (c : UInt8) : made (l ++ [c]) = made l ++ [sg (c.toNat % 64)] := by simp [made]
theorem made_mf (l : List UInt8) : (made l).all M.mf = true := by
  unfold made
  rw [List.all_cons, show M.mf 113 = true by decide, Bool.true_and, List.all_eq_true]
  intro x hx
  obtain ⟨c, _, rfl⟩ := List.mem_map.1 hx
  exact sg_mf _ (by omega)
theorem q_bo (r : List UInt8) : M.bo true (113 :: r) = (false, false) := by
  unfold M.bo
  have h1 : 113 :: r ∉ M.wT := by simp [M.wT]
  have h2 : 113 :: r ∉ M.wF := by simp [M.wF]
  have h3 : 113 :: r ∉ M.oT := by simp [M.oT]
  have h4 : 113 :: r ∉ M.oF := by simp [M.oF]
  rw [decide_eq_false h1, decide_eq_false h2, decide_eq_false h3, decide_eq_false h4]
  rfl
theorem q_nu (r : List UInt8) : M.nu (113 :: r) = false := by
  unfold M.nu
  exact decide_eq_false (by simp [M.wN])
theorem made_pl (l : List UInt8) : M.pl (made l) = decide ((made l).length ≤ 40) := by
  have h := made_mf l
  unfold M.pl
  have e : M.hf (made l) = (decide ((made l).length ≤ 40) && M.isL 113 && (made l).all M.mf) := rfl
  rw [e, h, show M.isL 113 = true by decide, Bool.and_true, Bool.and_true]
  unfold made
  rw [q_bo, q_nu]
  simp
theorem pl_bad {l : List UInt8} (h : M.hf l = false) : M.pl l = false := by unfold M.pl; rw [h]; rfl
/-- A text with a sign that may not be there is not plain. -/
theorem set_bad (l : List UInt8) (k : Nat) (hk : k < (made l).length) (c : UInt8) (hL : M.isL c = false) (h : k = 0 ∨ M.mf c = false) : M.pl ((made l).set k c) = false := by
  apply pl_bad
  by_cases h0 : k = 0
  · subst h0
    show (decide _ && M.isL c && _) = false
    rw [hL]; simp
  · have hm : M.mf c = false := by rcases h with h | h; exact absurd h h0; exact h
    have hall : ((made l).set k c).all M.mf = false := by
      cases hh : ((made l).set k c).all M.mf
      · rfl
      · have := List.all_eq_true.1 hh c (List.mem_iff_getElem.2 ⟨k, by rw [List.length_set]; exact hk, by simp⟩)
        rw [hm] at this; exact absurd this (by decide)
    cases hl : (made l).set k c with
    | nil => rfl
    | cons a r =>
      rw [hl] at hall
      show (decide _ && M.isL a && (a :: r).all M.mf) = false
      rw [hall, Bool.and_false]

theorem mod64 (v : Nat) (hv : v < 256) : ∃ q : Nat, v % 64 = q ∧ q < 64 ∧ Int.tmod (v : Int) 64 = (q : Int) ∧ (v : Int) % 64 = (q : Int) ∧ wrap64 (v : Int) = (v : Int) ∧ IntKind.i64.wrap (v : Int) = (v : Int) ∧ (q : Int) < 64 ∧ (0 : Int) ≤ (q : Int) := by
  refine ⟨v % 64, rfl, by omega, ?_, by omega, ?_, ?_, by omega, by omega⟩
  · rw [show (64 : Int) = ((64 : Nat) : Int) from rfl, ← Int.ofNat_tmod]
  · unfold wrap64; omega
  · rw [IntWalk.i64_in _ (by omega)]
/-- What one round needs of the sign that is taken. -/
theorem sign_at (v : Nat) (hv : v < 256) : ∃ (q : Nat) (hq : q < 64) (C : UInt8), sg (v % 64) = C ∧ Int.tmod (v : Int) 64 = (q : Int) ∧ (v : Int) % 64 = (q : Int) ∧ wrap64 (v : Int) = (v : Int) ∧ IntKind.i64.wrap (v : Int) = (v : Int) ∧ (q : Int) < 64 ∧ (0 : Int) ≤ (q : Int) ∧ ((⟨#[97, 98, 99, 100, 101, 102, 103, 104, 105, 106, 107, 108, 109, 110, 111, 112, 113, 114, 115, 116, 117, 118, 119, 120, 121, 122, 65, 66, 67, 68, 69, 70, 71, 72, 73, 74, 75, 76, 77, 78, 79, 80, 81, 82, 83, 84, 85, 86, 87, 88, 89, 90, 48, 49, 50, 51, 52, 53, 54, 55, 56, 57, 95, 45]⟩ : ByteArray)[q]'hq).toNat = C.toNat := by
  obtain ⟨q, h1, h2, h3, h4, h5, h6, h7, h8⟩ := mod64 v hv
  exact ⟨q, h2, sg q, by rw [h1], h3, h4, h5, h6, h7, h8, congrArg UInt8.toNat (sg_at q h2)⟩

/-- The row at the loop's end. -/
theorem exit_bs {wr : World} {B i : Nat} {ov : Value} {l : List UInt8} (h : (i = 0 ∧ ov = .slice (some ⟨B, 0, none⟩) 1 1 ∧ Lit wr B) ∨ OwnB wr B ov (made l)) (hl : i = l.length) : ∃ g cap, ov = .slice (some ⟨g, 0, none⟩) (made l).length cap ∧ Bs wr g (made l) ∧ B ≤ g := by
  rcases h with ⟨rfl, rfl, hlit⟩ | h
  · obtain rfl : l = [] := List.eq_nil_of_length_eq_zero hl.symm
    exact ⟨B, 1, rfl, hlit.bs, Nat.le_refl _⟩
  · obtain ⟨g, cap, rfl⟩ := OwnB.form h
    obtain ⟨h1, h2⟩ := OwnB.bs h
    exact ⟨g, cap, rfl, h1, h2⟩
theorem wrap_small (a : Nat) (h : a ≤ 255) : wrap64 (a : Int) = (a : Int) ∧ IntKind.i64.wrap (a : Int) = (a : Int) := by
  refine ⟨?_, ?_⟩
  · unfold wrap64; omega
  · rw [IntWalk.i64_in _ (by omega)]
theorem mf_bad {c : UInt8} (hL : M.isL c = false) (h : c.toNat < 48 ∧ c.toNat ≠ 45 ∨ 57 < c.toNat ∧ c.toNat ≠ 95) : M.mf c = false := by
  unfold M.mf M.isG
  rw [hL, Bool.false_or, decide_eq_false (by omega), decide_eq_false (by omega), decide_eq_false (by omega)]
  rfl
set_option maxRecDepth 100000 in
theorem plain_long (s : ByteArray) (c a : Nat) (w : World) (hs : s.size ≤ maxLen) (h : 60 < s.size) : Calls Try.prog 6 #[.string s, .int .u8 c, .int .u8 a] w fun e w' => e = .returned (.bool true) ∧ Below w.heap.size w w' := by
  unfold maxLen at hs
  have hd : decide (60 < s.size) = true := decide_eq_true h
  have hd2 : decide ((60 : Int) < (s.size : Int)) = true := decide_eq_true (by omega)
  go_enter Try.func6, Try.ntmps6
  go_wp2_with fail
  refine (known_any _).mono ?_
  rintro r w' ⟨rfl, rfl⟩
  go_wp2
  go_ret
  exact ⟨rfl, Below.refl _ _⟩
set_option maxRecDepth 100000 in
set_option maxHeartbeats 4000000 in
theorem plain_core (s : ByteArray) (c : UInt8) (a : Nat) (w : World) (h : s.size ≤ 60) (ha : a ≤ 255) : Calls Try.prog 6 #[.string s, .int .u8 (c.toNat : Nat), .int .u8 a] w fun e w' => e = .returned (.bool true) ∧ Below w.heap.size w w' := by
  have hd : decide (60 < s.size) = false := decide_eq_false (by omega)
  have hd2 : decide ((60 : Int) < (s.size : Int)) = false := decide_eq_false (by omega)
  obtain ⟨i0, hi, hz0, hz1, hz2⟩ := info_parts info5
  have HI := Lib.hid hi
  have kc := lit_conv w
  have hL0 := lit_made w
  have b0 : Below w.heap.size w (w.alloc (.cells #[.int .u8 113] 5 (1, 2))) := (Below.refl _ _).alloc (Nat.le_refl _) _
  clear hi
  go_enter Try.func6, Try.ntmps6
  go_wp2_with fail
  refine (known_any _).mono ?_
  rintro r w' ⟨rfl, rfl⟩
  go_wp2_with fail
  clear kc
  go_loopw [7, 8] (fun ov iv wr => ∃ i : Nat, iv = .int .i64 i ∧ i ≤ s.size ∧ Hid ((i = 0 ∧ ov = .slice (some ⟨w.heap.size, 0, none⟩) 1 1 ∧ Lit wr w.heap.size) ∨ OwnB wr w.heap.size ov (made (s.data.toList.take i))) ∧ Below w.heap.size w wr) (fun _ iv _ => s.size - (intOf iv).toNat)
  case atStart => exact ⟨0, rfl, Nat.zero_le _, Or.inl ⟨rfl, rfl, hL0⟩, b0⟩
  case round =>
    obtain ⟨i, rfl, hi', hown, hbw⟩ := hrel
    clear hL0 b0
    have hwsz : w.heap.size ≤ wr.heap.size := hbw.size
    by_cases hlt0 : i < s.size
    · rcases hown.out with ⟨rfl, rfl, hlit⟩ | hown'
      · clear hown
        by_cases hlt : 0 < s.size
        · have hltd : decide (0 < s.size) = true := decide_eq_true hlt
          have hltd2 : decide ((0 : Int) < (s.size : Int)) = true := decide_eq_true (by omega)
          have hms := made_snoc (s.data.toList.take 0) s[0]
          rw [← take_snoc s 0 hlt] at hms
          obtain ⟨v, hv⟩ : ∃ v, s[0].toNat = v := ⟨_, rfl⟩
          rw [hv] at hms
          obtain ⟨q, hq, C, hC, e1, e2, e3, e4, e5, e6, e7⟩ := sign_at v (by rw [← hv]; exact s[0].toNat_lt)
          rw [hC] at hms
          have HM := Lib.hid hms
          have hqd : decide (q < 64) = true := decide_eq_true hq
          clear hms hC
          obtain ⟨p, hp⟩ : ∃ p, C.toNat = p := ⟨_, rfl⟩
          rw [hp] at e7
          have HP := Lib.hid hp
          clear hp
          have hlit2 := hlit.alloc (.cells #[.int .u8 (p : Int)] 5)
          have HLIT := Lib.hid hlit2
          clear hlit hlit2
          go_wp2_with (first | (at_builtin; refine wpList_append_lit rfl (.tmp 24) (.tmp 31) rfl w.heap.size 1 p ⟨wr.heap.size, 0, none⟩ HLIT.out rfl rfl (bc_news _ _ _ 0 _ rfl) ?_; intro v5 w5 hown5 hgrow5; have hb5 : Below w.heap.size w w5 := (hbw.alloc hwsz _).grown hgrow5 (by simp; omega) (fun k hk => by cases hk); have HO5 := Lib.hid hown5; clear hown5 hgrow5) | fail)
          go_roundw
          case rel => exact ⟨1, by go_num, by omega, Or.inr (by rw [HM.out]; have := HO5.out; rw [← HP.out] at this; exact OwnB.snoc (l := [113]) this), hb5⟩
          case measure => simp [intOf]; omega
        · exact absurd hlt0 hlt
      · clear hown
        have hown := hown'
        clear hown'
        by_cases hlt : i < s.size
        · have hltd : decide (i < s.size) = true := decide_eq_true hlt
          have hltd2 : decide ((i : Int) < (s.size : Int)) = true := decide_eq_true (by omega)
          have hms := made_snoc (s.data.toList.take i) s[i]
          rw [← take_snoc s i hlt] at hms
          obtain ⟨v, hv⟩ : ∃ v, s[i].toNat = v := ⟨_, rfl⟩
          rw [hv] at hms
          obtain ⟨q, hq, C, hC, e1, e2, e3, e4, e5, e6, e7⟩ := sign_at v (by rw [← hv]; exact s[i].toNat_lt)
          rw [hC] at hms
          have HM := Lib.hid hms
          have hqd : decide (q < 64) = true := decide_eq_true hq
          clear hms hC
          obtain ⟨p, hp⟩ : ∃ p, C.toNat = p := ⟨_, rfl⟩
          rw [hp] at e7
          have HP := Lib.hid hp
          clear hp
          have hgl : (made (s.data.toList.take i)).length ≤ 61 := by rw [made_len, List.length_take]; omega
          generalize made (s.data.toList.take i) = L at *
          unfold OwnB at hown
          go_wp2_with (first | (at_builtin; refine wpList_append_own _ rfl (.tmp 24) (.tmp 31) 32 rfl w.heap.size 5 i0 (.int .u8 0) 1 1 Try.underlying32 HI.out hz0 hz1 hz2 rfl (by decide) _ L.length (L.map bc) rfl (World.ownsRow.alloc hown _) ⟨wr.heap.size, 0, none⟩ 1 1 [.int .u8 (p : Int)] rfl rfl (bc_news _ _ _) (bc_one _) (by unfold maxLen; omega) (by omega) (by simp; omega) ?_; intro v5 w5 hown5 hgrow5 _; have hb5 : Below w.heap.size w w5 := (hbw.alloc hwsz _).grown hgrow5 (by simp; omega) (fun k hk => (World.ownsRow.lt hown k hk).1); have HO5 := Lib.hid hown5; clear hgrow5 hown5 hown) | fail)
          go_roundw
          case rel => exact ⟨i + 1, by go_num, by omega, Or.inr (by rw [HM.out]; have := HO5.out; rw [← HP.out] at this; exact OwnB.snoc this), hb5⟩
          case measure => simp [intOf]; omega
        · exact absurd hlt0 hlt
    · obtain rfl : i = s.size := by omega
      have hltd : decide (s.size < s.size) = false := by simp
      have hk := hown.out
      rw [take_all] at hk
      obtain ⟨g, cap, rfl, hbs, hBg⟩ := exit_bs hk (sz_list s)
      have hLn : (made s.data.toList).length ≤ 61 := by rw [made_len, ← sz_list]; omega
      have hL1 : 1 ≤ (made s.data.toList).length := by rw [made_len]; omega
      have hpl := made_pl s.data.toList
      have hbad := fun k hk => set_bad s.data.toList k hk c
      clear hk hown
      generalize made s.data.toList = L at *
      have hcv := hbs.conv L.length rfl cap
      have hSs := bA_size L
      have cP := fun W => plain_any (bA L) W (by omega)
      rw [bA_toList, hpl] at cP
      have hkk : a % L.length < L.length := Nat.mod_lt _ (by omega)
      have hcell := hbs.1 _ hkk
      have hfro := hbs.2.1 _ hkk
      have B2 : Below w.heap.size w (wr.setCell ⟨g, a % L.length, none⟩ (.int .u8 (c.toNat : Int))) := hbw.setCell hBg _
      have hb2 := hbs.set _ hkk c
      have hcv2 := hb2.conv L.length (by rw [List.length_set]) cap
      have cQ := fun W => plain_any (bA (L.set (a % L.length) c)) W (by rw [bA_size, List.length_set]; omega)
      rw [bA_toList] at cQ
      have hbad2 := hbad _ hkk
      have c1 := fun W => risL_any c W
      have hmb := mf_bad (c := c)
      obtain ⟨Z, hZ⟩ : ∃ Z, bA (L.set (a % L.length) c) = Z := ⟨_, rfl⟩
      rw [hZ] at hcv2 cQ
      obtain ⟨Y, hY⟩ : ∃ Y, bA L = Y := ⟨_, rfl⟩
      rw [hY] at hcv cP hSs
      have hc256 := c.toNat_lt
      generalize M.pl (L.set (a % L.length) c) = pq at *
      generalize L[a % L.length].toNat = x0 at hcell
      generalize M.isL c = b at *
      generalize M.mf c = mb at *
      clear hZ hY hbs hb2 hbad hpl
      generalize L.length = n at *
      obtain ⟨kk, hkkE⟩ : ∃ kk, a % n = kk := ⟨_, rfl⟩
      rw [hkkE] at hcell hfro B2 hcv2 hbad2 hkk
      have e1 : Int.tmod (a : Int) (n : Int) = (kk : Int) := by rw [← Int.ofNat_tmod, hkkE]
      have e2 : (a : Int) % (n : Int) = (kk : Int) := by rw [← hkkE]; rfl
      have e5 : ((n : Int) == 0) = false := beq_eq_false_iff_ne.2 (by omega)
      have hkd : decide (kk < n) = true := decide_eq_true hkk
      have hle : decide ((Y.size : Int) ≤ 40) = decide (n ≤ 40) := by rw [hSs, decide_eq_decide]; omega
      obtain ⟨e3, e4⟩ := wrap_small a ha
      have hle2 : decide (Y.size ≤ 40) = decide (n ≤ 40) := by rw [hSs]
      generalize decide (n ≤ 40) = D at *
      generalize c.toNat = m at *
      clear hSs hL1
      cases b
      · by_cases hk0 : kk = 0
        · have hq := hbad2 rfl (Or.inl hk0)
          subst hq
          subst hk0
          clear hbad2 hmb hkkE
          go_wp2_with fail
          refine (c1 _).mono ?_
          rintro r w' ⟨rfl, rfl⟩
          go_wp2_with fail
          refine (cP _).mono ?_
          rintro r w' ⟨rfl, rfl⟩
          go_wp2_with fail
          refine (cQ _).mono ?_
          rintro r w' ⟨rfl, rfl⟩
          go_wp2
          go_ret
          exact ⟨rfl, B2⟩
        · have hk1 : decide (0 < kk) = true := decide_eq_true (by omega)
          have hk2 : decide ((0 : Int) < (kk : Int)) = true := decide_eq_true (by omega)
          by_cases h45 : m = 45
          · subst h45
            clear hbad2 hmb
            go_wp2_with fail
            refine (c1 _).mono ?_
            rintro r w' ⟨rfl, rfl⟩
            go_wp2_with fail
            refine (cP _).mono ?_
            rintro r w' ⟨rfl, rfl⟩
            go_wp2
            go_ret
            exact ⟨rfl, B2⟩
          by_cases h95 : m = 95
          · subst h95
            clear hbad2 hmb
            go_wp2_with fail
            refine (c1 _).mono ?_
            rintro r w' ⟨rfl, rfl⟩
            go_wp2_with fail
            refine (cP _).mono ?_
            rintro r w' ⟨rfl, rfl⟩
            go_wp2
            go_ret
            exact ⟨rfl, B2⟩
          have g45 : ((m : Int) == 45) = false := beq_eq_false_iff_ne.2 (by omega)
          have g95 : ((m : Int) == 95) = false := beq_eq_false_iff_ne.2 (by omega)
          by_cases h48 : m < 48
          · have hq := hbad2 rfl (Or.inr (hmb rfl (Or.inl ⟨h48, h45⟩)))
            subst hq
            have g48 : decide ((48 : Int) ≤ (m : Int)) = false := decide_eq_false (by omega)
            have g48b : decide (48 ≤ m) = false := decide_eq_false (by omega)
            clear hbad2 hmb
            go_wp2_with fail
            refine (c1 _).mono ?_
            rintro r w' ⟨rfl, rfl⟩
            go_wp2_with fail
            refine (cP _).mono ?_
            rintro r w' ⟨rfl, rfl⟩
            go_wp2_with fail
            refine (cQ _).mono ?_
            rintro r w' ⟨rfl, rfl⟩
            go_wp2
            go_ret
            exact ⟨rfl, B2⟩
          have g48 : decide ((48 : Int) ≤ (m : Int)) = true := decide_eq_true (by omega)
          have g48b : decide (48 ≤ m) = true := decide_eq_true (by omega)
          by_cases h57 : m ≤ 57
          · have g57 : decide ((m : Int) ≤ 57) = true := decide_eq_true (by omega)
            have g57b : decide (m ≤ 57) = true := decide_eq_true h57
            clear hbad2 hmb
            go_wp2_with fail
            refine (c1 _).mono ?_
            rintro r w' ⟨rfl, rfl⟩
            go_wp2_with fail
            refine (cP _).mono ?_
            rintro r w' ⟨rfl, rfl⟩
            go_wp2
            go_ret
            exact ⟨rfl, B2⟩
          have hq := hbad2 rfl (Or.inr (hmb rfl (Or.inr ⟨by omega, h95⟩)))
          subst hq
          have g57 : decide ((m : Int) ≤ 57) = false := decide_eq_false (by omega)
          have g57b : decide (m ≤ 57) = false := decide_eq_false h57
          clear hbad2 hmb
          go_wp2_with fail
          refine (c1 _).mono ?_
          rintro r w' ⟨rfl, rfl⟩
          go_wp2_with fail
          refine (cP _).mono ?_
          rintro r w' ⟨rfl, rfl⟩
          go_wp2_with fail
          refine (cQ _).mono ?_
          rintro r w' ⟨rfl, rfl⟩
          go_wp2
          go_ret
          exact ⟨rfl, B2⟩
      · clear hbad2 hmb
        go_wp2_with fail
        refine (c1 _).mono ?_
        rintro r w' ⟨rfl, rfl⟩
        go_wp2_with fail
        refine (cP _).mono ?_
        rintro r w' ⟨rfl, rfl⟩
        go_wp2
        go_ret
        exact ⟨rfl, B2⟩
theorem plain_law (s : ByteArray) (c a : Nat) (w : World) (hs : s.size ≤ maxLen) (hc : c ≤ 255) (ha : a ≤ 255) : Calls Try.prog 6 #[.string s, .int .u8 c, .int .u8 a] w fun e w' => e = .returned (.bool true) ∧ Below w.heap.size w w' := by
  by_cases h : s.size ≤ 60
  · have e : (UInt8.ofNat c).toNat = c := by rw [UInt8.toNat_ofNat']; omega
    have := plain_core s (UInt8.ofNat c) a w h ha
    rw [e] at this
    exact this
  · exact plain_long s c a w hs (by omega)
end Go.Proofs.Ytlkbgnlmmlchfaa
