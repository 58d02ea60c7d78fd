/- Slices of handles; the map from names: walks of the code's prefixes. -/
import Derived.Test.YtcahleaaicebbaaWd
import Derived.Maps.OwnSet
set_option linter.unusedVariables false
namespace Go.Proofs.Ytcahleaaicebbaa
open Go.RowKit Go.Maps Go.WideShapes Go.WideMaps

abbrev HL := List (List UInt8 × List UInt8)
/-- Names and prefixes are no longer than a text may be. -/
def HsOk (hs : HL) : Prop := ∀ h ∈ hs, h.1.length ≤ 140737488355328 ∧ h.2.length ≤ 140737488355328
theorem lk_le {hs : HL} (hk : HsOk hs) {k p : List UInt8} (h : M.lk hs k = some p) : p.length ≤ 140737488355328 := by
  unfold M.lk at h
  split at h
  · rename_i x hx
    have := List.mem_of_find?_eq_some hx
    rw [List.mem_reverse] at this
    cases h
    exact (hk _ this).2
  · split at h
    · cases h; simp
    · split at h
      · cases h; simp [M.core]
      · cases h

/-- A slice of handles that reads as hs. -/
def InH (w : World) (a : Option Addr) (hs : HL) : Prop :=
  hs ≠ [] → ∃ b off, a = some ⟨b, off, none⟩ ∧ (∀ j, (h : j < hs.length) → w.cell? ⟨b, off + j * 2, none⟩ = some (.string (bA hs[j].1)) ∧ w.cell? ⟨b, off + j * 2 + 1, none⟩ = some (.string (bA hs[j].2))) ∧ b < w.heap.size
theorem InH.next {w w' : World} {a : Option Addr} {hs : HL} (h : InH w a hs) (hb : Below w.heap.size w w') : InH w' a hs := by
  intro hne
  obtain ⟨b, off, e, hc, hlt⟩ := h hne
  refine ⟨b, off, e, fun j hj => ?_, Nat.lt_of_lt_of_le hlt hb.size⟩
  rw [← (hc j hj).1, ← (hc j hj).2]; simp [World.cell?, hb.block b hlt]
theorem InH.nil (w : World) (a : Option Addr) : InH w a [] := fun h => absurd rfl h

theorem snoc_ind {p : HL → Prop} (h0 : p []) (h1 : ∀ l x, p l → p (l ++ [x])) (l : HL) : p l := by
  have key : ∀ r : HL, p r.reverse := by
    intro r
    induction r with
    | nil => exact h0
    | cons x r ih => rw [List.reverse_cons]; exact h1 _ _ ih
  have := key l.reverse
  rwa [List.reverse_reverse] at this
/-- The map's reading behind the handles. -/
def dm : HL → DataW Unit := fun hs => hs.foldl (fun D h => D.put (.string h.1) (.lit (.string h.2))) (((DataW.map []).put (.string [33]) (.lit (.string [33]))).put (.string [33, 33]) (.lit (.string M.core)))
theorem dm_snoc (hs : HL) (h : List UInt8 × List UInt8) : dm (hs ++ [h]) = (dm hs).put (.string h.1) (.lit (.string h.2)) := by simp [dm]
theorem ne_key {a b : List UInt8} (h : b ≠ a) : (Lit.string b) ≠ .string a := fun e => h (Lit.string.inj e)
theorem dm_map (hs : HL) : IsMap (dm hs) := by
  refine snoc_ind (p := fun hs => IsMap (dm hs)) ?_ ?_ hs
  · exact (isMap_empty.put _ _).put _ _
  · intro hs h ih; rw [dm_snoc]; exact ih.put _ _
theorem dm_look (hs : HL) (k : List UInt8) : has (dm hs) (.string k) = (M.lk hs k).isSome ∧ ∀ p, M.lk hs k = some p → ∀ z, (dm hs).atKey (.string k) z = .lit (.string p) := by
  refine snoc_ind (p := fun hs => has (dm hs) (.string k) = (M.lk hs k).isSome ∧ ∀ p, M.lk hs k = some p → ∀ z, (dm hs).atKey (.string k) z = .lit (.string p)) ?_ ?_ hs
  · show has (((DataW.map []).put (.string [33]) (.lit (.string [33]))).put (.string [33, 33]) (.lit (.string M.core))) (.string k) = _ ∧ ∀ p, _ → ∀ z, (((DataW.map []).put (.string [33]) (.lit (.string [33]))).put (.string [33, 33]) (.lit (.string M.core)) : DataW Unit).atKey (.string k) z = _
    rw [M.lk_nil]
    by_cases h2 : k = [33, 33]
    · subst h2
      refine ⟨?_, ?_⟩
      · rw [has_put_same (isMap_empty.put _ _) (show WideAt.IsKeyLit (.string _) from trivial)]; rfl
      · intro p hp z
        rw [atKey_put_same (isMap_empty.put _ _) (show WideAt.IsKeyLit (.string _) from trivial)]
        simp at hp; rw [← hp]
    · rw [has_put_other (ne_key h2)]
      by_cases h1 : k = [33]
      · subst h1
        refine ⟨?_, ?_⟩
        · rw [has_put_same isMap_empty (show WideAt.IsKeyLit (.string _) from trivial)]; rfl
        · intro p hp z
          rw [atKey_put_other (ne_key h2), atKey_put_same isMap_empty (show WideAt.IsKeyLit (.string _) from trivial)]
          simp at hp; rw [← hp]
      · rw [has_put_other (ne_key h1), if_neg h1, if_neg h2]
        exact ⟨rfl, fun p hp => by cases hp⟩
  · intro hs h ih
    obtain ⟨n, q⟩ := h
    rw [dm_snoc, M.lk_snoc]
    by_cases h1 : n = k
    · subst h1
      rw [has_put_same (dm_map hs) (show WideAt.IsKeyLit (.string _) from trivial), if_pos rfl]
      refine ⟨rfl, ?_⟩
      intro p hp z
      cases hp
      exact atKey_put_same (dm_map hs) (show WideAt.IsKeyLit (.string _) from trivial) _ _
    · rw [has_put_other (ne_key (fun e => h1 e.symm)), if_neg h1]
      refine ⟨ih.1, ?_⟩
      intro p hp z
      rw [atKey_put_other (ne_key (fun e => h1 e.symm))]
      exact ih.2 p hp z

theorem law : Keyed Try.prog 9 := string_keyed Try.underlying9
theorem zeroS (w : World) : (zeroValue 9).run Try.prog w = .ok (.string ⟨#[]⟩) w := Try.zeroValue9 w
theorem key_bA (l : List UInt8) (h : l.length ≤ maxLen) : keyOf Try.prog 9 (.string (bA l)) = some (.string l) := by
  have := keyOf_string_mk Try.underlying9 (s := bA l) (by rw [bA_size]; exact h)
  rw [bA_toList] at this; exact this
theorem el_bA (l : List UInt8) (h : l.length ≤ maxLen) : plainElem (H := Unit) Try.prog 9 (.string (bA l)) = some (.lit (.string l), []) := by
  have := plainElem_string (H := Unit) Try.underlying9 (s := bA l) (by rw [bA_size]; exact h)
  rw [bA_toList] at this; exact this
theorem el_inv {v : Value} {l : List UInt8} {ps : List MemPlace} (h : plainElem (H := Unit) Try.prog 9 v = some (.lit (.string l), ps)) : v = .string (bA l) := by
  unfold plainElem at h
  rw [Try.underlying9] at h
  cases v <;> simp at h
  rw [← h.2.1, bA_of]
/-- The map lies in block B. -/
def MapB (w : World) (B n : Nat) (hs : HL) : Prop := w.ownsMap Try.prog 9 (plainElem (H := Unit) Try.prog 9) B n (dm hs)
theorem MapB.look {w : World} {B n : Nat} {hs : HL} (h : MapB w B n hs) (k : List UInt8) (hk : k.length ≤ 140737488355328) :
    (Instr.lookup 44 (.map (some B)) (.string (bA k)) true).run Try.prog w = .ok (.tuple #[.string (bA ((M.lk hs k).getD [])), .bool (M.lk hs k).isSome]) w := by
  obtain ⟨v, ps, hrun, hv⟩ := World.ownsMap.look_ok h law Try.underlying44 (zeroS w) (el_bA [] (by simp [maxLen])) (key_bA k (by unfold maxLen; omega))
  obtain ⟨h1, h2⟩ := dm_look hs k
  rw [hrun, h1]
  cases hl : M.lk hs k with
  | none =>
    rw [hl] at h1
    rw [atKey_of_not_has h1] at hv
    rw [el_inv hv]; rfl
  | some p =>
    rw [h2 p hl] at hv
    rw [el_inv hv]; rfl

/-- A literal's entry, as a store. -/
theorem wpList_insert_own {H : Type} {P : Program} (w : World) {ops : Array Oper} {rest : List Oper} {o : Oper} {a : Act} {Q : Exit → Act → World → Prop}
    (hg : o.guard = none) (m x v : Operand) (t : TypeId) (hop : o.op = Op.insert t m x v)
    (k e : TypeId) (K : Keyed P k) (ht : P.underlying t = some (.map k e)) (R : Value → Option (DataW H × List MemPlace)) (b n : Nat) (D : DataW H)
    (hm : a.eval m = .map (some b)) (hown : w.ownsMap P k R b n D) (hn : n < maxLen) (key val : Value) (kl : Lit) (hx : a.eval x = key) (hv : a.eval v = val) (hkey : keyOf P k key = some kl)
    (d : DataW H) (ps : List MemPlace) (hval : R val = some (d, ps))
    (hK : ∀ w', w'.ownsMap P k R b (n + 1) (D.put kl d) → w.grownBy w' (some b) → wpList P ops Q rest (a.put o.dst undef) w') :
    wpList P ops Q (o :: rest) a w := by
  refine wpList_plain hg fun K' hK' => ?_
  obtain ⟨w', hrun, r1, r2⟩ := hown.update K ht hn hkey hval
  unfold Oper.wp
  simp [execOp, hop, hm, hx, hv, hrun, Result.andThen]
  exact hK' _ _ (hK w' r1 r2)

theorem wpList_ins {w : World} {ops : Array Oper} {rest : List Oper} {o : Oper} {a : Act} {Q : Exit → Act → World → Prop}
    (hgd : o.guard = none) (m x v : Operand) (hop : o.op = Op.insert 44 m x v) (b n : Nat) (D : DataW Unit)
    (hm : a.eval m = .map (some b)) (hown : w.ownsMap Try.prog 9 (plainElem (H := Unit) Try.prog 9) b n D) (hn : n < maxLen) (kx vx : List UInt8) (hx : a.eval x = .string (bA kx)) (hv : a.eval v = .string (bA vx)) (hk1 : kx.length ≤ 140737488355328) (hv1 : vx.length ≤ 140737488355328)
    (hK : ∀ w', w'.ownsMap Try.prog 9 (plainElem (H := Unit) Try.prog 9) b (n + 1) (D.put (.string kx) (.lit (.string vx))) → w.grownBy w' (some b) → wpList Try.prog ops Q rest (a.put o.dst undef) w') :
    wpList Try.prog ops Q (o :: rest) a w :=
  wpList_insert_own w hgd m x v 44 hop 9 9 law Try.underlying44 _ b n D hm hown hn _ _ _ hx hv (key_bA kx (by unfold maxLen; omega)) _ [] (el_bA vx (by unfold maxLen; omega)) hK
theorem wpList_upd {w : World} {ops : Array Oper} {rest : List Oper} {o : Oper} {a : Act} {Q : Exit → Act → World → Prop}
    (hgd : o.guard = none) (m x v : Operand) (hop : o.op = Op.mapUpdate 44 m x v) (b n : Nat) (D : DataW Unit)
    (hm : a.eval m = .map (some b)) (hown : w.ownsMap Try.prog 9 (plainElem (H := Unit) Try.prog 9) b n D) (hn : n < maxLen) (kx vx : List UInt8) (hx : a.eval x = .string (bA kx)) (hv : a.eval v = .string (bA vx)) (hk1 : kx.length ≤ 140737488355328) (hv1 : vx.length ≤ 140737488355328)
    (hK : ∀ w', w'.ownsMap Try.prog 9 (plainElem (H := Unit) Try.prog 9) b (n + 1) (D.put (.string kx) (.lit (.string vx))) → w.grownBy w' (some b) → wpList Try.prog ops Q rest (a.put o.dst undef) w') :
    wpList Try.prog ops Q (o :: rest) a w :=
  wpList_mapUpdate_own w hgd m x v 44 hop 9 9 law Try.underlying44 _ b n D hm hown hn _ _ _ hx hv (key_bA kx (by unfold maxLen; omega)) _ [] (el_bA vx (by unfold maxLen; omega)) hK
set_option maxRecDepth 100000 in
set_option maxHeartbeats 1000000 in
theorem prefixes_any (a : Option Addr) (cap : Nat) (hs : HL) (w : World) (hn : hs.length ≤ 1000) (hok : HsOk hs) (hin : InH w a hs) :
    Calls Try.prog 25 #[.slice a hs.length cap] w fun e w' => e = .returned (.map (some w.heap.size)) ∧ MapB w' w.heap.size (2 + hs.length) hs ∧ Below w.heap.size w w' := by
  have hmm := @run_makeMap Try.prog
  have h0 := World.ownsMap_made w Try.prog 9 (plainElem (H := Unit) Try.prog 9)
  have hb0 : Below w.heap.size w (w.alloc (.map #[] 0)) := (Below.refl _ _).alloc (Nat.le_refl _) _
  obtain ⟨g, hg⟩ : ∃ g, w.heap.size = g := ⟨_, rfl⟩
  rw [hg] at h0 hb0 ⊢
  go_enter Try.func25, Try.ntmps25
  go_wp2_with (first
    | (refine wpList_ins rfl (.tmp 6) _ _ rfl g 0 _ rfl h0 (by unfold maxLen; omega) [33] [33] rfl rfl (by simp) (by simp) ?_; intro w1 h1 hg1)
    | (refine wpList_ins rfl (.tmp 6) _ _ rfl g 1 _ rfl h1 (by unfold maxLen; omega) [33, 33] M.core rfl rfl (by simp) (by simp [M.core]) ?_; intro w2 h2 hg2)
    | fail)
  have hb2 : Below g w w2 := (hb0.grown hg1 (by have := hb0.size; omega) (fun j hj => by cases hj; exact Nat.le_refl _)).grown hg2 (by have := hb0.size; have := hg1.size; omega) (fun j hj => by cases hj; exact Nat.le_refl _)
  have h2' : MapB w2 g (2 + 0) (hs.take 0) := h2
  have HI := Lib.hid (fun W (h : Below g w W) => hin.next (hg ▸ h))
  clear h0 h1 hg1 hg2 hb0 h2 hin
  go_loopw [10] (fun iv wr => ∃ k : Nat, k ≤ hs.length ∧ iv = .int .i64 k ∧ MapB wr g (2 + k) (hs.take k) ∧ Below g w wr) (fun iv _ => hs.length - (intOf iv).toNat)
  case atStart => exact ⟨0, Nat.zero_le _, rfl, h2', hb2⟩
  case round =>
    clear h2' hb2
    obtain ⟨k, hk, rfl, hm, hb⟩ := hrel
    by_cases hlt : k < hs.length
    · have hltd : decide (k < hs.length) = true := decide_eq_true hlt
      have hlti : decide ((k : Int) < (hs.length : Int)) = true := decide_eq_true (by omega)
      obtain ⟨bb, off, rfl, hc, hbb⟩ := HI.out wr hb (by intro e; rw [e] at hlt; exact absurd hlt (by simp))
      obtain ⟨k0, k1⟩ := hc k hlt
      clear hc
      have hst : hs.take (k + 1) = hs.take k ++ [hs[k]] := by rw [List.take_succ_eq_append_getElem hlt]
      have hsz := hok hs[k] (List.getElem_mem hlt)
      obtain ⟨⟨hn1, hp1⟩, hh⟩ : ∃ h : List UInt8 × List UInt8, hs[k] = h := ⟨_, rfl⟩
      rw [hh] at hst k0 k1 hsz
      clear hh
      dsimp only at k0 k1 hsz
      have HS := Lib.hid hst
      clear hst
      have hb1 := hb.alloc (by have := hb.size; omega) (.cells #[.string (bA hn1), .string (bA hp1)] 39)
      have hm1 : World.ownsMap _ _ _ _ _ _ _ := World.ownsMap.alloc hm (.cells #[.string (bA hn1), .string (bA hp1)] 39)
      go_wp2_with (first
        | (refine wpList_upd rfl (.tmp 14) _ _ rfl g (2 + k) _ rfl hm1 (by unfold maxLen; omega) hn1 hp1 rfl rfl hsz.1 hsz.2 ?_; intro w3 h3 hg3)
        | fail)
      have h4 : MapB w3 g (2 + (k + 1)) (hs.take (k + 1)) := by
        rw [HS.out]
        unfold MapB
        rw [dm_snoc]
        exact h3
      have hb3 := hb1.grown hg3 (by have := hb1.size; omega) (fun j hj => by cases hj; exact Nat.le_refl _)
      clear h3 hg3 hb1 hm1 hm k0 k1
      go_wp2
      go_roundw
      case rel => exact ⟨k + 1, by omega, by go_num, h4, hb3⟩
      case measure => simp [intOf]; omega
    · obtain rfl : k = hs.length := by omega
      have hltd : decide (hs.length < hs.length) = false := by simp
      rw [List.take_length] at hm
      go_wp2
      go_ret
      exact ⟨rfl, hm, hb⟩
end Go.Proofs.Ytcahleaaicebbaa
