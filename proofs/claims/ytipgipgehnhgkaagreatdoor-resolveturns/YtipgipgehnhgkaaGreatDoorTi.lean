/- Walks: stamp's Of, Is. The law StampBack: its walk. -/
import Derived.Test.YtipgipgehnhgkaaGreatDoorTd
import Derived.Test.YtipgipgehnhgkaaGreatDoorTg
import Derived.Test.YtipgipgehnhgkaaGreatDoorTh
set_option linter.unusedVariables false
namespace Go.Proofs.YtipgipgehnhgkaaGreatDoor.S10
open Go.RowKit

/-- What is answered of a text's moment. -/
def ofV : Option (List UInt8) → Value
  | some a => .tuple #[.string (bA a), .bool true]
  | none => .tuple #[.string ⟨#[]⟩, .bool false]
theorem ofS_none {l : List UInt8} (h : M.rd l = none) : M.ofS l = none := by unfold M.ofS; rw [h]
theorem ofS_not {l : List UInt8} {X : M.Mo} (h : M.rd l = some X) (hm : M.may X = false) : M.ofS l = none := by
  unfold M.ofS; rw [h]
  show (if M.may X = true then _ else none) = none
  rw [hm]; rfl
theorem ofS_date {l : List UInt8} {X : M.Mo} (h : M.rd l = some X) (hm : M.may X = true) (ht : X.td = false) : M.ofS l = some l := by
  unfold M.ofS; rw [h]
  show (if M.may X = true then (if X.td = true then _ else _) else none) = _
  rw [hm, ht]; rfl
theorem ofS_time {l : List UInt8} {X : M.Mo} (h : M.rd l = some X) (hm : M.may X = true) (ht : X.td = true) : M.ofS l = M.zt X := by
  unfold M.ofS; rw [h]
  show (if M.may X = true then (if X.td = true then _ else _) else none) = _
  rw [hm, ht]; rfl
set_option maxRecDepth 100000 in
set_option maxHeartbeats 4000000 in
theorem of_any (s : ByteArray) (w : World) (ht : Tab w) (hs : s.size ≤ 1000) :
    Calls Tryz.prog 25 #[.string s] w fun e w' => e = .returned (ofV (M.ofS s.data.toList)) ∧ Below w.heap.size w w' := by
  obtain ⟨R, hR⟩ : ∃ R, ofV (M.ofS s.data.toList) = R := ⟨_, rfl⟩
  rw [hR]
  have HR := Lib.hid hR
  clear hR
  have cR := fun W => read_any s W hs
  have cC := fun W => clone_any s W (by omega)
  go_enter Tryz.func25, Tryz.ntmps25
  go_wp2_with fail
  refine (cR _).mono ?_
  rintro r w1 ⟨hb, X, b, rfl, hT⟩
  clear cR
  cases b
  · rw [if_neg (by decide)] at hT
    have HT := Lib.hid hT
    have HB := Lib.hid hb
    clear hT hb cC
    go_wp2_with (first | (refine wpList_store_row rfl 70 (.tmp 4) (.tmp 9) rfl w1.heap.size (mcs X) rfl rfl 70 _ (heap_alloc_new w1 _) info_mo rfl (vcs_one _ _) ?_; rw [World.setRow_alloc_new]) | fail)
    go_ret2
    exact ⟨by rw [← HR.out, ofS_none HT.out]; rfl, HB.out.alloc HB.out.size _⟩
  · rw [if_pos rfl] at hT
    obtain ⟨hy, hfr⟩ := M.y_rd hT
    rw [← sz_list] at hfr
    have hX : MB (w1.alloc (.cells (mcs X) 70)) w1.heap.size X := heap_alloc_new w1 _
    have hb2 : Below w.heap.size w (w1.alloc (.cells (mcs X) 70)) := hb.alloc hb.size _
    have hg0 : w.heap.size ≤ w1.heap.size := hb.size
    have HTX := Lib.hid hT
    clear hb hT
    go_upto_region 2 with (first | (refine wpList_store_row rfl 70 (.tmp 4) (.tmp 9) rfl w1.heap.size (mcs X) rfl rfl 70 _ (heap_alloc_new w1 _) info_mo rfl (vcs_one _ _) ?_; rw [World.setRow_alloc_new]) | fail)
    obtain ⟨g, hg⟩ : ∃ g, w1.heap.size = g := ⟨_, rfl⟩
    rw [hg] at hX hg0 ⊢
    generalize w1.alloc (.cells (mcs X) 70) = W2 at hX hb2 ⊢
    clear hg
    have cM := fun W => may_any X W hy
    have ht2 : Tab W2 := ht.below hb2 (Nat.le_refl _)
    have HB2 := Lib.hid hb2
    have HX := Lib.hid hX
    clear hb2
    by_cases hmay : M.may X = true
    · rw [hmay] at cM
      obtain ⟨k0, k1, k2, k3, k4, k5, k6, k7, k8, k9, k10⟩ := hX.cells
      go_wp2_with fail
      refine (cM _).mono ?_
      rintro r w3 ⟨rfl, hb3⟩
      have hX3 : MB w3 g X := HX.out.next hb3
      have HB3 : Hid (Below w.heap.size w w3) := HB2.out.trans (hb3.mono HB2.out.size)
      have ht3 : Tab w3 := ht2.next hb3
      clear k0 k1 k2 k3 k4 k5 k6 k7 k8 k9 k10
      obtain ⟨_, _, _, k3, _⟩ := hX3.cells
      clear cM hX HX hb3 ht2 HB2
      cases htd : X.td
      · have HQ : Hid (M.ofS s.data.toList = some s.data.toList) := ofS_date HTX.out hmay htd
        rw [htd] at k3
        clear hX3 htd hmay
        go_wp2_with fail
        refine (cC _).mono ?_
        rintro r w4 ⟨rfl, hb4⟩
        have HB4 : Hid (Below w.heap.size w w4) := HB3.out.trans (hb4.mono HB3.out.size)
        clear cC hb4
        go_wp2
        go_ret2
        have e1 : ofV (some s.data.toList) = .tuple #[.string s, .bool true] := by show Value.tuple #[.string (bA s.data.toList), _] = _; rw [bA_of]
        exact ⟨by rw [← HR.out, HQ.out, e1]; rfl, HB4.out⟩
      · have hzt0 : M.ofS s.data.toList = M.zt X := ofS_time HTX.out hmay htd
        rw [htd] at k3
        have cZ := fun W => toZ_any X W hmay hy
        have hzy := fun (h1 : M.early X = false) (h2 : (M.zy X).1 ≤ 9999) => M.zy_ok hmay h1 h2
        have hse : X.se < 60 := ((M.may_iff X).1 hmay).2.1.2.2
        have hyy : zY X = if M.early X then -1 else ((M.zy X).1 : Int) := rfl
        have hzt : M.zt X = if M.early X then none else if 9999 < (M.zy X).1 then none else some (tx5 (zM X)) := rfl
        have hzm : (zM X).y = (M.zy X).1 ∧ (zM X).m = (M.zy X).2.1 ∧ (zM X).d = (M.zy X).2.2.1 ∧ (zM X).h = (M.zy X).2.2.2 / 60 ∧ (zM X).mi = (M.zy X).2.2.2 % 60 ∧ (zM X).se = X.se ∧ (zM X).fr = X.fr := ⟨rfl, rfl, rfl, rfl, rfl, rfl, rfl⟩
        rw [hzt] at hzt0
        generalize zY X = YY at *
        generalize zM X = ZM at *
        generalize M.zy X = q at *
        have hX3' : VB w3 g X.y X := hX3
        clear htd hmay hX3 cC hzt
        have HZT := Lib.hid hzt0
        have HYY := Lib.hid hyy
        have HZM := Lib.hid hzm
        have HZY := Lib.hid hzy
        clear hzt0 hyy hzm hzy
        go_wp2_with (first | (refine wpList_load_row rfl 70 (.tmp 4) rfl g rfl 70 (mcs X) (0, 0) _ hX3' Tryz.underlying70 rfl info_mo ?_) | fail)
        refine (cZ _).mono ?_
        rintro r w4 ⟨rfl, hb4⟩
        have hX4 := hX3'.next hb4
        have hV := hX4.row YY ZM
        have HB5 : Hid (Below w.heap.size w (w4.setRow g (vcs YY ZM))) := below_setRow (HB3.out.trans (hb4.mono HB3.out.size)) hg0 _
        have ht5 : Tab (w4.setRow g (vcs YY ZM)) := ht.below HB5.out (Nat.le_refl _)
        obtain ⟨q0, _⟩ := hV.cells
        clear cZ hX3' hb4 ht3 HB3 k3
        go_upto_region 7 with (first | (refine wpList_store_row rfl 70 (.tmp 4) (.tmp 26) rfl g (vcs YY ZM) rfl rfl 70 _ hX4 info_mo rfl (vcs_one _ _) ?_) | fail)
        clear hX4
        generalize w4.setRow g (vcs YY ZM) = W5 at hV HB5 ht5 q0 ⊢
        have hyy := HYY.out
        have hzm := HZM.out
        have hzy := HZY.out
        clear HYY HZM HZY
        cases he : M.early X
        · rw [he] at hyy hzy
          obtain ⟨z1, z2, z3, z4, z5, z6, z7⟩ := hzm
          have hyy2 : YY = (q.1 : Int) := hyy
          subst hyy2
          clear hyy
          have d1 : decide ((q.1 : Int) < 0) = false := decide_eq_false (by omega)
          by_cases h9 : 9999 < q.1
          · have d2 : decide ((9999 : Int) < (q.1 : Int)) = true := decide_eq_true (by omega)
            have d3 : decide (9999 < q.1) = true := decide_eq_true h9
            have HQ : Hid (M.ofS s.data.toList = none) := by show _ = _; rw [HZT.out, if_neg (by rw [he]; decide), if_pos h9]
            clear hV hzy h9 he
            go_wp2
            go_ret2
            exact ⟨by rw [← HR.out, HQ.out]; rfl, HB5.out⟩
          · have d2 : decide ((9999 : Int) < (q.1 : Int)) = false := decide_eq_false (by omega)
            have d3 : decide (9999 < q.1) = false := decide_eq_false h9
            have HQ : Hid (M.ofS s.data.toList = some (tx5 ZM)) := by show _ = _; rw [HZT.out, if_neg (by rw [he]; decide), if_neg h9]
            obtain ⟨m1, m2, e1, e2, n1⟩ := hzy rfl (by omega)
            have hdl := M.days_le q.1 q.2.1
            have cT := fun W (hT : Tab W) => text_any ZM W hT (by omega) (by omega) (by omega) (by omega) (by omega) (by omega) (by rw [z7]; omega)
            have hV2 : VB W5 g (q.1 : Int) ZM := hV
            rw [← z1] at hV2 q0 d1 d2 d3
            have hV3 : MB W5 g ZM := hV2
            clear hV hV2 hzy h9 he z1 z2 z3 z4 z5 z6 z7 m1 m2 e1 e2 n1 hdl
            go_wp2_with (first | (refine wpList_load_row rfl 70 (.tmp 4) rfl g rfl 70 (mcs ZM) (0, 0) _ hV3 Tryz.underlying70 rfl info_mo ?_) | fail)
            refine (cT _ ht5).mono ?_
            rintro r w6 ⟨rfl, hb6⟩
            have HB6 : Hid (Below w.heap.size w w6) := HB5.out.trans (hb6.mono HB5.out.size)
            clear cT hb6
            go_wp2
            go_ret2
            exact ⟨by rw [← HR.out, HQ.out]; rfl, HB6.out⟩
        · rw [he] at hyy
          have hyy2 : YY = -1 := hyy
          subst hyy2
          clear hyy
          have HQ : Hid (M.ofS s.data.toList = none) := by show _ = _; rw [HZT.out, if_pos he]
          clear hV hzy he hzm
          go_wp2
          go_ret2
          exact ⟨by rw [← HR.out, HQ.out]; rfl, HB5.out⟩
    · have hmf : M.may X = false := by simpa using hmay
      have HQ : Hid (M.ofS s.data.toList = none) := ofS_not HTX.out hmf
      rw [hmf] at cM
      clear hmay hmf
      obtain ⟨k0, k1, k2, k3, k4, k5, k6, k7, k8, k9, k10⟩ := hX.cells
      go_wp2_with fail
      refine (cM _).mono ?_
      rintro r w3 ⟨rfl, hb3⟩
      have HB3 : Hid (Below w.heap.size w w3) := HB2.out.trans (hb3.mono HB2.out.size)
      clear cM hX hb3 ht2 HB2 k0 k1 k2 k3 k4 k5 k6 k7 k8 k9 k10
      go_wp2
      go_ret2
      exact ⟨by rw [← HR.out, HQ.out]; rfl, HB3.out⟩
end Go.Proofs.YtipgipgehnhgkaaGreatDoor.S10

namespace Go.Proofs.YtipgipgehnhgkaaGreatDoor.S10
open Go.RowKit

theorem dW_len (l : List UInt8) : (M.tz l).length ≤ l.length := by
  unfold M.tz
  rw [List.length_reverse]
  have := (List.dropWhile_sublist (fun x : UInt8 => x == 48) (l := l.reverse)).length_le
  rwa [List.length_reverse] at this
theorem ttx_len (y m d n se : Nat) (f : List UInt8) : (M.ttx y m d n se f).length ≤ 21 + f.length := by
  unfold M.ttx M.dot
  have := dW_len f
  split <;> simp only [List.length_append, List.length_cons, M.len_d2, M.len_d4, List.length_nil] <;> omega
theorem of_len {l a : List UInt8} (h : M.ofS l = some a) : a.length ≤ l.length + 21 := by
  unfold M.ofS at h
  split at h
  · cases h
  · rename_i X hX
    have hf := (M.y_rd hX).2
    split at h
    · split at h
      · unfold M.zt at h
        split at h
        · cases h
        · split at h
          · cases h
          · rw [← Option.some.inj h]
            have := ttx_len (M.zy X).1 (M.zy X).2.1 (M.zy X).2.2.1 (M.zy X).2.2.2 X.se X.fr
            omega
      · rw [← Option.some.inj h]; omega
    · cases h
end Go.Proofs.YtipgipgehnhgkaaGreatDoor.S10
