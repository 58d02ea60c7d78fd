/- Walks: stamp's text. -/
import Derived.Test.YtipgipgehnhgkaaGreatDoorTg
import Derived.Test.YtipgipgehnhgkaaGreatDoorTe
import Derived.Deep.RegionHeld3
set_option linter.unusedVariables false
namespace Go.Proofs.YtipgipgehnhgkaaGreatDoor.S10
open Go.RowKit

/-- The text of a time in the zone Z, of its parts. -/
def tx5 (X : M.Mo) : List UInt8 := M.d4 X.y ++ (45 :: (M.d2 X.m ++ (45 :: (M.d2 X.d ++ (84 :: (M.d2 X.h ++ (58 :: (M.d2 X.mi ++ (58 :: (M.d2 X.se ++ (M.dot (M.tz X.fr) ++ [90])))))))))))
theorem lift_S {S : World → Prop} {W0 w : World} {f : Nat} {args : Array Value} {e0 : Ending} (hs : ∀ w', Below W0.heap.size W0 w' → S w') (hb : ∀ w', S w' → Below W0.heap.size W0 w') (c : Calls Tryz.prog f args w fun e w' => e = e0 ∧ Below w.heap.size w w') (h : S w) : Calls Tryz.prog f args w fun e w' => e = e0 ∧ S w' :=
  c.mono fun e w' hh => ⟨hh.1, hs _ ((hb _ h).trans (hh.2.mono (hb _ h).size))⟩
theorem d2_size (n : Nat) : (bA (M.d2 n)).size = 2 := bA_size _
theorem d4_size (n : Nat) : (bA (M.d4 n)).size = 4 := bA_size _
set_option maxRecDepth 100000 in
set_option maxHeartbeats 4000000 in
theorem text_any (X : M.Mo) (w : World) (ht : Tab w) (hy : X.y < 10000) (hm : X.m < 100) (hd : X.d < 100) (hh : X.h < 100) (hmi : X.mi < 100) (hse : X.se < 100) (hf : X.fr.length ≤ 2000) :
    Calls Tryz.prog 59 #[.agg (mcs X)] w fun e w' => e = .returned (.string (bA (tx5 X))) ∧ Below w.heap.size w w' := by
  obtain ⟨W1, hW1, hM, hb⟩ := boxed w X
  have hT1 : Tab W1 := ht.next hb
  obtain ⟨g, hg⟩ : ∃ g, w.heap.size = g := ⟨_, rfl⟩
  rw [hg] at hM
  have cY := fun W (hT : Tab W) => pad4_any X.y W hT hy
  have cM := fun W (hT : Tab W) => pad2_any X.m W hT hm
  have cD := fun W (hT : Tab W) => pad2_any X.d W hT hd
  have cH := fun W (hT : Tab W) => pad2_any X.h W hT hh
  have cI := fun W (hT : Tab W) => pad2_any X.mi W hT hmi
  have cS := fun W (hT : Tab W) => pad2_any X.se W hT hse
  have cT := fun W => trim_any (bA X.fr) W (by rw [bA_size]; omega)
  rw [bA_toList] at cT
  have zY : (bA (M.d4 X.y)).size ≤ 4 := by rw [d4_size]; omega
  have zM : (bA (M.d2 X.m)).size ≤ 2 := by rw [d2_size]; omega
  have zD : (bA (M.d2 X.d)).size ≤ 2 := by rw [d2_size]; omega
  have zH : (bA (M.d2 X.h)).size ≤ 2 := by rw [d2_size]; omega
  have zI : (bA (M.d2 X.mi)).size ≤ 2 := by rw [d2_size]; omega
  have zS : (bA (M.d2 X.se)).size ≤ 2 := by rw [d2_size]; omega
  have zF : (bA (M.tz X.fr)).size ≤ 2000 := by
    rw [bA_size]
    have : (M.tz X.fr).length ≤ X.fr.length := by
      unfold M.tz
      rw [List.length_reverse]
      have := (List.dropWhile_sublist (fun x : UInt8 => x == 48) (l := X.fr.reverse)).length_le
      rwa [List.length_reverse] at this
    omega
  have hfin : bA (M.d4 X.y) ++ ⟨#[45]⟩ ++ bA (M.d2 X.m) ++ ⟨#[45]⟩ ++ bA (M.d2 X.d) ++ ⟨#[84]⟩ ++ (bA (M.d2 X.h) ++ ⟨#[58]⟩ ++ bA (M.d2 X.mi) ++ ⟨#[58]⟩ ++ bA (M.d2 X.se)) ++ bA (M.dot (M.tz X.fr)) ++ ⟨#[90]⟩ = bA (tx5 X) := by
    apply eq_bA
    simp only [append_list, bA_toList]
    unfold tx5
    simp
  have hdot : bA (M.dot (M.tz X.fr)) = if M.tz X.fr = [] then bA (M.tz X.fr) else ⟨#[46]⟩ ++ bA (M.tz X.fr) := by
    unfold M.dot
    split
    · rename_i h; rw [h]
    · symm; apply eq_bA; rw [append_list, bA_toList]; rfl
  have hne : ((bA (M.tz X.fr)).toList == []) = decide (M.tz X.fr = []) := by
    rw [ByteArray.toList_eq, bA_toList, Bool.eq_iff_iff, beq_iff_eq, decide_eq_true_iff]
  obtain ⟨k0, k1, k2, k3, k4, k5, k6, k7, _, _, _⟩ := hM.cells
  have hK : ∀ w', Below W1.heap.size W1 w' → MB w' g X := fun w' h => hM.next h
  have HB := Lib.hid hb
  have HF := Lib.hid hfin
  have HDOT := Lib.hid hdot
  have HNE := Lib.hid hne
  have HW := Lib.hid hW1
  clear hb hfin hdot hne hM
  generalize bA (M.d4 X.y) = SY at *
  generalize bA (M.d2 X.m) = SM at *
  generalize bA (M.d2 X.d) = SD at *
  generalize bA (M.d2 X.h) = SH at *
  generalize bA (M.d2 X.mi) = SI at *
  generalize bA (M.d2 X.se) = SS at *
  generalize bA (M.tz X.fr) = SF at *
  generalize bA (M.dot (M.tz X.fr)) = SG at *
  go_enter Tryz.func59, Tryz.ntmps59
  go_wp2_with fail
  have hS1 : ∀ w', Below W1.heap.size W1 w' → (w'.cell? ⟨g, 0, none⟩ = some (.int .i64 X.y) ∧ w'.cell? ⟨g, 1, none⟩ = some (.int .i64 X.m) ∧ w'.cell? ⟨g, 2, none⟩ = some (.int .i64 X.d) ∧ Below W1.heap.size W1 w') := by
    intro w' h
    obtain ⟨a0, a1, a2, _⟩ := (hK w' h).cells
    exact ⟨a0, a1, a2, h⟩
  have hS1b : ∀ w', (w'.cell? ⟨g, 0, none⟩ = some (.int .i64 X.y) ∧ w'.cell? ⟨g, 1, none⟩ = some (.int .i64 X.m) ∧ w'.cell? ⟨g, 2, none⟩ = some (.int .i64 X.d) ∧ Below W1.heap.size W1 w') → Below W1.heap.size W1 w' := fun w' h => h.2.2.2
  have HS1 := Lib.hid hS1
  have HS1b := Lib.hid hS1b
  have HK := Lib.hid hK
  have HT1 : Hid (∀ w', Below W1.heap.size W1 w' → Tab w') := fun w' h => hT1.next h
  clear hS1 hS1b hK
  have a1 : ∀ W, (Op.stringOp .add (SY) ⟨#[45]⟩).run Tryz.prog W = .ok (.string (SY ++ ⟨#[45]⟩)) W := fun W => run_string_add_sum _ _ _ (by have z1 : (⟨#[45]⟩ : ByteArray).size = 1 := rfl; first | omega | (simp only [append_sz]; omega))
  have a2 : ∀ W, (Op.stringOp .add (SY ++ ⟨#[45]⟩) SM).run Tryz.prog W = .ok (.string (SY ++ ⟨#[45]⟩ ++ SM)) W := fun W => run_string_add_sum _ _ _ (by have z1 : (⟨#[45]⟩ : ByteArray).size = 1 := rfl; first | omega | (simp only [append_sz]; omega))
  have a3 : ∀ W, (Op.stringOp .add (SY ++ ⟨#[45]⟩ ++ SM) ⟨#[45]⟩).run Tryz.prog W = .ok (.string (SY ++ ⟨#[45]⟩ ++ SM ++ ⟨#[45]⟩)) W := fun W => run_string_add_sum _ _ _ (by have z1 : (⟨#[45]⟩ : ByteArray).size = 1 := rfl; first | omega | (simp only [append_sz]; omega))
  have a4 : ∀ W, (Op.stringOp .add (SY ++ ⟨#[45]⟩ ++ SM ++ ⟨#[45]⟩) SD).run Tryz.prog W = .ok (.string (SY ++ ⟨#[45]⟩ ++ SM ++ ⟨#[45]⟩ ++ SD)) W := fun W => run_string_add_sum _ _ _ (by have z1 : (⟨#[45]⟩ : ByteArray).size = 1 := rfl; first | omega | (simp only [append_sz]; omega))
  go_region_held3 (fun w' => w'.cell? ⟨g, 0, none⟩ = some (.int .i64 X.y) ∧ w'.cell? ⟨g, 1, none⟩ = some (.int .i64 X.m) ∧ w'.cell? ⟨g, 2, none⟩ = some (.int .i64 X.d) ∧ Below W1.heap.size W1 w')
    (first | exact hS | exact HS1.out _ (Below.refl _ _).drew)
    (first
      | (go_at_call 107; (with_reducible refine (lift_S HS1.out HS1b.out (cY _ (HT1.out _ (‹_ ∧ _ ∧ _ ∧ Below _ _ _›).2.2.2)) ?_).mono ?_); (exact ‹_ ∧ _ ∧ _ ∧ Below _ _ _›); rintro r w2 ⟨rfl, hS⟩)
      | (go_at_call 107; (with_reducible refine (lift_S HS1.out HS1b.out (cM _ (HT1.out _ (‹_ ∧ _ ∧ _ ∧ Below _ _ _›).2.2.2)) ?_).mono ?_); (exact ‹_ ∧ _ ∧ _ ∧ Below _ _ _›); rintro r w2 ⟨rfl, hS⟩)
      | (go_at_call 107; (with_reducible refine (lift_S HS1.out HS1b.out (cD _ (HT1.out _ (‹_ ∧ _ ∧ _ ∧ Below _ _ _›).2.2.2)) ?_).mono ?_); (exact ‹_ ∧ _ ∧ _ ∧ Below _ _ _›); rintro r w2 ⟨rfl, hS⟩))
  clear a1 a2 a3 a4
  have HB2 : Below W1.heap.size W1 w2 := hS.2.2.2
  clear hS HS1 HS1b
  go_wp2_with fail
  have hS1 : ∀ w', Below W1.heap.size W1 w' → (w'.cell? ⟨g, 4, none⟩ = some (.int .i64 X.h) ∧ w'.cell? ⟨g, 5, none⟩ = some (.int .i64 X.mi) ∧ w'.cell? ⟨g, 6, none⟩ = some (.int .i64 X.se) ∧ Below W1.heap.size W1 w') := by
    intro w' h
    obtain ⟨_, _, _, _, a0, a1, a2, _⟩ := (HK.out w' h).cells
    exact ⟨a0, a1, a2, h⟩
  have hS1b : ∀ w', (w'.cell? ⟨g, 4, none⟩ = some (.int .i64 X.h) ∧ w'.cell? ⟨g, 5, none⟩ = some (.int .i64 X.mi) ∧ w'.cell? ⟨g, 6, none⟩ = some (.int .i64 X.se) ∧ Below W1.heap.size W1 w') → Below W1.heap.size W1 w' := fun w' h => h.2.2.2
  have HS1 := Lib.hid hS1
  have HS1b := Lib.hid hS1b
  have HB3 := Lib.hid HB2
  clear hS1 hS1b HB2
  have a1 : ∀ W, (Op.stringOp .add (SH) ⟨#[58]⟩).run Tryz.prog W = .ok (.string (SH ++ ⟨#[58]⟩)) W := fun W => run_string_add_sum _ _ _ (by have z1 : (⟨#[58]⟩ : ByteArray).size = 1 := rfl; first | omega | (simp only [append_sz]; omega))
  have a2 : ∀ W, (Op.stringOp .add (SH ++ ⟨#[58]⟩) SI).run Tryz.prog W = .ok (.string (SH ++ ⟨#[58]⟩ ++ SI)) W := fun W => run_string_add_sum _ _ _ (by have z1 : (⟨#[58]⟩ : ByteArray).size = 1 := rfl; first | omega | (simp only [append_sz]; omega))
  have a3 : ∀ W, (Op.stringOp .add (SH ++ ⟨#[58]⟩ ++ SI) ⟨#[58]⟩).run Tryz.prog W = .ok (.string (SH ++ ⟨#[58]⟩ ++ SI ++ ⟨#[58]⟩)) W := fun W => run_string_add_sum _ _ _ (by have z1 : (⟨#[58]⟩ : ByteArray).size = 1 := rfl; first | omega | (simp only [append_sz]; omega))
  have a4 : ∀ W, (Op.stringOp .add (SH ++ ⟨#[58]⟩ ++ SI ++ ⟨#[58]⟩) SS).run Tryz.prog W = .ok (.string (SH ++ ⟨#[58]⟩ ++ SI ++ ⟨#[58]⟩ ++ SS)) W := fun W => run_string_add_sum _ _ _ (by have z1 : (⟨#[58]⟩ : ByteArray).size = 1 := rfl; first | omega | (simp only [append_sz]; omega))
  go_region_held3 (fun w' => w'.cell? ⟨g, 4, none⟩ = some (.int .i64 X.h) ∧ w'.cell? ⟨g, 5, none⟩ = some (.int .i64 X.mi) ∧ w'.cell? ⟨g, 6, none⟩ = some (.int .i64 X.se) ∧ Below W1.heap.size W1 w')
    (first | exact hS | exact HS1.out _ HB3.out.drew)
    (first
      | (go_at_call 107; (with_reducible refine (lift_S HS1.out HS1b.out (cH _ (HT1.out _ (‹_ ∧ _ ∧ _ ∧ Below _ _ _›).2.2.2)) ?_).mono ?_); (exact ‹_ ∧ _ ∧ _ ∧ Below _ _ _›); rintro r w3 ⟨rfl, hS⟩)
      | (go_at_call 107; (with_reducible refine (lift_S HS1.out HS1b.out (cI _ (HT1.out _ (‹_ ∧ _ ∧ _ ∧ Below _ _ _›).2.2.2)) ?_).mono ?_); (exact ‹_ ∧ _ ∧ _ ∧ Below _ _ _›); rintro r w3 ⟨rfl, hS⟩)
      | (go_at_call 107; (with_reducible refine (lift_S HS1.out HS1b.out (cS _ (HT1.out _ (‹_ ∧ _ ∧ _ ∧ Below _ _ _›).2.2.2)) ?_).mono ?_); (exact ‹_ ∧ _ ∧ _ ∧ Below _ _ _›); rintro r w3 ⟨rfl, hS⟩))
  clear a1 a2 a3 a4
  have B4 : Below W1.heap.size W1 w3 := hS.2.2.2
  obtain ⟨_, _, _, _, _, _, _, q7, _⟩ := (HK.out w3 B4).cells
  have HB4 : Hid (Below w.heap.size w w3) := HB.out.trans (B4.mono HB.out.size)
  clear hS HS1 HS1b HB3 B4 cY cM cD cH cI cS k0 k1 k2 k3 k4 k5 k6 k7
  go_wp2_with fail
  refine (cT _).mono ?_
  rintro r w4 ⟨rfl, rfl⟩
  clear cT
  by_cases hz : M.tz X.fr = []
  · have e1 : SG = SF := by rw [HDOT.out, if_pos hz]
    have e2 : (SF.toList == []) = true := by rw [HNE.out]; exact decide_eq_true hz
    have e3 : SF.toList.isEmpty = true := by simpa [List.isEmpty_iff] using e2
    subst e1
    clear hz
    go_wp2
    go_ret
    exact ⟨ret_str HF.out, HB4.out⟩
  · have e1 : SG = ⟨#[46]⟩ ++ SF := by rw [HDOT.out, if_neg hz]
    have e2 : (SF.toList == []) = false := by rw [HNE.out]; exact decide_eq_false hz
    have e3 : SF.toList.isEmpty = false := by simpa [List.isEmpty_iff] using e2
    subst e1
    clear hz
    go_wp2
    go_ret
    exact ⟨ret_str HF.out, HB4.out⟩
end Go.Proofs.YtipgipgehnhgkaaGreatDoor.S10
