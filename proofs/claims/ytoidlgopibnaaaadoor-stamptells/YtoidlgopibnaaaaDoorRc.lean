/- Walks: targumref10's zone. -/
import Derived.Test.YtoidlgopibnaaaaDoorRb
set_option linter.unusedVariables false
namespace Go.Proofs.YtoidlgopibnaaaaDoor
open Go.RowKit

/-- What zone answers: minutes, and that it is one. -/
def zoV : Option M.Mo → Value
  | none => .tuple #[.int .i64 0, .bool false]
  | some Y => if M.mayZ Y = true then .tuple #[.int .i64 (M.off Y), .bool true] else .tuple #[.int .i64 0, .bool false]
theorem ret_zo {a b : Int} {t : Bool} (h : a = b) : Ending.returned (.tuple #[.int .i64 a, .bool t]) = .returned (.tuple #[.int .i64 b, .bool t]) := by rw [h]
theorem hour_no (Y : M.Mo) (l : List UInt8) (h : M.cnt 2 l = 0) : M.cHour Y l = none := by unfold M.cHour; rw [if_pos h]
theorem hour_end (s : ByteArray) (Y : M.Mo) (k : Nat) (h : ¬ M.cnt 2 (s.data.toList.drop k) = 0) (he : k + M.cnt 2 (s.data.toList.drop k) = s.size) :
    M.cHour Y (s.data.toList.drop k) = some { Y with zh := M.nv 2 0 (s.data.toList.drop k) } := by
  unfold M.cHour
  rw [if_neg h, List.drop_drop, he, drop_nil s _ (Nat.le_refl _), if_neg (by simp)]
  unfold M.cLast; rw [if_pos rfl]
theorem hour_bad (s : ByteArray) (Y : M.Mo) (k : Nat) (h : ¬ M.cnt 2 (s.data.toList.drop k) = 0) (he : k + M.cnt 2 (s.data.toList.drop k) < s.size) (hb : s[k + M.cnt 2 (s.data.toList.drop k)] ≠ 58) :
    M.cHour Y (s.data.toList.drop k) = none := by
  unfold M.cHour
  rw [if_neg h, List.drop_drop, drop_cons s _ he, if_neg (by simpa using hb)]
  unfold M.cLast; rw [if_neg (by simp)]
theorem hour_min (s : ByteArray) (Y : M.Mo) (k : Nat) (h : ¬ M.cnt 2 (s.data.toList.drop k) = 0) (he : k + M.cnt 2 (s.data.toList.drop k) < s.size) (hb : s[k + M.cnt 2 (s.data.toList.drop k)] = 58) :
    M.cHour Y (s.data.toList.drop k) = M.cMin { Y with zh := M.nv 2 0 (s.data.toList.drop k) } (s.data.toList.drop (k + M.cnt 2 (s.data.toList.drop k) + 1)) := by
  unfold M.cHour
  rw [if_neg h, List.drop_drop, drop_cons s _ he, if_pos (by simpa using hb), List.drop_drop]
  rfl
theorem min_no (Y : M.Mo) (l : List UInt8) (h : ¬ M.cnt 2 l = 2) : M.cMin Y l = none := by unfold M.cMin; rw [if_neg h]
theorem min_end (s : ByteArray) (Y : M.Mo) (k : Nat) (h : M.cnt 2 (s.data.toList.drop k) = 2) (he : k + 2 = s.size) :
    M.cMin Y (s.data.toList.drop k) = some { Y with zm := M.nv 2 0 (s.data.toList.drop k) } := by
  unfold M.cMin
  rw [if_pos h, List.drop_drop, he, drop_nil s _ (Nat.le_refl _)]
  unfold M.cLast; rw [if_pos rfl]
theorem min_bad (s : ByteArray) (Y : M.Mo) (k : Nat) (h : M.cnt 2 (s.data.toList.drop k) = 2) (he : k + 2 < s.size) : M.cMin Y (s.data.toList.drop k) = none := by
  unfold M.cMin
  rw [if_pos h, List.drop_drop, drop_cons s _ he]
  unfold M.cLast; rw [if_neg (by simp)]
theorem zo_high (T : Option M.Mo) (V : Nat) (hV : 23 < V) (h : ∀ Y, T = some Y → Y.zh = V) : zoV T = .tuple #[.int .i64 0, .bool false] := by
  cases T with
  | none => rfl
  | some Y => unfold zoV; simp only; rw [if_neg]; rw [M.mayZ, h Y rfl]; simp; omega
theorem zh_hour (Y Z : M.Mo) (l : List UInt8) (h : M.cHour Y l = some Z) : Z.zh = M.nv 2 0 l := by
  have hl : ∀ (A : M.Mo) (r : List UInt8), M.cLast A r = some Z → Z = A := fun A r => M.fr_cLast
  unfold M.cHour at h
  split at h
  · exact nomatch h
  · split at h
    · unfold M.cMin at h
      split at h
      · rw [hl _ _ h]
      · exact nomatch h
    · rw [hl _ _ h]
theorem dgV_few (s : ByteArray) (i l m : Nat) (h : M.cnt m (s.data.toList.drop i) < l) : dgV s i l m = noV := by unfold dgV; rw [if_pos h]; rfl
theorem dgV_some (s : ByteArray) (i l m : Nat) (h : ¬ M.cnt m (s.data.toList.drop i) < l) :
    dgV s i l m = .tuple #[.int .i64 (M.nv m 0 (s.data.toList.drop i) : Nat), .int .i64 ((i + M.cnt m (s.data.toList.drop i) : Nat) : Int)] := by unfold dgV; rw [if_neg h]

set_option maxRecDepth 100000 in
set_option maxHeartbeats 2000000 in
theorem zone_any (s : ByteArray) (c : Nat) (X : M.Mo) (w : World) (hs : s.size ≤ 100000) (hc : c ≤ s.size) (hX : X.bh = false ∧ X.zh = 0 ∧ X.zm = 0) :
    Calls Tryd.prog 37 #[.string s, .int .i64 c] w fun e w' => e = .returned (zoV (M.cClk X (s.data.toList.drop c))) ∧ Below w.heap.size w w' := by
  obtain ⟨R, hR⟩ : ∃ R, zoV (M.cClk X (s.data.toList.drop c)) = R := ⟨_, rfl⟩
  rw [hR]
  by_cases hcs : c = s.size
  · subst hcs
    have hR2 : R = .tuple #[.int .i64 0, .bool true] := by
      rw [← hR, drop_nil s _ (Nat.le_refl _)]
      unfold M.cClk; rw [if_pos rfl]; unfold zoV; simp [M.mayZ, M.off, hX]
    clear hR hX
    subst hR2
    have d1 : ((s.size : Int) == (s.size : Int)) = true := by simp
    go_enter Tryd.func37, Tryd.ntmps37
    go_wp2
    go_ret2
    exact ⟨rfl, Below.refl _ _⟩
  · have hT : zoV (M.cBl X (s.data.toList.drop c)) = R := by
      rw [← hR]; unfold M.cClk; rw [if_neg (by rw [drop_cons s c (by omega)]; simp)]
    have HR := Lib.hid hT
    have HX := Lib.hid hX
    clear hR hT hX
    have d1 : ((c : Int) == (s.size : Int)) = false := by simp; omega
    go_enter Tryd.func37, Tryd.ntmps37
    go_wp2_with fail
    go_loop [1] (fun kv => ∃ k : Nat, kv = .int .i64 k ∧ k ≤ s.size ∧ Hid (zoV (M.cBl X (s.data.toList.drop k)) = R)) (fun kv => s.size - (intOf kv).toNat)
    case atStart => exact ⟨c, rfl, hc, HR⟩
    case round =>
      obtain ⟨k, rfl, hk, HT⟩ := hrel
      clear HR d1 hcs hc
      have e := HT.out
      clear HT
      by_cases hl : k < s.size
      · have l1 : decide (k < s.size) = true := decide_eq_true hl
        have hb8 := s[k].toNat_lt
        rw [drop_cons s k hl, M.cBl] at e
        by_cases b32 : s[k].toNat = 32
        · have e32 : ((s[k].toNat : Int) == 32) = true := by simp; omega
          rw [if_pos (by simp [M.bB, b32])] at e
          have E := Lib.hid e
          clear e b32
          go_wp2_with fail
          go_round
          case rel => exact ⟨k + 1, by go_num, by omega, E⟩
          case measure => simp [intOf]; omega
        · have e32 : ((s[k].toNat : Int) == 32) = false := by simp; omega
          by_cases b9 : s[k].toNat = 9
          · have e9 : ((s[k].toNat : Int) == 9) = true := by simp; omega
            rw [if_pos (by simp [M.bB, b9])] at e
            have E := Lib.hid e
            clear e b32 b9
            go_wp2_with fail
            go_round
            case rel => exact ⟨k + 1, by go_num, by omega, E⟩
            case measure => simp [intOf]; omega
          · have e9 : ((s[k].toNat : Int) == 9) = false := by simp; omega
            rw [if_neg (by simp [M.bB, b32, b9])] at e
            clear b32 b9
            by_cases hz : s[k] = 90
            · rw [if_pos hz] at e
              have e90 : ((s[k].toNat : Int) == 90) = true := by rw [hz]; rfl
              by_cases hend : k + 1 = s.size
              · have q1 : ((k : Int) + 1 == (s.size : Int)) = true := by simp; omega
                have q2 : (((k + 1 : Nat) : Int) == (s.size : Int)) = true := by simp; omega
                have hR2 : R = .tuple #[.int .i64 0, .bool true] := by
                  rw [← e, drop_nil s _ (by omega)]
                  unfold M.cLast; rw [if_pos rfl]; unfold zoV; simp [M.mayZ, M.off, HX.out]
                clear e hz hend
                subst hR2
                go_wp2
                go_ret2
                exact ⟨rfl, Below.refl _ _⟩
              · have q1 : ((k : Int) + 1 == (s.size : Int)) = false := by simp; omega
                have q2 : (((k + 1 : Nat) : Int) == (s.size : Int)) = false := by simp; omega
                have hR2 : R = .tuple #[.int .i64 0, .bool false] := by
                  rw [← e, drop_cons s _ (show k + 1 < s.size by omega)]
                  unfold M.cLast; rw [if_neg (by simp)]; rfl
                have cP : ∀ W, Calls Tryd.prog 23 #[.string s, .int .i64 k, .string ⟨#[43, 45]⟩, .int .i64 1, .int .i64 2] W fun e w' => e = .returned noV ∧ Below W.heap.size W w' := fun W => part_no s ⟨#[43, 45]⟩ k 1 2 W hs (by decide) hk (by intro _; rw [hz]; decide)
                unfold noV at cP
                clear e hz hend
                subst hR2
                go_wp2_with fail
                refine (cP _).mono ?_
                rintro r w1 ⟨rfl, hb⟩
                go_wp2
                go_ret2
                exact ⟨rfl, hb⟩
            · rw [if_neg hz] at e
              have e90 : ((s[k].toNat : Int) == 90) = false := neC (k := 90) (by omega) hz
              by_cases hsg : s[k] = 43 ∨ s[k] = 45
              · obtain ⟨b, h45, e2⟩ : ∃ b : Bool, ((s[k].toNat : Int) == 45) = b ∧ zoV (M.cHour { X with bh := b } (s.data.toList.drop (k + 1))) = R := by
                  rcases hsg with h | h
                  · rw [if_pos h] at e; exact ⟨false, by rw [h]; rfl, e⟩
                  · rw [if_neg (by rw [h]; decide), if_pos h] at e; exact ⟨true, by rw [h]; rfl, e⟩
                have cP : ∀ W, Calls Tryd.prog 23 #[.string s, .int .i64 k, .string ⟨#[43, 45]⟩, .int .i64 1, .int .i64 2] W fun e w' => e = .returned (dgV s (k + 1) 1 2) ∧ Below W.heap.size W w' := fun W => part_yes s ⟨#[43, 45]⟩ k 1 2 W hs (by decide) hl (by rcases hsg with h | h <;> rw [h] <;> decide) (by omega) (by omega)
                have HX2 : Hid ({ X with bh := b }.bh = b ∧ { X with bh := b }.zm = 0) := ⟨rfl, HX.out.2.2⟩
                clear e hsg hz HX
                generalize { X with bh := b } = Y at *
                have q0 : ((k : Int) + 1 == (s.size : Int)) = decide (k + 1 = s.size) := by
                  by_cases h : k + 1 = s.size
                  · rw [decide_eq_true h]; simp; omega
                  · rw [decide_eq_false h]; simp; omega
                obtain ⟨C, hC⟩ : ∃ C, M.cnt 2 (s.data.toList.drop (k + 1)) = C := ⟨_, rfl⟩
                obtain ⟨V, hV⟩ : ∃ V, M.nv 2 0 (s.data.toList.drop (k + 1)) = V := ⟨_, rfl⟩
                have hV9 : V < 100 := by rw [← hV]; exact M.nv2_lt _
                have hCl : k + 1 + C ≤ s.size := by
                  have := M.cnt_len 2 (s.data.toList.drop (k + 1))
                  rw [List.length_drop, ← sz_list, hC] at this; omega
                have hC2 : C ≤ 2 := by rw [← hC]; exact M.cnt_le _ _
                by_cases hC0 : C = 0
                · have hR2 : R = .tuple #[.int .i64 0, .bool false] := by rw [← e2, hour_no _ _ (by rw [hC, hC0])]; rfl
                  rw [dgV_few s _ 1 2 (by omega)] at cP
                  unfold noV at cP
                  clear e2 hC hV hC0 hCl hC2 HX2
                  subst hR2
                  by_cases qe : k + 1 = s.size
                  all_goals (first | rw [decide_eq_true qe] at q0 | rw [decide_eq_false qe] at q0)
                  all_goals clear qe
                  all_goals go_wp2_with fail
                  all_goals refine (cP _).mono ?_
                  all_goals rintro r w1 ⟨rfl, hb⟩
                  all_goals go_wp2
                  all_goals go_ret2
                  all_goals exact ⟨rfl, hb⟩
                · rw [dgV_some s _ 1 2 (by omega), hV, hC] at cP
                  have q1 : ((k : Int) + 1 == (s.size : Int)) = false := by simp; omega
                  clear q0
                  obtain ⟨a, ha⟩ : ∃ a, k + 1 + C = a := ⟨_, rfl⟩
                  rw [ha] at cP hCl
                  have a0 : decide ((a : Int) < 0) = false := decide_eq_false (by omega)
                  by_cases hV23 : 23 < V
                  · have v1 : decide ((23 : Int) < (V : Int)) = true := decide_eq_true (by omega)
                    have v2 : decide (23 < V) = true := decide_eq_true (by omega)
                    have hR2 : R = .tuple #[.int .i64 0, .bool false] := by
                      rw [← e2]; exact zo_high _ V hV23 (fun Z h => by rw [zh_hour _ _ _ h, hV])
                    clear e2 hC hV hC0 ha HX2
                    subst hR2
                    go_wp2_with fail
                    refine (cP _).mono ?_
                    rintro r w1 ⟨rfl, hb⟩
                    go_wp2
                    go_ret2
                    exact ⟨rfl, hb⟩
                  · have v1 : decide ((23 : Int) < (V : Int)) = false := decide_eq_false (by omega)
                    have v2 : decide (23 < V) = false := decide_eq_false (by omega)
                    by_cases hend : a = s.size
                    · have a1 : decide ((a : Int) < (s.size : Int)) = false := decide_eq_false (by omega)
                      have a2 : decide (a < s.size) = false := decide_eq_false (by omega)
                      rw [hour_end s Y (k + 1) (by rw [hC]; exact hC0) (by rw [hC, ha]; exact hend), hV] at e2
                      have hR2 : R = .tuple #[.int .i64 (if b = true then -60 * (V : Int) else 60 * (V : Int)), .bool true] := by
                        rw [← e2]; unfold zoV; simp only [M.mayZ, M.off]
                        rw [HX2.out.1, HX2.out.2, if_pos (by simp; omega)]
                        cases b
                        · simp
                        · simp; omega
                      clear e2 hC hV hC0 ha HX2 hend
                      subst hR2
                      cases b
                      · rw [if_neg (by decide)]
                        go_wp2_with fail
                        refine (cP _).mono ?_
                        rintro r w1 ⟨rfl, hb⟩
                        go_wp2
                        go_ret2
                        exact ⟨ret_zo (by omega), hb⟩
                      · rw [if_pos rfl]
                        go_wp2_with fail
                        refine (cP _).mono ?_
                        rintro r w1 ⟨rfl, hb⟩
                        go_wp2
                        go_ret2
                        exact ⟨ret_zo (by omega), hb⟩
                    · have hal : a < s.size := by omega
                      have a1 : decide ((a : Int) < (s.size : Int)) = true := decide_eq_true (by omega)
                      have a2 : decide (a < s.size) = true := decide_eq_true (by omega)
                      subst ha
                      by_cases h58 : s[k + 1 + C] = 58
                      · subst hC
                        rw [hour_min s Y (k + 1) hC0 hal h58, hV] at e2
                        generalize M.cnt 2 (s.data.toList.drop (k + 1)) = C at *
                        have cQ : ∀ W, Calls Tryd.prog 23 #[.string s, .int .i64 ((k + 1 + C : Nat) : Int), .string ⟨#[58]⟩, .int .i64 2, .int .i64 2] W fun e w' => e = .returned (dgV s (k + 1 + C + 1) 2 2) ∧ Below W.heap.size W w' := fun W => part_yes s ⟨#[58]⟩ (k + 1 + C) 2 2 W hs (by decide) hal (by rw [h58]; decide) (by omega) (by omega)
                        generalize k + 1 + C = a at *
                        clear h58 hC0 hC2
                        obtain ⟨D, hD⟩ : ∃ D, M.cnt 2 (s.data.toList.drop (a + 1)) = D := ⟨_, rfl⟩
                        obtain ⟨U, hU⟩ : ∃ U, M.nv 2 0 (s.data.toList.drop (a + 1)) = U := ⟨_, rfl⟩
                        have hU9 : U < 100 := by rw [← hU]; exact M.nv2_lt _
                        have hDl : a + 1 + D ≤ s.size := by
                          have := M.cnt_len 2 (s.data.toList.drop (a + 1))
                          rw [List.length_drop, ← sz_list, hD] at this; omega
                        have hD2 : D ≤ 2 := by rw [← hD]; exact M.cnt_le _ _
                        by_cases hDD : D = 2
                        · subst hDD
                          rw [dgV_some s _ 2 2 (by omega), hU, hD] at cQ
                          have cQ2 : ∀ W, Calls Tryd.prog 23 #[.string s, .int .i64 (a : Int), .string ⟨#[58]⟩, .int .i64 2, .int .i64 2] W fun e w' => e = .returned (.tuple #[.int .i64 (U : Nat), .int .i64 ((a + 3 : Nat) : Int)]) ∧ Below W.heap.size W w' := cQ
                          clear cQ
                          obtain ⟨z, hz⟩ : ∃ z, a + 3 = z := ⟨_, rfl⟩
                          rw [hz] at cQ2
                          by_cases hze : z = s.size
                          · have z1 : ((z : Int) == (s.size : Int)) = true := by simp; omega
                            have z2 : ((z : Int) != (s.size : Int)) = false := by simp; omega
                            rw [min_end s _ (a + 1) hD (by omega), hU] at e2
                            by_cases hU59 : 59 < U
                            · have u1 : decide ((59 : Int) < (U : Int)) = true := decide_eq_true (by omega)
                              have u2 : decide (59 < U) = true := decide_eq_true (by omega)
                              have hR2 : R = .tuple #[.int .i64 0, .bool false] := by
                                have hU60 : ¬ U < 60 := by omega
                                rw [← e2]; unfold zoV; simp [M.mayZ, hU60]
                              clear e2 hV HX2 hD hU hz hze hend
                              subst hR2
                              go_wp2_with fail
                              refine (cP _).mono ?_
                              rintro r w1 ⟨rfl, hb⟩
                              go_wp2_with fail
                              refine (cQ2 _).mono ?_
                              rintro r w2 ⟨rfl, hb2⟩
                              have hb3 := hb.trans (hb2.mono hb.size)
                              clear hb hb2
                              go_wp2
                              go_ret2
                              exact ⟨rfl, hb3⟩
                            · have u1 : decide ((59 : Int) < (U : Int)) = false := decide_eq_false (by omega)
                              have u2 : decide (59 < U) = false := decide_eq_false (by omega)
                              have hR2 : R = .tuple #[.int .i64 (if b = true then -60 * (V : Int) - U else 60 * (V : Int) + U), .bool true] := by
                                rw [← e2]; unfold zoV; simp only [M.mayZ, M.off]
                                rw [HX2.out.1, if_pos (by simp; omega)]
                                cases b
                                · simp
                                · simp; omega
                              clear e2 hV HX2 hD hU hz hze hend
                              subst hR2
                              cases b
                              · rw [if_neg (by decide)]
                                go_wp2_with fail
                                refine (cP _).mono ?_
                                rintro r w1 ⟨rfl, hb⟩
                                go_wp2_with fail
                                refine (cQ2 _).mono ?_
                                rintro r w2 ⟨rfl, hb2⟩
                                have hb3 := hb.trans (hb2.mono hb.size)
                                clear hb hb2
                                go_wp2
                                go_ret2
                                exact ⟨ret_zo (by omega), hb3⟩
                              · rw [if_pos rfl]
                                go_wp2_with fail
                                refine (cP _).mono ?_
                                rintro r w1 ⟨rfl, hb⟩
                                go_wp2_with fail
                                refine (cQ2 _).mono ?_
                                rintro r w2 ⟨rfl, hb2⟩
                                have hb3 := hb.trans (hb2.mono hb.size)
                                clear hb hb2
                                go_wp2
                                go_ret2
                                exact ⟨ret_zo (by omega), hb3⟩
                          · have z1 : ((z : Int) == (s.size : Int)) = false := by simp; omega
                            have z2 : ((z : Int) != (s.size : Int)) = true := by simp; omega
                            have hR2 : R = .tuple #[.int .i64 0, .bool false] := by
                              rw [← e2, min_bad s _ (a + 1) hD (by omega)]; rfl
                            clear e2 hV HX2 hD hU hz hze hend
                            subst hR2
                            go_wp2_with fail
                            refine (cP _).mono ?_
                            rintro r w1 ⟨rfl, hb⟩
                            go_wp2_with fail
                            refine (cQ2 _).mono ?_
                            rintro r w2 ⟨rfl, hb2⟩
                            have hb3 := hb.trans (hb2.mono hb.size)
                            clear hb hb2
                            go_wp2
                            go_ret2
                            exact ⟨rfl, hb3⟩
                        · rw [dgV_few s _ 2 2 (by omega)] at cQ
                          unfold noV at cQ
                          have z1 : ((-1 : Int) == (s.size : Int)) = false := beq_eq_false_iff_ne.2 (by omega)
                          have z2 : ((-1 : Int) != (s.size : Int)) = true := bne_iff_ne.2 (by omega)
                          have hR2 : R = .tuple #[.int .i64 0, .bool false] := by
                            rw [← e2, min_no _ _ (by rw [hD]; exact hDD)]; rfl
                          clear e2 hV HX2 hD hU hend hDD
                          subst hR2
                          go_wp2_with fail
                          refine (cP _).mono ?_
                          rintro r w1 ⟨rfl, hb⟩
                          go_wp2_with fail
                          refine (cQ _).mono ?_
                          rintro r w2 ⟨rfl, hb2⟩
                          have hb3 := hb.trans (hb2.mono hb.size)
                          clear hb hb2
                          go_wp2
                          go_ret2
                          exact ⟨rfl, hb3⟩
                      · subst hC
                        have hR2 : R = .tuple #[.int .i64 0, .bool false] := by
                          rw [← e2, hour_bad s Y (k + 1) hC0 hal h58]; rfl
                        have cQ : ∀ W, Calls Tryd.prog 23 #[.string s, .int .i64 ((k + 1 + M.cnt 2 (s.data.toList.drop (k + 1)) : Nat) : Int), .string ⟨#[58]⟩, .int .i64 2, .int .i64 2] W fun e w' => e = .returned noV ∧ Below W.heap.size W w' := fun W => part_no s ⟨#[58]⟩ (k + 1 + M.cnt 2 (s.data.toList.drop (k + 1))) 2 2 W hs (by decide) hCl (by intro _ q; exact h58 (by simpa using q))
                        unfold noV at cQ
                        generalize k + 1 + M.cnt 2 (s.data.toList.drop (k + 1)) = a at *
                        have z1 : ((-1 : Int) == (s.size : Int)) = false := beq_eq_false_iff_ne.2 (by omega)
                        have z2 : ((-1 : Int) != (s.size : Int)) = true := bne_iff_ne.2 (by omega)
                        clear e2 hV HX2 hend h58 hC0 hC2
                        subst hR2
                        go_wp2_with fail
                        refine (cP _).mono ?_
                        rintro r w1 ⟨rfl, hb⟩
                        go_wp2_with fail
                        refine (cQ _).mono ?_
                        rintro r w2 ⟨rfl, hb2⟩
                        have hb3 := hb.trans (hb2.mono hb.size)
                        clear hb hb2
                        go_wp2
                        go_ret2
                        exact ⟨rfl, hb3⟩
              · have h1 : ¬ s[k] = 43 := fun h => hsg (.inl h)
                have h2 : ¬ s[k] = 45 := fun h => hsg (.inr h)
                rw [if_neg h1, if_neg h2] at e
                have hR2 : R = .tuple #[.int .i64 0, .bool false] := e.symm
                have cP : ∀ W, Calls Tryd.prog 23 #[.string s, .int .i64 k, .string ⟨#[43, 45]⟩, .int .i64 1, .int .i64 2] W fun e w' => e = .returned noV ∧ Below W.heap.size W w' := fun W => part_no s ⟨#[43, 45]⟩ k 1 2 W hs (by decide) hk (by intro _ q; exact hsg (by simpa using q))
                unfold noV at cP
                clear e h1 h2 hsg hz HX
                subst hR2
                by_cases qe : k + 1 = s.size
                · have q1 : ((k : Int) + 1 == (s.size : Int)) = true := by simp; omega
                  clear qe
                  go_wp2_with fail
                  refine (cP _).mono ?_
                  rintro r w1 ⟨rfl, hb⟩
                  go_wp2
                  go_ret2
                  exact ⟨rfl, hb⟩
                · have q1 : ((k : Int) + 1 == (s.size : Int)) = false := by simp; omega
                  clear qe
                  go_wp2_with fail
                  refine (cP _).mono ?_
                  rintro r w1 ⟨rfl, hb⟩
                  go_wp2
                  go_ret2
                  exact ⟨rfl, hb⟩
      · obtain rfl : k = s.size := by omega
        have l1 : decide (s.size < s.size) = false := decide_eq_false (by omega)
        rw [drop_nil s _ (Nat.le_refl _), M.cBl] at e
        have hR2 : R = .tuple #[.int .i64 0, .bool false] := e.symm
        have q1 : ((s.size : Int) + 1 == (s.size : Int)) = false := by simp; omega
        have cP : ∀ W, Calls Tryd.prog 23 #[.string s, .int .i64 s.size, .string ⟨#[43, 45]⟩, .int .i64 1, .int .i64 2] W fun e w' => e = .returned noV ∧ Below W.heap.size W w' := fun W => part_no s ⟨#[43, 45]⟩ s.size 1 2 W hs (by decide) (Nat.le_refl _) (by intro h; omega)
        unfold noV at cP
        clear e HX
        subst hR2
        go_wp2_with fail
        refine (cP _).mono ?_
        rintro r w1 ⟨rfl, hb⟩
        go_wp2
        go_ret2
        exact ⟨rfl, hb⟩
end Go.Proofs.YtoidlgopibnaaaaDoor
