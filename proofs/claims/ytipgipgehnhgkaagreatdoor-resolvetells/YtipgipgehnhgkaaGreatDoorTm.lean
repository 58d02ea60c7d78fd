/- Walks: targumref10's clock (g/grh.py). -/
import Derived.Test.YtipgipgehnhgkaaGreatDoorTl
set_option linter.unusedVariables false
namespace Go.Proofs.YtipgipgehnhgkaaGreatDoor.S10
open Go.RowKit

set_option maxRecDepth 100000 in
set_option maxHeartbeats 4000000 in
theorem rclock_any (s : ByteArray) (k0 : Nat) (X : M.Mo) (w : World) (hs : s.size ≤ 1000) (hk : k0 ≤ s.size) (hy : X.y < 10000) (hmd : M.mayD X = true) (hX : X.bh = false ∧ X.zh = 0 ∧ X.zm = 0 ∧ X.fr = []) :
    Calls Tryz.prog 79 #[.string s, .int .i64 k0, .int .i64 (X.y : Nat), .int .i64 (X.m : Nat), .int .i64 (X.d : Nat)] w fun e w' => e = .returned (clV (M.aDay X (s.data.toList.drop k0))) ∧ Below w.heap.size w w' := by
  obtain ⟨R, hR⟩ : ∃ R, clV (M.aDay X (s.data.toList.drop k0)) = R := ⟨_, rfl⟩
  rw [hR]
  have hs5 : s.size ≤ 100000 := by omega
  have HMD := Lib.hid hmd
  have HX := Lib.hid hX
  clear hmd hX
  have c1 := fun W => rdigits_any s k0 1 2 W hs5 hk (by omega) (by omega)
  obtain ⟨C, hC⟩ : ∃ C, M.cnt 2 (s.data.toList.drop k0) = C := ⟨_, rfl⟩
  obtain ⟨H, hH⟩ : ∃ H, M.nv 2 0 (s.data.toList.drop k0) = H := ⟨_, rfl⟩
  have hH9 : H < 100 := by rw [← hH]; exact M.nv2_lt _
  have hCl : k0 + C ≤ s.size := by
    have := M.cnt_len 2 (s.data.toList.drop k0)
    rw [List.length_drop, ← sz_list, hC] at this; omega
  have hC2 : C ≤ 2 := by rw [← hC]; exact M.cnt_le _ _
  by_cases hC0 : C = 0
  · have hR2 : R = .tuple #[.string ⟨#[]⟩, .bool false] := by rw [← hR, aday_no _ _ (by rw [hC, hC0])]; rfl
    rw [dgV_few s _ 1 2 (by omega)] at c1
    unfold noV at c1
    clear hR hC hH hC0 hC2 hCl HMD HX
    subst hR2
    go_enter Tryz.func79, Tryz.ntmps79
    go_wp2_with fail
    refine (c1 _).mono ?_
    rintro r w1 ⟨rfl, rfl⟩
    go_wp2
    go_ret2
    exact ⟨rfl, Below.refl _ _⟩
  · rw [dgV_some s _ 1 2 (by omega), hH, hC] at c1
    by_cases h58 : ∃ hl : k0 + C < s.size, s[k0 + C] = 58
    rotate_left
    · have hb : ∀ hl : k0 + C < s.size, s[k0 + C] ≠ 58 := fun hl q => h58 ⟨hl, q⟩
      have hR2 : R = .tuple #[.string ⟨#[]⟩, .bool false] := by
        subst hC
        rw [← hR, aday_bad s X k0 hC0 hb]; rfl
      have c2 : ∀ W, Calls Tryz.prog 76 #[.string s, .int .i64 ((k0 + C : Nat) : Int), .string ⟨#[58]⟩, .int .i64 2, .int .i64 2] W fun e w' => e = .returned noV ∧ Below W.heap.size W w' := fun W => part_no s ⟨#[58]⟩ (k0 + C) 2 2 W hs5 (by decide) hCl (by intro hl q; exact hb hl (by simpa using q))
      unfold noV at c2
      clear hR hC hH hC0 hC2 h58 hb HMD HX
      generalize k0 + C = a at *
      have z0 : decide ((a : Int) < 0) = false := decide_eq_false (by omega)
      subst hR2
      go_enter Tryz.func79, Tryz.ntmps79
      go_wp2_with fail
      refine (c1 _).mono ?_
      rintro r w1 ⟨rfl, rfl⟩
      go_wp2_with fail
      refine (c2 _).mono ?_
      rintro r w2 ⟨rfl, hb⟩
      go_wp2
      go_ret2
      exact ⟨rfl, hb⟩
    · obtain ⟨hl, h58⟩ := h58
      have c2 : ∀ W, Calls Tryz.prog 76 #[.string s, .int .i64 ((k0 + C : Nat) : Int), .string ⟨#[58]⟩, .int .i64 2, .int .i64 2] W fun e w' => e = .returned (dgV s (k0 + C + 1) 2 2) ∧ Below W.heap.size W w' := fun W => part_yes s ⟨#[58]⟩ (k0 + C) 2 2 W hs5 (by decide) hl (by rw [h58]; decide) (by omega) (by omega)
      have e : clV (M.aMin { X with td := true, h := H } (s.data.toList.drop (k0 + C + 1))) = R := by
        subst hC hH
        rw [← hR, aday_go s X k0 hC0 hl h58]
      clear hR hC hH hC0 hC2 h58 hCl
      generalize k0 + C = a at *
      have z0 : decide ((a : Int) < 0) = false := decide_eq_false (by omega)
      obtain ⟨D, hD⟩ : ∃ D, M.cnt 2 (s.data.toList.drop (a + 1)) = D := ⟨_, rfl⟩
      obtain ⟨U, hU⟩ : ∃ U, M.nv 2 0 (s.data.toList.drop (a + 1)) = U := ⟨_, rfl⟩
      have hU9 : U < 100 := by rw [← hU]; exact M.nv2_lt _
      have hDl : a + 1 + D ≤ s.size := by
        have := M.cnt_len 2 (s.data.toList.drop (a + 1))
        rw [List.length_drop, ← sz_list, hD] at this; omega
      have hD2 : D ≤ 2 := by rw [← hD]; exact M.cnt_le _ _
      by_cases hDD : D = 2
      rotate_left
      · have hR2 : R = .tuple #[.string ⟨#[]⟩, .bool false] := by rw [← e, amin_no _ _ (by rw [hD]; exact hDD)]; rfl
        rw [dgV_few s _ 2 2 (by omega)] at c2
        unfold noV at c2
        clear e hD hU hDD hD2 hDl HMD HX
        subst hR2
        go_enter Tryz.func79, Tryz.ntmps79
        go_wp2_with fail
        refine (c1 _).mono ?_
        rintro r w1 ⟨rfl, rfl⟩
        go_wp2_with fail
        refine (c2 _).mono ?_
        rintro r w2 ⟨rfl, hb⟩
        go_wp2
        go_ret2
        exact ⟨rfl, hb⟩
      · subst hDD
        rw [dgV_some s _ 2 2 (by omega), hU, hD] at c2
        obtain ⟨b, hbb⟩ : ∃ b, a + 1 + 2 = b := ⟨_, rfl⟩
        rw [hbb] at c2 hDl
        by_cases h58 : ∃ hl : b < s.size, s[b] = 58
        rotate_left
        · have hb : ∀ hl : b < s.size, s[b] ≠ 58 := fun hl q => h58 ⟨hl, q⟩
          have hR2 : R = .tuple #[.string ⟨#[]⟩, .bool false] := by
            subst hbb
            rw [← e, amin_bad s _ (a + 1) hD hb]; rfl
          have c3 : ∀ W, Calls Tryz.prog 76 #[.string s, .int .i64 (b : Int), .string ⟨#[58]⟩, .int .i64 2, .int .i64 2] W fun e w' => e = .returned noV ∧ Below W.heap.size W w' := fun W => part_no s ⟨#[58]⟩ b 2 2 W hs5 (by decide) hDl (by intro hl q; exact hb hl (by simpa using q))
          unfold noV at c3
          clear e hD hU h58 hb HMD HX hbb
          have z1 : decide ((b : Int) < 0) = false := decide_eq_false (by omega)
          subst hR2
          go_enter Tryz.func79, Tryz.ntmps79
          go_wp2_with fail
          refine (c1 _).mono ?_
          rintro r w1 ⟨rfl, rfl⟩
          go_wp2_with fail
          refine (c2 _).mono ?_
          rintro r w2 ⟨rfl, hb⟩
          go_wp2_with fail
          refine (c3 _).mono ?_
          rintro r w3 ⟨rfl, hb2⟩
          have hb3 := hb.trans (hb2.mono hb.size)
          clear hb hb2
          go_wp2
          go_ret2
          exact ⟨rfl, hb3⟩
        · obtain ⟨hl2, h58⟩ := h58
          have c3 : ∀ W, Calls Tryz.prog 76 #[.string s, .int .i64 (b : Int), .string ⟨#[58]⟩, .int .i64 2, .int .i64 2] W fun e w' => e = .returned (dgV s (b + 1) 2 2) ∧ Below W.heap.size W w' := fun W => part_yes s ⟨#[58]⟩ b 2 2 W hs5 (by decide) hl2 (by rw [h58]; decide) (by omega) (by omega)
          have e2 : clV (M.aSec { X with td := true, h := H, mi := U } (s.data.toList.drop (b + 1))) = R := by
            subst hbb hU
            rw [← e, amin_go s _ (a + 1) hD hl2 h58]
          clear e hD hU h58 hbb
          have z1 : decide ((b : Int) < 0) = false := decide_eq_false (by omega)
          obtain ⟨D, hD⟩ : ∃ D, M.cnt 2 (s.data.toList.drop (b + 1)) = D := ⟨_, rfl⟩
          obtain ⟨S, hS⟩ : ∃ S, M.nv 2 0 (s.data.toList.drop (b + 1)) = S := ⟨_, rfl⟩
          have hS9 : S < 100 := by rw [← hS]; exact M.nv2_lt _
          have hEl : b + 1 + D ≤ s.size := by
            have := M.cnt_len 2 (s.data.toList.drop (b + 1))
            rw [List.length_drop, ← sz_list, hD] at this; omega
          have hD3 : D ≤ 2 := by rw [← hD]; exact M.cnt_le _ _
          by_cases hDD : D = 2
          rotate_left
          · have hR2 : R = .tuple #[.string ⟨#[]⟩, .bool false] := by rw [← e2, asec_no _ _ (by rw [hD]; exact hDD)]; rfl
            rw [dgV_few s _ 2 2 (by omega)] at c3
            unfold noV at c3
            clear e2 hD hS hDD hD3 hEl HMD HX
            subst hR2
            go_enter Tryz.func79, Tryz.ntmps79
            go_wp2_with fail
            refine (c1 _).mono ?_
            rintro r w1 ⟨rfl, rfl⟩
            go_wp2_with fail
            refine (c2 _).mono ?_
            rintro r w2 ⟨rfl, hb⟩
            go_wp2_with fail
            refine (c3 _).mono ?_
            rintro r w3 ⟨rfl, hb2⟩
            have hb3 := hb.trans (hb2.mono hb.size)
            clear hb hb2
            go_wp2
            go_ret2
            exact ⟨rfl, hb3⟩
          · subst hDD
            rw [dgV_some s _ 2 2 (by omega), hS, hD] at c3
            obtain ⟨c, hcc⟩ : ∃ c, b + 1 + 2 = c := ⟨_, rfl⟩
            rw [hcc] at c3 hEl
            have z2 : decide ((c : Int) < 0) = false := decide_eq_false (by omega)
            by_cases hbad : 23 < H ∨ 59 < U ∨ 59 < S
            · have hR2 : R = .tuple #[.string ⟨#[]⟩, .bool false] := by
                rw [← e2]; refine clV_not hbad (fun Y h => ?_)
                obtain ⟨q1, q2, q3⟩ := asec_keeps _ _ Y h
                exact ⟨q1, q2, by rw [q3, hS]⟩
              clear e2 hD hS HMD HX hcc
              subst hR2
              by_cases b1 : 23 < H
              · have g1 : decide ((23 : Int) < (H : Int)) = true := decide_eq_true (by omega)
                go_enter Tryz.func79, Tryz.ntmps79
                go_wp2_with fail
                refine (c1 _).mono ?_
                rintro r w1 ⟨rfl, rfl⟩
                go_wp2_with fail
                refine (c2 _).mono ?_
                rintro r w2 ⟨rfl, hb⟩
                go_wp2_with fail
                refine (c3 _).mono ?_
                rintro r w3 ⟨rfl, hb2⟩
                have hb3 := hb.trans (hb2.mono hb.size)
                clear hb hb2 c1 c2 c3
                go_wp2
                go_ret2
                exact ⟨rfl, hb3⟩
              · have g1 : decide ((23 : Int) < (H : Int)) = false := decide_eq_false (by omega)
                by_cases b2 : 59 < U
                · have g2 : decide ((59 : Int) < (U : Int)) = true := decide_eq_true (by omega)
                  go_enter Tryz.func79, Tryz.ntmps79
                  go_wp2_with fail
                  refine (c1 _).mono ?_
                  rintro r w1 ⟨rfl, rfl⟩
                  go_wp2_with fail
                  refine (c2 _).mono ?_
                  rintro r w2 ⟨rfl, hb⟩
                  go_wp2_with fail
                  refine (c3 _).mono ?_
                  rintro r w3 ⟨rfl, hb2⟩
                  have hb3 := hb.trans (hb2.mono hb.size)
                  clear hb hb2 c1 c2 c3
                  go_wp2
                  go_ret2
                  exact ⟨rfl, hb3⟩
                · have g2 : decide ((59 : Int) < (U : Int)) = false := decide_eq_false (by omega)
                  have g3 : decide ((59 : Int) < (S : Int)) = true := decide_eq_true (by omega)
                  go_enter Tryz.func79, Tryz.ntmps79
                  go_wp2_with fail
                  refine (c1 _).mono ?_
                  rintro r w1 ⟨rfl, rfl⟩
                  go_wp2_with fail
                  refine (c2 _).mono ?_
                  rintro r w2 ⟨rfl, hb⟩
                  go_wp2_with fail
                  refine (c3 _).mono ?_
                  rintro r w3 ⟨rfl, hb2⟩
                  have hb3 := hb.trans (hb2.mono hb.size)
                  clear hb hb2 c1 c2 c3
                  go_wp2
                  go_ret2
                  exact ⟨rfl, hb3⟩
            · have g1 : decide ((23 : Int) < (H : Int)) = false := decide_eq_false (by omega)
              have g2 : decide ((59 : Int) < (U : Int)) = false := decide_eq_false (by omega)
              have g3 : decide ((59 : Int) < (S : Int)) = false := decide_eq_false (by omega)
              have hH24 : H < 24 := by omega
              have hU60 : U < 60 := by omega
              have hS60 : S < 60 := by omega
              have cT := fun W => rtwo_any S W hS9
              have cTz : (bA (M.d2 S)).size = 2 := bA_size _
              have cTl : (bA (M.d2 S)).data.toList = M.d2 S := bA_toList _
              generalize bA (M.d2 S) = B2 at cT cTz cTl
              clear hbad
              by_cases h46 : ∃ hl : c < s.size, s[c] = 46
              rotate_left
              · have hn : ∀ hl : c < s.size, s[c] ≠ 46 := fun hl q => h46 ⟨hl, q⟩
                have c4 : ∀ W, Calls Tryz.prog 78 #[.string s, .int .i64 c, .string ⟨#[46]⟩] W fun e w' => e = .returned (.int .i64 (-1)) ∧ Below W.heap.size W w' := by
                  intro W
                  by_cases hlt : c < s.size
                  · have := sign_in s ⟨#[46]⟩ c W hs5 hlt (by decide)
                    rw [if_neg (by intro q; exact hn hlt (by simpa using q))] at this
                    exact this
                  · exact sign_out s ⟨#[46]⟩ c W hs5 hlt (by omega)
                obtain ⟨X3, hX3, hcl0⟩ : ∃ X3 : M.Mo, (X3.y = X.y ∧ X3.m = X.m ∧ X3.d = X.d ∧ X3.h = H ∧ X3.mi = U ∧ X3.se = S ∧ X3.bh = false ∧ X3.zh = 0 ∧ X3.zm = 0 ∧ X3.fr = []) ∧ clV (M.cClk X3 (s.data.toList.drop c)) = R := by
                  refine ⟨{ X with td := true, h := H, mi := U, se := S }, ⟨rfl, rfl, rfl, rfl, rfl, rfl, HX.out.1, HX.out.2.1, HX.out.2.2.1, HX.out.2.2.2⟩, ?_⟩
                  subst hcc hS
                  rw [← e2, asec_end s _ (b + 1) hD hn]
                have HRR := Lib.hid hcl0
                obtain ⟨x1, x2, x3, x4, x5, x6, x7, x8, x9, x10⟩ := hX3
                have hmd3 : M.mayD X3 = true := by
                  have := HMD.out
                  unfold M.mayD at this ⊢
                  rw [x1, x2, x3]; exact this
                have TF := Lib.hid (tail_facts s c X3 hs hEl (by rw [x1]; exact hy) hmd3 ⟨by rw [x4]; exact hH24, by rw [x5]; exact hU60, by rw [x6]; exact hS60⟩ ⟨x7, x8, x9⟩)
                obtain ⟨FR, hFR2⟩ : ∃ FR, ([] : List UInt8) = FR := ⟨_, rfl⟩
                rw [hFR2] at x10
                rw [x1, x2, x3, x4, x5, x6, x10] at TF
                have HSE : Hid (S = S) := rfl
                have HTX : Hid ((⟨#[]⟩ : ByteArray).data.toList = FR) := hFR2
                have HTZ : (⟨#[]⟩ : ByteArray).size ≤ 1000 := by decide
                clear x1 x2 x3 x4 x5 x6 x7 x8 x9 x10 hmd3
                clear hcl0 e2 hD hS hcc h46 hn HMD HX hFR2
                go_enter Tryz.func79, Tryz.ntmps79
                go_wp2_with fail
                refine (c1 _).mono ?_
                rintro r w1 ⟨rfl, rfl⟩
                go_wp2_with fail
                refine (c2 _).mono ?_
                rintro r w2 ⟨rfl, hb⟩
                go_wp2_with fail
                refine (c3 _).mono ?_
                rintro r w3 ⟨rfl, hb2⟩
                have hb3 := hb.trans (hb2.mono hb.size)
                clear hb hb2 c1 c2 c3
                go_wp2_with fail
                refine (c4 _).mono ?_
                rintro r w4 ⟨rfl, hb4⟩
                have BB := hb3.trans (hb4.mono hb3.size)
                clear hb3 hb4 c4
                go_wp2_with fail
                go_loop [18] (fun v => ∃ t : ByteArray, v = .string t ∧ t.size ≤ 1000 ∧ Hid (M.tz t.data.toList = M.tz FR)) (fun v => match v with | .string t => t.size | _ => 0)
                case atStart => exact ⟨_, rfl, HTZ, by show _ = _; rw [HTX.out]⟩
                case round =>
                  obtain ⟨t, rfl, htz, hst⟩ := hrel
                  by_cases h0 : 0 < t.size
                  · have hlast := last_list t h0
                    have h1 := hst.out
                    rw [hlast, tz_snoc] at h1
                    by_cases hc : t[t.size - 1]'(by omega) = 48
                    · rw [if_pos hc] at h1
                      have hb : (((t[t.size - 1]'(by omega)).toNat : Int) == 48) = true := by rw [hc]; rfl
                      have H1 := Lib.hid h1
                      clear hlast h1 hst hc
                      go_wp2_with fail
                      go_round
                      case rel => exact ⟨_, rfl, by simp; omega, by show _ = _; rw [extract_take]; exact H1.out⟩
                      case measure => simp; omega
                    · rw [if_neg hc, ← hlast] at h1
                      have hb : (((t[t.size - 1]'(by omega)).toNat : Int) == 48) = false := neC (k := 48) (by omega) hc
                      have HT4 := Lib.hid h1
                      clear hlast h1 hst hc HTX HTZ
                      rcases TF.out with ⟨cZ, hcl⟩ | ⟨o, n, o1, o2, hon, cZ, hmv⟩
                      · have hR2 : R = .tuple #[.string ⟨#[]⟩, .bool false] := by rw [← HRR.out, hcl]; rfl
                        clear hcl HRR TF HT4
                        subst hR2
                        go_wp2_with fail
                        refine (cZ _).mono ?_
                        rintro r w6 ⟨rfl, hb6⟩
                        have hb7 := BB.trans (hb6.mono BB.size)
                        clear hb6 BB cZ
                        go_wp2
                        go_ret2
                        exact ⟨rfl, hb7⟩
                      · rcases hmv with ⟨cM, hcl⟩ | ⟨ML, hML, cM, hcl⟩
                        · have hR2 : R = .tuple #[.string ⟨#[]⟩, .bool false] := by rw [← HRR.out, hcl]; rfl
                          clear hcl HRR TF HT4
                          subst hR2
                          go_wp2_with fail
                          refine (cZ _).mono ?_
                          rintro r w6 ⟨rfl, hb6⟩
                          have hb7 := BB.trans (hb6.mono BB.size)
                          clear hb6 BB cZ
                          go_wp2_with fail
                          refine (cM _).mono ?_
                          rintro r w7 ⟨rfl, hb8⟩
                          have hb9 := hb7.trans (hb8.mono hb7.size)
                          clear hb7 hb8 cM
                          go_wp2
                          go_ret2
                          exact ⟨rfl, hb9⟩
                        · by_cases ht0 : t.data.toList = []
                          · have hR2 : R = .tuple #[.string (ML ++ ⟨#[58]⟩ ++ B2 ++ ⟨#[90]⟩), .bool true] := by
                              rw [← HRR.out, hcl]
                              have : M.dot (M.tz FR) = [] := by rw [← HT4.out, ht0]; rfl
                              refine congrArg (fun q => Value.tuple #[.string q, .bool true]) (Eq.symm (eq_bA ?_))
                              rw [append_list, append_list, append_list, cTl, this]; simp
                            have ht1 : t = ⟨#[]⟩ := by rw [eq_bA ht0]; rfl
                            clear hcl HRR TF HT4 ht0 cTl HSE
                            subst ht1
                            subst hR2
                            have z5 : (⟨#[58]⟩ : ByteArray).size = 1 := rfl
                            have y1 := append_sz ML ⟨#[58]⟩
                            have y2 := append_sz (ML ++ ⟨#[58]⟩) B2
                            have a1 : ∀ W, (Op.stringOp .add ML ⟨#[58]⟩).run Tryz.prog W = .ok (.string (ML ++ ⟨#[58]⟩)) W := fun W => run_string_add_sum _ _ _ (by omega)
                            have a2 : ∀ W, (Op.stringOp .add (ML ++ ⟨#[58]⟩) B2).run Tryz.prog W = .ok (.string (ML ++ ⟨#[58]⟩ ++ B2)) W := fun W => run_string_add_sum _ _ _ (by omega)
                            have a3 : ∀ W, (Op.stringOp .add (ML ++ ⟨#[58]⟩ ++ B2) ⟨#[90]⟩).run Tryz.prog W = .ok (.string (ML ++ ⟨#[58]⟩ ++ B2 ++ ⟨#[90]⟩)) W := fun W => run_string_add_sum _ _ _ (by show _ + 1 ≤ _; omega)
                            clear y1 y2 z5 cTz hML
                            go_wp2_with fail
                            refine (cZ _).mono ?_
                            rintro r w6 ⟨rfl, hb6⟩
                            have hb7 := BB.trans (hb6.mono BB.size)
                            clear hb6 BB cZ
                            go_wp2_with fail
                            refine (cM _).mono ?_
                            rintro r w7 ⟨rfl, hb8⟩
                            have hb9 := hb7.trans (hb8.mono hb7.size)
                            clear hb7 hb8 cM
                            go_wp2_with fail
                            refine (cT _).mono ?_
                            rintro r w8 ⟨rfl, hb10⟩
                            have hb11 := hb9.trans (hb10.mono hb9.size)
                            clear hb9 hb10 cT
                            go_wp2
                            go_ret2
                            exact ⟨rfl, hb11⟩
                          · have hR2 : R = .tuple #[.string (ML ++ ⟨#[58]⟩ ++ B2 ++ ⟨#[46]⟩ ++ t ++ ⟨#[90]⟩), .bool true] := by
                              rw [← HRR.out, hcl]
                              have : M.dot (M.tz FR) = 46 :: t.data.toList := by rw [← HT4.out]; unfold M.dot; rw [if_neg ht0]
                              refine congrArg (fun q => Value.tuple #[.string q, .bool true]) (Eq.symm (eq_bA ?_))
                              rw [append_list, append_list, append_list, append_list, append_list, cTl, this]; simp
                            have zt : t.toList.isEmpty = false := by rw [ByteArray.toList_eq]; simpa using ht0
                            have zt2 : (t.toList == []) = false := by rw [ByteArray.toList_eq]; simpa using ht0
                            clear hcl HRR TF HT4 ht0 cTl HSE
                            subst hR2
                            have z5 : (⟨#[58]⟩ : ByteArray).size = 1 := rfl
                            have z6 : (⟨#[46]⟩ : ByteArray).size = 1 := rfl
                            have y1 := append_sz ML ⟨#[58]⟩
                            have y2 := append_sz (ML ++ ⟨#[58]⟩) B2
                            have y3 := append_sz (ML ++ ⟨#[58]⟩ ++ B2) ⟨#[46]⟩
                            have y4 := append_sz (ML ++ ⟨#[58]⟩ ++ B2 ++ ⟨#[46]⟩) t
                            have a1 : ∀ W, (Op.stringOp .add ML ⟨#[58]⟩).run Tryz.prog W = .ok (.string (ML ++ ⟨#[58]⟩)) W := fun W => run_string_add_sum _ _ _ (by omega)
                            have a2 : ∀ W, (Op.stringOp .add (ML ++ ⟨#[58]⟩) B2).run Tryz.prog W = .ok (.string (ML ++ ⟨#[58]⟩ ++ B2)) W := fun W => run_string_add_sum _ _ _ (by omega)
                            have a3 : ∀ W, (Op.stringOp .add (ML ++ ⟨#[58]⟩ ++ B2) ⟨#[46]⟩).run Tryz.prog W = .ok (.string (ML ++ ⟨#[58]⟩ ++ B2 ++ ⟨#[46]⟩)) W := fun W => run_string_add_sum _ _ _ (by omega)
                            have a4 : ∀ W, (Op.stringOp .add (ML ++ ⟨#[58]⟩ ++ B2 ++ ⟨#[46]⟩) t).run Tryz.prog W = .ok (.string (ML ++ ⟨#[58]⟩ ++ B2 ++ ⟨#[46]⟩ ++ t)) W := fun W => run_string_add_sum _ _ _ (by omega)
                            have a5 : ∀ W, (Op.stringOp .add (ML ++ ⟨#[58]⟩ ++ B2 ++ ⟨#[46]⟩ ++ t) ⟨#[90]⟩).run Tryz.prog W = .ok (.string (ML ++ ⟨#[58]⟩ ++ B2 ++ ⟨#[46]⟩ ++ t ++ ⟨#[90]⟩)) W := fun W => run_string_add_sum _ _ _ (by show _ + 1 ≤ _; omega)
                            clear y1 y2 y3 y4 z5 z6 cTz hML
                            go_wp2_with fail
                            refine (cZ _).mono ?_
                            rintro r w6 ⟨rfl, hb6⟩
                            have hb7 := BB.trans (hb6.mono BB.size)
                            clear hb6 BB cZ
                            go_wp2_with fail
                            refine (cM _).mono ?_
                            rintro r w7 ⟨rfl, hb8⟩
                            have hb9 := hb7.trans (hb8.mono hb7.size)
                            clear hb7 hb8 cM
                            go_wp2_with fail
                            refine (cT _).mono ?_
                            rintro r w8 ⟨rfl, hb10⟩
                            have hb11 := hb9.trans (hb10.mono hb9.size)
                            clear hb9 hb10 cT
                            go_wp2
                            go_ret2
                            exact ⟨rfl, hb11⟩
                  · have hz : t.data.toList = [] := by
                      have := sz_list t
                      exact List.eq_nil_of_length_eq_zero (by omega)
                    have h1 := hst.out
                    rw [hz] at h1
                    have HT4 : Hid (t.data.toList = M.tz FR) := by show _ = _; rw [hz]; exact h1
                    clear hz hst h1 HTX HTZ
                    rcases TF.out with ⟨cZ, hcl⟩ | ⟨o, n, o1, o2, hon, cZ, hmv⟩
                    · have hR2 : R = .tuple #[.string ⟨#[]⟩, .bool false] := by rw [← HRR.out, hcl]; rfl
                      clear hcl HRR TF HT4
                      subst hR2
                      go_wp2_with fail
                      refine (cZ _).mono ?_
                      rintro r w6 ⟨rfl, hb6⟩
                      have hb7 := BB.trans (hb6.mono BB.size)
                      clear hb6 BB cZ
                      go_wp2
                      go_ret2
                      exact ⟨rfl, hb7⟩
                    · rcases hmv with ⟨cM, hcl⟩ | ⟨ML, hML, cM, hcl⟩
                      · have hR2 : R = .tuple #[.string ⟨#[]⟩, .bool false] := by rw [← HRR.out, hcl]; rfl
                        clear hcl HRR TF HT4
                        subst hR2
                        go_wp2_with fail
                        refine (cZ _).mono ?_
                        rintro r w6 ⟨rfl, hb6⟩
                        have hb7 := BB.trans (hb6.mono BB.size)
                        clear hb6 BB cZ
                        go_wp2_with fail
                        refine (cM _).mono ?_
                        rintro r w7 ⟨rfl, hb8⟩
                        have hb9 := hb7.trans (hb8.mono hb7.size)
                        clear hb7 hb8 cM
                        go_wp2
                        go_ret2
                        exact ⟨rfl, hb9⟩
                      · by_cases ht0 : t.data.toList = []
                        · have hR2 : R = .tuple #[.string (ML ++ ⟨#[58]⟩ ++ B2 ++ ⟨#[90]⟩), .bool true] := by
                            rw [← HRR.out, hcl]
                            have : M.dot (M.tz FR) = [] := by rw [← HT4.out, ht0]; rfl
                            refine congrArg (fun q => Value.tuple #[.string q, .bool true]) (Eq.symm (eq_bA ?_))
                            rw [append_list, append_list, append_list, cTl, this]; simp
                          have ht1 : t = ⟨#[]⟩ := by rw [eq_bA ht0]; rfl
                          clear hcl HRR TF HT4 ht0 cTl HSE
                          subst ht1
                          subst hR2
                          have z5 : (⟨#[58]⟩ : ByteArray).size = 1 := rfl
                          have y1 := append_sz ML ⟨#[58]⟩
                          have y2 := append_sz (ML ++ ⟨#[58]⟩) B2
                          have a1 : ∀ W, (Op.stringOp .add ML ⟨#[58]⟩).run Tryz.prog W = .ok (.string (ML ++ ⟨#[58]⟩)) W := fun W => run_string_add_sum _ _ _ (by omega)
                          have a2 : ∀ W, (Op.stringOp .add (ML ++ ⟨#[58]⟩) B2).run Tryz.prog W = .ok (.string (ML ++ ⟨#[58]⟩ ++ B2)) W := fun W => run_string_add_sum _ _ _ (by omega)
                          have a3 : ∀ W, (Op.stringOp .add (ML ++ ⟨#[58]⟩ ++ B2) ⟨#[90]⟩).run Tryz.prog W = .ok (.string (ML ++ ⟨#[58]⟩ ++ B2 ++ ⟨#[90]⟩)) W := fun W => run_string_add_sum _ _ _ (by show _ + 1 ≤ _; omega)
                          clear y1 y2 z5 cTz hML
                          go_wp2_with fail
                          refine (cZ _).mono ?_
                          rintro r w6 ⟨rfl, hb6⟩
                          have hb7 := BB.trans (hb6.mono BB.size)
                          clear hb6 BB cZ
                          go_wp2_with fail
                          refine (cM _).mono ?_
                          rintro r w7 ⟨rfl, hb8⟩
                          have hb9 := hb7.trans (hb8.mono hb7.size)
                          clear hb7 hb8 cM
                          go_wp2_with fail
                          refine (cT _).mono ?_
                          rintro r w8 ⟨rfl, hb10⟩
                          have hb11 := hb9.trans (hb10.mono hb9.size)
                          clear hb9 hb10 cT
                          go_wp2
                          go_ret2
                          exact ⟨rfl, hb11⟩
                        · have hR2 : R = .tuple #[.string (ML ++ ⟨#[58]⟩ ++ B2 ++ ⟨#[46]⟩ ++ t ++ ⟨#[90]⟩), .bool true] := by
                            rw [← HRR.out, hcl]
                            have : M.dot (M.tz FR) = 46 :: t.data.toList := by rw [← HT4.out]; unfold M.dot; rw [if_neg ht0]
                            refine congrArg (fun q => Value.tuple #[.string q, .bool true]) (Eq.symm (eq_bA ?_))
                            rw [append_list, append_list, append_list, append_list, append_list, cTl, this]; simp
                          have zt : t.toList.isEmpty = false := by rw [ByteArray.toList_eq]; simpa using ht0
                          have zt2 : (t.toList == []) = false := by rw [ByteArray.toList_eq]; simpa using ht0
                          clear hcl HRR TF HT4 ht0 cTl HSE
                          subst hR2
                          have z5 : (⟨#[58]⟩ : ByteArray).size = 1 := rfl
                          have z6 : (⟨#[46]⟩ : ByteArray).size = 1 := rfl
                          have y1 := append_sz ML ⟨#[58]⟩
                          have y2 := append_sz (ML ++ ⟨#[58]⟩) B2
                          have y3 := append_sz (ML ++ ⟨#[58]⟩ ++ B2) ⟨#[46]⟩
                          have y4 := append_sz (ML ++ ⟨#[58]⟩ ++ B2 ++ ⟨#[46]⟩) t
                          have a1 : ∀ W, (Op.stringOp .add ML ⟨#[58]⟩).run Tryz.prog W = .ok (.string (ML ++ ⟨#[58]⟩)) W := fun W => run_string_add_sum _ _ _ (by omega)
                          have a2 : ∀ W, (Op.stringOp .add (ML ++ ⟨#[58]⟩) B2).run Tryz.prog W = .ok (.string (ML ++ ⟨#[58]⟩ ++ B2)) W := fun W => run_string_add_sum _ _ _ (by omega)
                          have a3 : ∀ W, (Op.stringOp .add (ML ++ ⟨#[58]⟩ ++ B2) ⟨#[46]⟩).run Tryz.prog W = .ok (.string (ML ++ ⟨#[58]⟩ ++ B2 ++ ⟨#[46]⟩)) W := fun W => run_string_add_sum _ _ _ (by omega)
                          have a4 : ∀ W, (Op.stringOp .add (ML ++ ⟨#[58]⟩ ++ B2 ++ ⟨#[46]⟩) t).run Tryz.prog W = .ok (.string (ML ++ ⟨#[58]⟩ ++ B2 ++ ⟨#[46]⟩ ++ t)) W := fun W => run_string_add_sum _ _ _ (by omega)
                          have a5 : ∀ W, (Op.stringOp .add (ML ++ ⟨#[58]⟩ ++ B2 ++ ⟨#[46]⟩ ++ t) ⟨#[90]⟩).run Tryz.prog W = .ok (.string (ML ++ ⟨#[58]⟩ ++ B2 ++ ⟨#[46]⟩ ++ t ++ ⟨#[90]⟩)) W := fun W => run_string_add_sum _ _ _ (by show _ + 1 ≤ _; omega)
                          clear y1 y2 y3 y4 z5 z6 cTz hML
                          go_wp2_with fail
                          refine (cZ _).mono ?_
                          rintro r w6 ⟨rfl, hb6⟩
                          have hb7 := BB.trans (hb6.mono BB.size)
                          clear hb6 BB cZ
                          go_wp2_with fail
                          refine (cM _).mono ?_
                          rintro r w7 ⟨rfl, hb8⟩
                          have hb9 := hb7.trans (hb8.mono hb7.size)
                          clear hb7 hb8 cM
                          go_wp2_with fail
                          refine (cT _).mono ?_
                          rintro r w8 ⟨rfl, hb10⟩
                          have hb11 := hb9.trans (hb10.mono hb9.size)
                          clear hb9 hb10 cT
                          go_wp2
                          go_ret2
                          exact ⟨rfl, hb11⟩
              · obtain ⟨hl46, h46⟩ := h46
                have c4 : ∀ W, Calls Tryz.prog 78 #[.string s, .int .i64 c, .string ⟨#[46]⟩] W fun e w' => e = .returned (.int .i64 ((c + 1 : Nat) : Int)) ∧ Below W.heap.size W w' := by
                  intro W
                  have := sign_in s ⟨#[46]⟩ c W hs5 hl46 (by decide)
                  rw [if_pos (by rw [h46]; decide)] at this
                  exact this
                obtain ⟨X3, hX3, hcl0⟩ : ∃ X3 : M.Mo, (X3.y = X.y ∧ X3.m = X.m ∧ X3.d = X.d ∧ X3.h = H ∧ X3.mi = U ∧ X3.se = S ∧ X3.bh = false ∧ X3.zh = 0 ∧ X3.zm = 0) ∧ clV (M.aPl X3 [] (s.data.toList.drop (c + 1))) = R := by
                  refine ⟨{ X with td := true, h := H, mi := U, se := S }, ⟨rfl, rfl, rfl, rfl, rfl, rfl, HX.out.1, HX.out.2.1, HX.out.2.2.1⟩, ?_⟩
                  subst hcc hS
                  rw [← e2, asec_dot s _ (b + 1) hD hl46 h46]
                have hmd3 : M.mayD X3 = true := by
                  have := HMD.out
                  unfold M.mayD at this ⊢
                  rw [hX3.1, hX3.2.1, hX3.2.2.1]; exact this
                have HX3 := Lib.hid hX3
                have HM3 := Lib.hid hmd3
                obtain ⟨ee, hee⟩ : ∃ ee, c + 1 = ee := ⟨_, rfl⟩
                rw [hee] at c4 hcl0
                have hel : ee ≤ s.size := by omega
                have z3 : decide ((0 : Int) < (ee : Int)) = true := decide_eq_true (by omega)
                have z4 : decide (0 < ee) = true := decide_eq_true (by omega)
                have HC0 := Lib.hid hcl0
                clear hcl0 e2 hD hS hcc h46 hl46 HMD HX hX3 hmd3 hee
                go_enter Tryz.func79, Tryz.ntmps79
                go_wp2_with fail
                refine (c1 _).mono ?_
                rintro r w1 ⟨rfl, rfl⟩
                go_wp2_with fail
                refine (c2 _).mono ?_
                rintro r w2 ⟨rfl, hb⟩
                go_wp2_with fail
                refine (c3 _).mono ?_
                rintro r w3 ⟨rfl, hb2⟩
                have hb3 := hb.trans (hb2.mono hb.size)
                clear hb hb2 c1 c2 c3
                go_wp2_with fail
                refine (c4 _).mono ?_
                rintro r w4 ⟨rfl, hb4⟩
                have BB := hb3.trans (hb4.mono hb3.size)
                clear hb3 hb4 c4
                go_wp2_with fail
                go_loop [20] (fun kv => ∃ k : Nat, kv = .int .i64 k ∧ ee ≤ k ∧ k ≤ s.size ∧ Hid (clV (M.aPl X3 ((s.data.toList.drop ee).take (k - ee)) (s.data.toList.drop k)) = R)) (fun kv => s.size - (intOf kv).toNat)
                case atStart => exact ⟨ee, rfl, Nat.le_refl _, hel, by show _ = _; rw [Nat.sub_self]; exact HC0.out⟩
                case round =>
                  obtain ⟨k, rfl, hek, hkl, hst⟩ := hrel
                  clear HC0
                  have hf1 : (ee : Int) ≤ (k : Int) := by omega
                  have hf2 : (k : Int) ≤ (s.size : Int) := by omega
                  by_cases hmore : ∃ hl : k < s.size, M.dB s[k] = true
                  · obtain ⟨hl, hd⟩ := hmore
                    have l1 : decide (k < s.size) = true := decide_eq_true hl
                    have cD := fun W => risdig_any s[k] W
                    rw [hd] at cD
                    have h1 := hst.out
                    rw [drop_cons s k hl, M.aPl, if_pos hd, take_more s ee k hek hl] at h1
                    have H1 := Lib.hid h1
                    clear h1 hst hd
                    have hb8 := s[k].toNat_lt
                    go_wp2_with fail
                    refine (cD _).mono ?_
                    rintro r w' ⟨rfl, rfl⟩
                    go_wp2_with fail
                    go_round
                    case rel => exact ⟨k + 1, by go_num, by omega, by omega, H1⟩
                    case measure => simp [intOf]; omega
                  · have hnd : ∀ hl : k < s.size, M.dB s[k] = false := fun hl => by
                      cases q : M.dB s[k]
                      · rfl
                      · exact absurd ⟨hl, q⟩ hmore
                    have h1 := hst.out
                    rw [apl_stop s X3 _ k hnd] at h1
                    have hx := extract_is s ee k
                    have hxz : (s.extract ee k).size ≤ 1000 := by simp; omega
                    obtain ⟨FR, hFR⟩ : ∃ FR, (s.data.toList.drop ee).take (k - ee) = FR := ⟨_, rfl⟩
                    rw [hFR] at h1 hx
                    have HRR := Lib.hid h1
                    have hX4 : ∃ X4 : M.Mo, X4 = { X3 with fr := FR } := ⟨_, rfl⟩
                    obtain ⟨X4, hX4⟩ := hX4
                    rw [← hX4] at HRR
                    obtain ⟨x1, x2, x3, x4, x5, x6, x7, x8, x9⟩ : X4.y = X.y ∧ X4.m = X.m ∧ X4.d = X.d ∧ X4.h = H ∧ X4.mi = U ∧ X4.se = S ∧ X4.bh = false ∧ X4.zh = 0 ∧ X4.zm = 0 := by rw [hX4]; exact HX3.out
                    have x10 : X4.fr = FR := by rw [hX4]
                    have hmd4 : M.mayD X4 = true := by rw [hX4]; exact HM3.out
                    have TF := Lib.hid (tail_facts s k X4 hs hkl (by rw [x1]; exact hy) hmd4 ⟨by rw [x4]; exact hH24, by rw [x5]; exact hU60, by rw [x6]; exact hS60⟩ ⟨x7, x8, x9⟩)
                    rw [x1, x2, x3, x4, x5, x6, x10] at TF
                    have HSE : Hid (S = S) := rfl
                    have HTX : Hid ((s.extract ee k).data.toList = FR) := by show _ = _; rw [hx, bA_toList]
                    have HTZ : (s.extract ee k).size ≤ 1000 := hxz
                    clear h1 hst x1 x2 x3 x4 x5 x6 x7 x8 x9 x10 hX4 hmd4 HX3 HM3 hFR hx hxz
                    by_cases hl : k < s.size
                    · have l1 : decide (k < s.size) = true := decide_eq_true hl
                      have cD := fun W => risdig_any s[k] W
                      rw [hnd hl] at cD
                      have hb8 := s[k].toNat_lt
                      clear hnd hmore
                      go_wp2_with fail
                      refine (cD _).mono ?_
                      rintro r w' ⟨rfl, rfl⟩
                      clear cD
                      go_wp2_with fail
                      go_loop [18] (fun v => ∃ t : ByteArray, v = .string t ∧ t.size ≤ 1000 ∧ Hid (M.tz t.data.toList = M.tz FR)) (fun v => match v with | .string t => t.size | _ => 0)
                      case atStart => exact ⟨_, rfl, HTZ, by show _ = _; rw [HTX.out]⟩
                      case round =>
                        obtain ⟨t, rfl, htz, hst⟩ := hrel
                        by_cases h0 : 0 < t.size
                        · have hlast := last_list t h0
                          have h1 := hst.out
                          rw [hlast, tz_snoc] at h1
                          by_cases hc : t[t.size - 1]'(by omega) = 48
                          · rw [if_pos hc] at h1
                            have hb : (((t[t.size - 1]'(by omega)).toNat : Int) == 48) = true := by rw [hc]; rfl
                            have H1 := Lib.hid h1
                            clear hlast h1 hst hc
                            go_wp2_with fail
                            go_round
                            case rel => exact ⟨_, rfl, by simp; omega, by show _ = _; rw [extract_take]; exact H1.out⟩
                            case measure => simp; omega
                          · rw [if_neg hc, ← hlast] at h1
                            have hb : (((t[t.size - 1]'(by omega)).toNat : Int) == 48) = false := neC (k := 48) (by omega) hc
                            have HT4 := Lib.hid h1
                            clear hlast h1 hst hc HTX HTZ
                            rcases TF.out with ⟨cZ, hcl⟩ | ⟨o, n, o1, o2, hon, cZ, hmv⟩
                            · have hR2 : R = .tuple #[.string ⟨#[]⟩, .bool false] := by rw [← HRR.out, hcl]; rfl
                              clear hcl HRR TF HT4
                              subst hR2
                              go_wp2_with fail
                              refine (cZ _).mono ?_
                              rintro r w6 ⟨rfl, hb6⟩
                              have hb7 := BB.trans (hb6.mono BB.size)
                              clear hb6 BB cZ
                              go_wp2
                              go_ret2
                              exact ⟨rfl, hb7⟩
                            · rcases hmv with ⟨cM, hcl⟩ | ⟨ML, hML, cM, hcl⟩
                              · have hR2 : R = .tuple #[.string ⟨#[]⟩, .bool false] := by rw [← HRR.out, hcl]; rfl
                                clear hcl HRR TF HT4
                                subst hR2
                                go_wp2_with fail
                                refine (cZ _).mono ?_
                                rintro r w6 ⟨rfl, hb6⟩
                                have hb7 := BB.trans (hb6.mono BB.size)
                                clear hb6 BB cZ
                                go_wp2_with fail
                                refine (cM _).mono ?_
                                rintro r w7 ⟨rfl, hb8⟩
                                have hb9 := hb7.trans (hb8.mono hb7.size)
                                clear hb7 hb8 cM
                                go_wp2
                                go_ret2
                                exact ⟨rfl, hb9⟩
                              · by_cases ht0 : t.data.toList = []
                                · have hR2 : R = .tuple #[.string (ML ++ ⟨#[58]⟩ ++ B2 ++ ⟨#[90]⟩), .bool true] := by
                                    rw [← HRR.out, hcl]
                                    have : M.dot (M.tz FR) = [] := by rw [← HT4.out, ht0]; rfl
                                    refine congrArg (fun q => Value.tuple #[.string q, .bool true]) (Eq.symm (eq_bA ?_))
                                    rw [append_list, append_list, append_list, cTl, this]; simp
                                  have ht1 : t = ⟨#[]⟩ := by rw [eq_bA ht0]; rfl
                                  clear hcl HRR TF HT4 ht0 cTl HSE
                                  subst ht1
                                  subst hR2
                                  have z5 : (⟨#[58]⟩ : ByteArray).size = 1 := rfl
                                  have y1 := append_sz ML ⟨#[58]⟩
                                  have y2 := append_sz (ML ++ ⟨#[58]⟩) B2
                                  have a1 : ∀ W, (Op.stringOp .add ML ⟨#[58]⟩).run Tryz.prog W = .ok (.string (ML ++ ⟨#[58]⟩)) W := fun W => run_string_add_sum _ _ _ (by omega)
                                  have a2 : ∀ W, (Op.stringOp .add (ML ++ ⟨#[58]⟩) B2).run Tryz.prog W = .ok (.string (ML ++ ⟨#[58]⟩ ++ B2)) W := fun W => run_string_add_sum _ _ _ (by omega)
                                  have a3 : ∀ W, (Op.stringOp .add (ML ++ ⟨#[58]⟩ ++ B2) ⟨#[90]⟩).run Tryz.prog W = .ok (.string (ML ++ ⟨#[58]⟩ ++ B2 ++ ⟨#[90]⟩)) W := fun W => run_string_add_sum _ _ _ (by show _ + 1 ≤ _; omega)
                                  clear y1 y2 z5 cTz hML
                                  go_wp2_with fail
                                  refine (cZ _).mono ?_
                                  rintro r w6 ⟨rfl, hb6⟩
                                  have hb7 := BB.trans (hb6.mono BB.size)
                                  clear hb6 BB cZ
                                  go_wp2_with fail
                                  refine (cM _).mono ?_
                                  rintro r w7 ⟨rfl, hb8⟩
                                  have hb9 := hb7.trans (hb8.mono hb7.size)
                                  clear hb7 hb8 cM
                                  go_wp2_with fail
                                  refine (cT _).mono ?_
                                  rintro r w8 ⟨rfl, hb10⟩
                                  have hb11 := hb9.trans (hb10.mono hb9.size)
                                  clear hb9 hb10 cT
                                  go_wp2
                                  go_ret2
                                  exact ⟨rfl, hb11⟩
                                · have hR2 : R = .tuple #[.string (ML ++ ⟨#[58]⟩ ++ B2 ++ ⟨#[46]⟩ ++ t ++ ⟨#[90]⟩), .bool true] := by
                                    rw [← HRR.out, hcl]
                                    have : M.dot (M.tz FR) = 46 :: t.data.toList := by rw [← HT4.out]; unfold M.dot; rw [if_neg ht0]
                                    refine congrArg (fun q => Value.tuple #[.string q, .bool true]) (Eq.symm (eq_bA ?_))
                                    rw [append_list, append_list, append_list, append_list, append_list, cTl, this]; simp
                                  have zt : t.toList.isEmpty = false := by rw [ByteArray.toList_eq]; simpa using ht0
                                  have zt2 : (t.toList == []) = false := by rw [ByteArray.toList_eq]; simpa using ht0
                                  clear hcl HRR TF HT4 ht0 cTl HSE
                                  subst hR2
                                  have z5 : (⟨#[58]⟩ : ByteArray).size = 1 := rfl
                                  have z6 : (⟨#[46]⟩ : ByteArray).size = 1 := rfl
                                  have y1 := append_sz ML ⟨#[58]⟩
                                  have y2 := append_sz (ML ++ ⟨#[58]⟩) B2
                                  have y3 := append_sz (ML ++ ⟨#[58]⟩ ++ B2) ⟨#[46]⟩
                                  have y4 := append_sz (ML ++ ⟨#[58]⟩ ++ B2 ++ ⟨#[46]⟩) t
                                  have a1 : ∀ W, (Op.stringOp .add ML ⟨#[58]⟩).run Tryz.prog W = .ok (.string (ML ++ ⟨#[58]⟩)) W := fun W => run_string_add_sum _ _ _ (by omega)
                                  have a2 : ∀ W, (Op.stringOp .add (ML ++ ⟨#[58]⟩) B2).run Tryz.prog W = .ok (.string (ML ++ ⟨#[58]⟩ ++ B2)) W := fun W => run_string_add_sum _ _ _ (by omega)
                                  have a3 : ∀ W, (Op.stringOp .add (ML ++ ⟨#[58]⟩ ++ B2) ⟨#[46]⟩).run Tryz.prog W = .ok (.string (ML ++ ⟨#[58]⟩ ++ B2 ++ ⟨#[46]⟩)) W := fun W => run_string_add_sum _ _ _ (by omega)
                                  have a4 : ∀ W, (Op.stringOp .add (ML ++ ⟨#[58]⟩ ++ B2 ++ ⟨#[46]⟩) t).run Tryz.prog W = .ok (.string (ML ++ ⟨#[58]⟩ ++ B2 ++ ⟨#[46]⟩ ++ t)) W := fun W => run_string_add_sum _ _ _ (by omega)
                                  have a5 : ∀ W, (Op.stringOp .add (ML ++ ⟨#[58]⟩ ++ B2 ++ ⟨#[46]⟩ ++ t) ⟨#[90]⟩).run Tryz.prog W = .ok (.string (ML ++ ⟨#[58]⟩ ++ B2 ++ ⟨#[46]⟩ ++ t ++ ⟨#[90]⟩)) W := fun W => run_string_add_sum _ _ _ (by show _ + 1 ≤ _; omega)
                                  clear y1 y2 y3 y4 z5 z6 cTz hML
                                  go_wp2_with fail
                                  refine (cZ _).mono ?_
                                  rintro r w6 ⟨rfl, hb6⟩
                                  have hb7 := BB.trans (hb6.mono BB.size)
                                  clear hb6 BB cZ
                                  go_wp2_with fail
                                  refine (cM _).mono ?_
                                  rintro r w7 ⟨rfl, hb8⟩
                                  have hb9 := hb7.trans (hb8.mono hb7.size)
                                  clear hb7 hb8 cM
                                  go_wp2_with fail
                                  refine (cT _).mono ?_
                                  rintro r w8 ⟨rfl, hb10⟩
                                  have hb11 := hb9.trans (hb10.mono hb9.size)
                                  clear hb9 hb10 cT
                                  go_wp2
                                  go_ret2
                                  exact ⟨rfl, hb11⟩
                        · have hz : t.data.toList = [] := by
                            have := sz_list t
                            exact List.eq_nil_of_length_eq_zero (by omega)
                          have h1 := hst.out
                          rw [hz] at h1
                          have HT4 : Hid (t.data.toList = M.tz FR) := by show _ = _; rw [hz]; exact h1
                          clear hz hst h1 HTX HTZ
                          rcases TF.out with ⟨cZ, hcl⟩ | ⟨o, n, o1, o2, hon, cZ, hmv⟩
                          · have hR2 : R = .tuple #[.string ⟨#[]⟩, .bool false] := by rw [← HRR.out, hcl]; rfl
                            clear hcl HRR TF HT4
                            subst hR2
                            go_wp2_with fail
                            refine (cZ _).mono ?_
                            rintro r w6 ⟨rfl, hb6⟩
                            have hb7 := BB.trans (hb6.mono BB.size)
                            clear hb6 BB cZ
                            go_wp2
                            go_ret2
                            exact ⟨rfl, hb7⟩
                          · rcases hmv with ⟨cM, hcl⟩ | ⟨ML, hML, cM, hcl⟩
                            · have hR2 : R = .tuple #[.string ⟨#[]⟩, .bool false] := by rw [← HRR.out, hcl]; rfl
                              clear hcl HRR TF HT4
                              subst hR2
                              go_wp2_with fail
                              refine (cZ _).mono ?_
                              rintro r w6 ⟨rfl, hb6⟩
                              have hb7 := BB.trans (hb6.mono BB.size)
                              clear hb6 BB cZ
                              go_wp2_with fail
                              refine (cM _).mono ?_
                              rintro r w7 ⟨rfl, hb8⟩
                              have hb9 := hb7.trans (hb8.mono hb7.size)
                              clear hb7 hb8 cM
                              go_wp2
                              go_ret2
                              exact ⟨rfl, hb9⟩
                            · by_cases ht0 : t.data.toList = []
                              · have hR2 : R = .tuple #[.string (ML ++ ⟨#[58]⟩ ++ B2 ++ ⟨#[90]⟩), .bool true] := by
                                  rw [← HRR.out, hcl]
                                  have : M.dot (M.tz FR) = [] := by rw [← HT4.out, ht0]; rfl
                                  refine congrArg (fun q => Value.tuple #[.string q, .bool true]) (Eq.symm (eq_bA ?_))
                                  rw [append_list, append_list, append_list, cTl, this]; simp
                                have ht1 : t = ⟨#[]⟩ := by rw [eq_bA ht0]; rfl
                                clear hcl HRR TF HT4 ht0 cTl HSE
                                subst ht1
                                subst hR2
                                have z5 : (⟨#[58]⟩ : ByteArray).size = 1 := rfl
                                have y1 := append_sz ML ⟨#[58]⟩
                                have y2 := append_sz (ML ++ ⟨#[58]⟩) B2
                                have a1 : ∀ W, (Op.stringOp .add ML ⟨#[58]⟩).run Tryz.prog W = .ok (.string (ML ++ ⟨#[58]⟩)) W := fun W => run_string_add_sum _ _ _ (by omega)
                                have a2 : ∀ W, (Op.stringOp .add (ML ++ ⟨#[58]⟩) B2).run Tryz.prog W = .ok (.string (ML ++ ⟨#[58]⟩ ++ B2)) W := fun W => run_string_add_sum _ _ _ (by omega)
                                have a3 : ∀ W, (Op.stringOp .add (ML ++ ⟨#[58]⟩ ++ B2) ⟨#[90]⟩).run Tryz.prog W = .ok (.string (ML ++ ⟨#[58]⟩ ++ B2 ++ ⟨#[90]⟩)) W := fun W => run_string_add_sum _ _ _ (by show _ + 1 ≤ _; omega)
                                clear y1 y2 z5 cTz hML
                                go_wp2_with fail
                                refine (cZ _).mono ?_
                                rintro r w6 ⟨rfl, hb6⟩
                                have hb7 := BB.trans (hb6.mono BB.size)
                                clear hb6 BB cZ
                                go_wp2_with fail
                                refine (cM _).mono ?_
                                rintro r w7 ⟨rfl, hb8⟩
                                have hb9 := hb7.trans (hb8.mono hb7.size)
                                clear hb7 hb8 cM
                                go_wp2_with fail
                                refine (cT _).mono ?_
                                rintro r w8 ⟨rfl, hb10⟩
                                have hb11 := hb9.trans (hb10.mono hb9.size)
                                clear hb9 hb10 cT
                                go_wp2
                                go_ret2
                                exact ⟨rfl, hb11⟩
                              · have hR2 : R = .tuple #[.string (ML ++ ⟨#[58]⟩ ++ B2 ++ ⟨#[46]⟩ ++ t ++ ⟨#[90]⟩), .bool true] := by
                                  rw [← HRR.out, hcl]
                                  have : M.dot (M.tz FR) = 46 :: t.data.toList := by rw [← HT4.out]; unfold M.dot; rw [if_neg ht0]
                                  refine congrArg (fun q => Value.tuple #[.string q, .bool true]) (Eq.symm (eq_bA ?_))
                                  rw [append_list, append_list, append_list, append_list, append_list, cTl, this]; simp
                                have zt : t.toList.isEmpty = false := by rw [ByteArray.toList_eq]; simpa using ht0
                                have zt2 : (t.toList == []) = false := by rw [ByteArray.toList_eq]; simpa using ht0
                                clear hcl HRR TF HT4 ht0 cTl HSE
                                subst hR2
                                have z5 : (⟨#[58]⟩ : ByteArray).size = 1 := rfl
                                have z6 : (⟨#[46]⟩ : ByteArray).size = 1 := rfl
                                have y1 := append_sz ML ⟨#[58]⟩
                                have y2 := append_sz (ML ++ ⟨#[58]⟩) B2
                                have y3 := append_sz (ML ++ ⟨#[58]⟩ ++ B2) ⟨#[46]⟩
                                have y4 := append_sz (ML ++ ⟨#[58]⟩ ++ B2 ++ ⟨#[46]⟩) t
                                have a1 : ∀ W, (Op.stringOp .add ML ⟨#[58]⟩).run Tryz.prog W = .ok (.string (ML ++ ⟨#[58]⟩)) W := fun W => run_string_add_sum _ _ _ (by omega)
                                have a2 : ∀ W, (Op.stringOp .add (ML ++ ⟨#[58]⟩) B2).run Tryz.prog W = .ok (.string (ML ++ ⟨#[58]⟩ ++ B2)) W := fun W => run_string_add_sum _ _ _ (by omega)
                                have a3 : ∀ W, (Op.stringOp .add (ML ++ ⟨#[58]⟩ ++ B2) ⟨#[46]⟩).run Tryz.prog W = .ok (.string (ML ++ ⟨#[58]⟩ ++ B2 ++ ⟨#[46]⟩)) W := fun W => run_string_add_sum _ _ _ (by omega)
                                have a4 : ∀ W, (Op.stringOp .add (ML ++ ⟨#[58]⟩ ++ B2 ++ ⟨#[46]⟩) t).run Tryz.prog W = .ok (.string (ML ++ ⟨#[58]⟩ ++ B2 ++ ⟨#[46]⟩ ++ t)) W := fun W => run_string_add_sum _ _ _ (by omega)
                                have a5 : ∀ W, (Op.stringOp .add (ML ++ ⟨#[58]⟩ ++ B2 ++ ⟨#[46]⟩ ++ t) ⟨#[90]⟩).run Tryz.prog W = .ok (.string (ML ++ ⟨#[58]⟩ ++ B2 ++ ⟨#[46]⟩ ++ t ++ ⟨#[90]⟩)) W := fun W => run_string_add_sum _ _ _ (by show _ + 1 ≤ _; omega)
                                clear y1 y2 y3 y4 z5 z6 cTz hML
                                go_wp2_with fail
                                refine (cZ _).mono ?_
                                rintro r w6 ⟨rfl, hb6⟩
                                have hb7 := BB.trans (hb6.mono BB.size)
                                clear hb6 BB cZ
                                go_wp2_with fail
                                refine (cM _).mono ?_
                                rintro r w7 ⟨rfl, hb8⟩
                                have hb9 := hb7.trans (hb8.mono hb7.size)
                                clear hb7 hb8 cM
                                go_wp2_with fail
                                refine (cT _).mono ?_
                                rintro r w8 ⟨rfl, hb10⟩
                                have hb11 := hb9.trans (hb10.mono hb9.size)
                                clear hb9 hb10 cT
                                go_wp2
                                go_ret2
                                exact ⟨rfl, hb11⟩
                    · obtain rfl : k = s.size := by omega
                      have l1 : decide (s.size < s.size) = false := decide_eq_false (by omega)
                      clear hnd hmore
                      go_wp2_with fail
                      go_loop [18] (fun v => ∃ t : ByteArray, v = .string t ∧ t.size ≤ 1000 ∧ Hid (M.tz t.data.toList = M.tz FR)) (fun v => match v with | .string t => t.size | _ => 0)
                      case atStart => exact ⟨_, rfl, HTZ, by show _ = _; rw [HTX.out]⟩
                      case round =>
                        obtain ⟨t, rfl, htz, hst⟩ := hrel
                        by_cases h0 : 0 < t.size
                        · have hlast := last_list t h0
                          have h1 := hst.out
                          rw [hlast, tz_snoc] at h1
                          by_cases hc : t[t.size - 1]'(by omega) = 48
                          · rw [if_pos hc] at h1
                            have hb : (((t[t.size - 1]'(by omega)).toNat : Int) == 48) = true := by rw [hc]; rfl
                            have H1 := Lib.hid h1
                            clear hlast h1 hst hc
                            go_wp2_with fail
                            go_round
                            case rel => exact ⟨_, rfl, by simp; omega, by show _ = _; rw [extract_take]; exact H1.out⟩
                            case measure => simp; omega
                          · rw [if_neg hc, ← hlast] at h1
                            have hb : (((t[t.size - 1]'(by omega)).toNat : Int) == 48) = false := neC (k := 48) (by omega) hc
                            have HT4 := Lib.hid h1
                            clear hlast h1 hst hc HTX HTZ
                            rcases TF.out with ⟨cZ, hcl⟩ | ⟨o, n, o1, o2, hon, cZ, hmv⟩
                            · have hR2 : R = .tuple #[.string ⟨#[]⟩, .bool false] := by rw [← HRR.out, hcl]; rfl
                              clear hcl HRR TF HT4
                              subst hR2
                              go_wp2_with fail
                              refine (cZ _).mono ?_
                              rintro r w6 ⟨rfl, hb6⟩
                              have hb7 := BB.trans (hb6.mono BB.size)
                              clear hb6 BB cZ
                              go_wp2
                              go_ret2
                              exact ⟨rfl, hb7⟩
                            · rcases hmv with ⟨cM, hcl⟩ | ⟨ML, hML, cM, hcl⟩
                              · have hR2 : R = .tuple #[.string ⟨#[]⟩, .bool false] := by rw [← HRR.out, hcl]; rfl
                                clear hcl HRR TF HT4
                                subst hR2
                                go_wp2_with fail
                                refine (cZ _).mono ?_
                                rintro r w6 ⟨rfl, hb6⟩
                                have hb7 := BB.trans (hb6.mono BB.size)
                                clear hb6 BB cZ
                                go_wp2_with fail
                                refine (cM _).mono ?_
                                rintro r w7 ⟨rfl, hb8⟩
                                have hb9 := hb7.trans (hb8.mono hb7.size)
                                clear hb7 hb8 cM
                                go_wp2
                                go_ret2
                                exact ⟨rfl, hb9⟩
                              · by_cases ht0 : t.data.toList = []
                                · have hR2 : R = .tuple #[.string (ML ++ ⟨#[58]⟩ ++ B2 ++ ⟨#[90]⟩), .bool true] := by
                                    rw [← HRR.out, hcl]
                                    have : M.dot (M.tz FR) = [] := by rw [← HT4.out, ht0]; rfl
                                    refine congrArg (fun q => Value.tuple #[.string q, .bool true]) (Eq.symm (eq_bA ?_))
                                    rw [append_list, append_list, append_list, cTl, this]; simp
                                  have ht1 : t = ⟨#[]⟩ := by rw [eq_bA ht0]; rfl
                                  clear hcl HRR TF HT4 ht0 cTl HSE
                                  subst ht1
                                  subst hR2
                                  have z5 : (⟨#[58]⟩ : ByteArray).size = 1 := rfl
                                  have y1 := append_sz ML ⟨#[58]⟩
                                  have y2 := append_sz (ML ++ ⟨#[58]⟩) B2
                                  have a1 : ∀ W, (Op.stringOp .add ML ⟨#[58]⟩).run Tryz.prog W = .ok (.string (ML ++ ⟨#[58]⟩)) W := fun W => run_string_add_sum _ _ _ (by omega)
                                  have a2 : ∀ W, (Op.stringOp .add (ML ++ ⟨#[58]⟩) B2).run Tryz.prog W = .ok (.string (ML ++ ⟨#[58]⟩ ++ B2)) W := fun W => run_string_add_sum _ _ _ (by omega)
                                  have a3 : ∀ W, (Op.stringOp .add (ML ++ ⟨#[58]⟩ ++ B2) ⟨#[90]⟩).run Tryz.prog W = .ok (.string (ML ++ ⟨#[58]⟩ ++ B2 ++ ⟨#[90]⟩)) W := fun W => run_string_add_sum _ _ _ (by show _ + 1 ≤ _; omega)
                                  clear y1 y2 z5 cTz hML
                                  go_wp2_with fail
                                  refine (cZ _).mono ?_
                                  rintro r w6 ⟨rfl, hb6⟩
                                  have hb7 := BB.trans (hb6.mono BB.size)
                                  clear hb6 BB cZ
                                  go_wp2_with fail
                                  refine (cM _).mono ?_
                                  rintro r w7 ⟨rfl, hb8⟩
                                  have hb9 := hb7.trans (hb8.mono hb7.size)
                                  clear hb7 hb8 cM
                                  go_wp2_with fail
                                  refine (cT _).mono ?_
                                  rintro r w8 ⟨rfl, hb10⟩
                                  have hb11 := hb9.trans (hb10.mono hb9.size)
                                  clear hb9 hb10 cT
                                  go_wp2
                                  go_ret2
                                  exact ⟨rfl, hb11⟩
                                · have hR2 : R = .tuple #[.string (ML ++ ⟨#[58]⟩ ++ B2 ++ ⟨#[46]⟩ ++ t ++ ⟨#[90]⟩), .bool true] := by
                                    rw [← HRR.out, hcl]
                                    have : M.dot (M.tz FR) = 46 :: t.data.toList := by rw [← HT4.out]; unfold M.dot; rw [if_neg ht0]
                                    refine congrArg (fun q => Value.tuple #[.string q, .bool true]) (Eq.symm (eq_bA ?_))
                                    rw [append_list, append_list, append_list, append_list, append_list, cTl, this]; simp
                                  have zt : t.toList.isEmpty = false := by rw [ByteArray.toList_eq]; simpa using ht0
                                  have zt2 : (t.toList == []) = false := by rw [ByteArray.toList_eq]; simpa using ht0
                                  clear hcl HRR TF HT4 ht0 cTl HSE
                                  subst hR2
                                  have z5 : (⟨#[58]⟩ : ByteArray).size = 1 := rfl
                                  have z6 : (⟨#[46]⟩ : ByteArray).size = 1 := rfl
                                  have y1 := append_sz ML ⟨#[58]⟩
                                  have y2 := append_sz (ML ++ ⟨#[58]⟩) B2
                                  have y3 := append_sz (ML ++ ⟨#[58]⟩ ++ B2) ⟨#[46]⟩
                                  have y4 := append_sz (ML ++ ⟨#[58]⟩ ++ B2 ++ ⟨#[46]⟩) t
                                  have a1 : ∀ W, (Op.stringOp .add ML ⟨#[58]⟩).run Tryz.prog W = .ok (.string (ML ++ ⟨#[58]⟩)) W := fun W => run_string_add_sum _ _ _ (by omega)
                                  have a2 : ∀ W, (Op.stringOp .add (ML ++ ⟨#[58]⟩) B2).run Tryz.prog W = .ok (.string (ML ++ ⟨#[58]⟩ ++ B2)) W := fun W => run_string_add_sum _ _ _ (by omega)
                                  have a3 : ∀ W, (Op.stringOp .add (ML ++ ⟨#[58]⟩ ++ B2) ⟨#[46]⟩).run Tryz.prog W = .ok (.string (ML ++ ⟨#[58]⟩ ++ B2 ++ ⟨#[46]⟩)) W := fun W => run_string_add_sum _ _ _ (by omega)
                                  have a4 : ∀ W, (Op.stringOp .add (ML ++ ⟨#[58]⟩ ++ B2 ++ ⟨#[46]⟩) t).run Tryz.prog W = .ok (.string (ML ++ ⟨#[58]⟩ ++ B2 ++ ⟨#[46]⟩ ++ t)) W := fun W => run_string_add_sum _ _ _ (by omega)
                                  have a5 : ∀ W, (Op.stringOp .add (ML ++ ⟨#[58]⟩ ++ B2 ++ ⟨#[46]⟩ ++ t) ⟨#[90]⟩).run Tryz.prog W = .ok (.string (ML ++ ⟨#[58]⟩ ++ B2 ++ ⟨#[46]⟩ ++ t ++ ⟨#[90]⟩)) W := fun W => run_string_add_sum _ _ _ (by show _ + 1 ≤ _; omega)
                                  clear y1 y2 y3 y4 z5 z6 cTz hML
                                  go_wp2_with fail
                                  refine (cZ _).mono ?_
                                  rintro r w6 ⟨rfl, hb6⟩
                                  have hb7 := BB.trans (hb6.mono BB.size)
                                  clear hb6 BB cZ
                                  go_wp2_with fail
                                  refine (cM _).mono ?_
                                  rintro r w7 ⟨rfl, hb8⟩
                                  have hb9 := hb7.trans (hb8.mono hb7.size)
                                  clear hb7 hb8 cM
                                  go_wp2_with fail
                                  refine (cT _).mono ?_
                                  rintro r w8 ⟨rfl, hb10⟩
                                  have hb11 := hb9.trans (hb10.mono hb9.size)
                                  clear hb9 hb10 cT
                                  go_wp2
                                  go_ret2
                                  exact ⟨rfl, hb11⟩
                        · have hz : t.data.toList = [] := by
                            have := sz_list t
                            exact List.eq_nil_of_length_eq_zero (by omega)
                          have h1 := hst.out
                          rw [hz] at h1
                          have HT4 : Hid (t.data.toList = M.tz FR) := by show _ = _; rw [hz]; exact h1
                          clear hz hst h1 HTX HTZ
                          rcases TF.out with ⟨cZ, hcl⟩ | ⟨o, n, o1, o2, hon, cZ, hmv⟩
                          · have hR2 : R = .tuple #[.string ⟨#[]⟩, .bool false] := by rw [← HRR.out, hcl]; rfl
                            clear hcl HRR TF HT4
                            subst hR2
                            go_wp2_with fail
                            refine (cZ _).mono ?_
                            rintro r w6 ⟨rfl, hb6⟩
                            have hb7 := BB.trans (hb6.mono BB.size)
                            clear hb6 BB cZ
                            go_wp2
                            go_ret2
                            exact ⟨rfl, hb7⟩
                          · rcases hmv with ⟨cM, hcl⟩ | ⟨ML, hML, cM, hcl⟩
                            · have hR2 : R = .tuple #[.string ⟨#[]⟩, .bool false] := by rw [← HRR.out, hcl]; rfl
                              clear hcl HRR TF HT4
                              subst hR2
                              go_wp2_with fail
                              refine (cZ _).mono ?_
                              rintro r w6 ⟨rfl, hb6⟩
                              have hb7 := BB.trans (hb6.mono BB.size)
                              clear hb6 BB cZ
                              go_wp2_with fail
                              refine (cM _).mono ?_
                              rintro r w7 ⟨rfl, hb8⟩
                              have hb9 := hb7.trans (hb8.mono hb7.size)
                              clear hb7 hb8 cM
                              go_wp2
                              go_ret2
                              exact ⟨rfl, hb9⟩
                            · by_cases ht0 : t.data.toList = []
                              · have hR2 : R = .tuple #[.string (ML ++ ⟨#[58]⟩ ++ B2 ++ ⟨#[90]⟩), .bool true] := by
                                  rw [← HRR.out, hcl]
                                  have : M.dot (M.tz FR) = [] := by rw [← HT4.out, ht0]; rfl
                                  refine congrArg (fun q => Value.tuple #[.string q, .bool true]) (Eq.symm (eq_bA ?_))
                                  rw [append_list, append_list, append_list, cTl, this]; simp
                                have ht1 : t = ⟨#[]⟩ := by rw [eq_bA ht0]; rfl
                                clear hcl HRR TF HT4 ht0 cTl HSE
                                subst ht1
                                subst hR2
                                have z5 : (⟨#[58]⟩ : ByteArray).size = 1 := rfl
                                have y1 := append_sz ML ⟨#[58]⟩
                                have y2 := append_sz (ML ++ ⟨#[58]⟩) B2
                                have a1 : ∀ W, (Op.stringOp .add ML ⟨#[58]⟩).run Tryz.prog W = .ok (.string (ML ++ ⟨#[58]⟩)) W := fun W => run_string_add_sum _ _ _ (by omega)
                                have a2 : ∀ W, (Op.stringOp .add (ML ++ ⟨#[58]⟩) B2).run Tryz.prog W = .ok (.string (ML ++ ⟨#[58]⟩ ++ B2)) W := fun W => run_string_add_sum _ _ _ (by omega)
                                have a3 : ∀ W, (Op.stringOp .add (ML ++ ⟨#[58]⟩ ++ B2) ⟨#[90]⟩).run Tryz.prog W = .ok (.string (ML ++ ⟨#[58]⟩ ++ B2 ++ ⟨#[90]⟩)) W := fun W => run_string_add_sum _ _ _ (by show _ + 1 ≤ _; omega)
                                clear y1 y2 z5 cTz hML
                                go_wp2_with fail
                                refine (cZ _).mono ?_
                                rintro r w6 ⟨rfl, hb6⟩
                                have hb7 := BB.trans (hb6.mono BB.size)
                                clear hb6 BB cZ
                                go_wp2_with fail
                                refine (cM _).mono ?_
                                rintro r w7 ⟨rfl, hb8⟩
                                have hb9 := hb7.trans (hb8.mono hb7.size)
                                clear hb7 hb8 cM
                                go_wp2_with fail
                                refine (cT _).mono ?_
                                rintro r w8 ⟨rfl, hb10⟩
                                have hb11 := hb9.trans (hb10.mono hb9.size)
                                clear hb9 hb10 cT
                                go_wp2
                                go_ret2
                                exact ⟨rfl, hb11⟩
                              · have hR2 : R = .tuple #[.string (ML ++ ⟨#[58]⟩ ++ B2 ++ ⟨#[46]⟩ ++ t ++ ⟨#[90]⟩), .bool true] := by
                                  rw [← HRR.out, hcl]
                                  have : M.dot (M.tz FR) = 46 :: t.data.toList := by rw [← HT4.out]; unfold M.dot; rw [if_neg ht0]
                                  refine congrArg (fun q => Value.tuple #[.string q, .bool true]) (Eq.symm (eq_bA ?_))
                                  rw [append_list, append_list, append_list, append_list, append_list, cTl, this]; simp
                                have zt : t.toList.isEmpty = false := by rw [ByteArray.toList_eq]; simpa using ht0
                                have zt2 : (t.toList == []) = false := by rw [ByteArray.toList_eq]; simpa using ht0
                                clear hcl HRR TF HT4 ht0 cTl HSE
                                subst hR2
                                have z5 : (⟨#[58]⟩ : ByteArray).size = 1 := rfl
                                have z6 : (⟨#[46]⟩ : ByteArray).size = 1 := rfl
                                have y1 := append_sz ML ⟨#[58]⟩
                                have y2 := append_sz (ML ++ ⟨#[58]⟩) B2
                                have y3 := append_sz (ML ++ ⟨#[58]⟩ ++ B2) ⟨#[46]⟩
                                have y4 := append_sz (ML ++ ⟨#[58]⟩ ++ B2 ++ ⟨#[46]⟩) t
                                have a1 : ∀ W, (Op.stringOp .add ML ⟨#[58]⟩).run Tryz.prog W = .ok (.string (ML ++ ⟨#[58]⟩)) W := fun W => run_string_add_sum _ _ _ (by omega)
                                have a2 : ∀ W, (Op.stringOp .add (ML ++ ⟨#[58]⟩) B2).run Tryz.prog W = .ok (.string (ML ++ ⟨#[58]⟩ ++ B2)) W := fun W => run_string_add_sum _ _ _ (by omega)
                                have a3 : ∀ W, (Op.stringOp .add (ML ++ ⟨#[58]⟩ ++ B2) ⟨#[46]⟩).run Tryz.prog W = .ok (.string (ML ++ ⟨#[58]⟩ ++ B2 ++ ⟨#[46]⟩)) W := fun W => run_string_add_sum _ _ _ (by omega)
                                have a4 : ∀ W, (Op.stringOp .add (ML ++ ⟨#[58]⟩ ++ B2 ++ ⟨#[46]⟩) t).run Tryz.prog W = .ok (.string (ML ++ ⟨#[58]⟩ ++ B2 ++ ⟨#[46]⟩ ++ t)) W := fun W => run_string_add_sum _ _ _ (by omega)
                                have a5 : ∀ W, (Op.stringOp .add (ML ++ ⟨#[58]⟩ ++ B2 ++ ⟨#[46]⟩ ++ t) ⟨#[90]⟩).run Tryz.prog W = .ok (.string (ML ++ ⟨#[58]⟩ ++ B2 ++ ⟨#[46]⟩ ++ t ++ ⟨#[90]⟩)) W := fun W => run_string_add_sum _ _ _ (by show _ + 1 ≤ _; omega)
                                clear y1 y2 y3 y4 z5 z6 cTz hML
                                go_wp2_with fail
                                refine (cZ _).mono ?_
                                rintro r w6 ⟨rfl, hb6⟩
                                have hb7 := BB.trans (hb6.mono BB.size)
                                clear hb6 BB cZ
                                go_wp2_with fail
                                refine (cM _).mono ?_
                                rintro r w7 ⟨rfl, hb8⟩
                                have hb9 := hb7.trans (hb8.mono hb7.size)
                                clear hb7 hb8 cM
                                go_wp2_with fail
                                refine (cT _).mono ?_
                                rintro r w8 ⟨rfl, hb10⟩
                                have hb11 := hb9.trans (hb10.mono hb9.size)
                                clear hb9 hb10 cT
                                go_wp2
                                go_ret2
                                exact ⟨rfl, hb11⟩
end Go.Proofs.YtipgipgehnhgkaaGreatDoor.S10
