/- What is told of the texts over which the schemas part. -/
import Derived.Test.YtipgipgehnhgkaaGreatDoorWd
import Derived.Test.YtipgipgehnhgkaaGreatDoorWc
import Derived.Test.YtipgipgehnhgkaaGreatDoorMt
set_option linter.unusedVariables false
namespace Go.Proofs.YtipgipgehnhgkaaGreatDoor
open Go.RowKit
open Go

/-- The old schema tells a, x of s, the new one b, y. -/
def Par (s a x b y : ByteArray) : Prop := Tel 11 s a x ∧ Tel 12 s b y
theorem p_0o7 : Par ⟨#[48, 111, 55]⟩ tStr ⟨#[48, 111, 55]⟩ tInt ⟨#[55]⟩ := by
  refine ⟨tel_strO _ (by decide) (by decide) (by decide) (by decide) (by decide) (by decide), ?_⟩
  have := tel_intN 12 (by decide) ⟨#[48, 111, 55]⟩ (7 : Nat) (by decide) (by decide) (by decide) (by decide)
  rwa [tx_eq (X := ⟨#[55]⟩) (by rw [M.txt_nat, M.dg_small (by decide)]; rfl)] at this
theorem p_010 : Par ⟨#[48, 49, 48]⟩ tInt ⟨#[56]⟩ tInt ⟨#[49, 48]⟩ := ⟨k_010, k_010n⟩
theorem p_08 : Par ⟨#[48, 56]⟩ tStr ⟨#[48, 56]⟩ tInt ⟨#[56]⟩ := by
  refine ⟨tel_strO _ (by decide) (by decide) (by decide) (by decide) (by decide) (by decide), ?_⟩
  have := tel_intN 12 (by decide) ⟨#[48, 56]⟩ (8 : Nat) (by decide) (by decide) (by decide) (by decide)
  rwa [tx_eq (X := ⟨#[56]⟩) (by rw [M.txt_nat, M.dg_small (by decide)]; rfl)] at this
theorem p_six (c : UInt8) (hc : M.dv c < 10) : Par (bA [49, 58, 48, c]) tInt (bA (M.dg (60 + M.dv c))) tStr (bA [49, 58, 48, c]) := by
  have h := M.dv_lt10 hc
  have hd : ∀ k : Nat, k < 10 → Par (bA [49, 58, 48, UInt8.ofNat (48 + k)]) tInt (tx ((60 + k : Nat) : Int)) tStr (bA [49, 58, 48, UInt8.ofNat (48 + k)]) := by
    intro k hk
    match k, hk with
    | 0, _ => exact ⟨tel_intO _ _ (by decide) (by decide) (by decide) (by decide) (by decide), tel_strN 12 (by decide) _ (by decide) (by decide) (by decide) (by decide) (by decide) (by decide) (by decide)⟩
    | 1, _ => exact ⟨tel_intO _ _ (by decide) (by decide) (by decide) (by decide) (by decide), tel_strN 12 (by decide) _ (by decide) (by decide) (by decide) (by decide) (by decide) (by decide) (by decide)⟩
    | 2, _ => exact ⟨tel_intO _ _ (by decide) (by decide) (by decide) (by decide) (by decide), tel_strN 12 (by decide) _ (by decide) (by decide) (by decide) (by decide) (by decide) (by decide) (by decide)⟩
    | 3, _ => exact ⟨tel_intO _ _ (by decide) (by decide) (by decide) (by decide) (by decide), tel_strN 12 (by decide) _ (by decide) (by decide) (by decide) (by decide) (by decide) (by decide) (by decide)⟩
    | 4, _ => exact ⟨tel_intO _ _ (by decide) (by decide) (by decide) (by decide) (by decide), tel_strN 12 (by decide) _ (by decide) (by decide) (by decide) (by decide) (by decide) (by decide) (by decide)⟩
    | 5, _ => exact ⟨tel_intO _ _ (by decide) (by decide) (by decide) (by decide) (by decide), tel_strN 12 (by decide) _ (by decide) (by decide) (by decide) (by decide) (by decide) (by decide) (by decide)⟩
    | 6, _ => exact ⟨tel_intO _ _ (by decide) (by decide) (by decide) (by decide) (by decide), tel_strN 12 (by decide) _ (by decide) (by decide) (by decide) (by decide) (by decide) (by decide) (by decide)⟩
    | 7, _ => exact ⟨tel_intO _ _ (by decide) (by decide) (by decide) (by decide) (by decide), tel_strN 12 (by decide) _ (by decide) (by decide) (by decide) (by decide) (by decide) (by decide) (by decide)⟩
    | 8, _ => exact ⟨tel_intO _ _ (by decide) (by decide) (by decide) (by decide) (by decide), tel_strN 12 (by decide) _ (by decide) (by decide) (by decide) (by decide) (by decide) (by decide) (by decide)⟩
    | 9, _ => exact ⟨tel_intO _ _ (by decide) (by decide) (by decide) (by decide) (by decide), tel_strN 12 (by decide) _ (by decide) (by decide) (by decide) (by decide) (by decide) (by decide) (by decide)⟩
    | k + 10, h => exact absurd h (by omega)
  have e1 : M.dv c = c.toNat - 48 := by rw [M.dv_dec (by omega) (by omega)]
  have e2 : c = UInt8.ofNat (48 + M.dv c) := by
    rw [e1, show 48 + (c.toNat - 48) = c.toNat by omega]; simp
  have := hd (M.dv c) hc
  rw [← e2] at this
  rwa [show tx ((60 + M.dv c : Nat) : Int) = bA (M.dg (60 + M.dv c)) by unfold tx; rw [M.txt_nat]] at this
theorem dg_short (n : Nat) (hn : n ≤ 1099511627776) : (M.dg n).length ≤ 13 := M.dg_len_le n 13 (by omega) (by omega)
theorem one_tx (n : Nat) : tx ((M.val 10 (49 :: M.dg n) : Nat) : Int) = bA (49 :: M.dg n) := by unfold tx; rw [M.one_dg]
theorem p_gap (n : Nat) (hn : n ≤ 1099511627776) : Par (bA (49 :: 95 :: M.dg n)) tInt (bA (49 :: M.dg n)) tStr (bA (49 :: 95 :: M.dg n)) := by
  have hl := dg_short n hn
  obtain ⟨h1, h2, h3, h4⟩ := M.gap_dg n
  have hw := M.word_no (l := 49 :: 95 :: M.dg n) ⟨49, _, rfl, by decide⟩
  have hb := (M.body_49 (95 :: M.dg n)).2
  have hs : (bA (49 :: 95 :: M.dg n)).size ≤ 990 := by rw [bA_size]; simp only [List.length_cons]; omega
  constructor
  · rw [← one_tx]
    exact tel_intO _ _ hs (by rw [bA_toList]; exact hw.1) (by rw [bA_toList]; exact hw.2 _) (by rw [bA_toList]; exact h1) (by rw [bA_toList]; exact h2)
  · exact tel_strN 12 (by decide) _ hs (by rw [bA_toList]; exact hw.1) (by rw [bA_toList]; exact hw.2 _) (by rw [bA_toList]; exact h3) (by rw [bA_toList]; exact (M.no_infs _ (by decide)).1) (by rw [bA_toList, hb]; exact (M.no_infs _ (by decide)).2) (by rw [bA_toList]; exact h4)
theorem out_one (n : Nat) : M.out 0 false (bA (M.dg 1)).data.toList (tx (n : Nat)).data.toList = 49 :: 46 :: 101 :: 43 :: M.dg n := by
  have hd : M.decB 0 false (M.dg 1) (M.txt (n : Nat)) = true := M.decB_fin false 1 _ (by decide)
  rw [bA_toList, tx_list, M.out_yes hd, M.prt_eq, M.dg_small (by decide)]
  have hp : M.pls (M.txt (n : Nat)) = [43] := by unfold M.pls; rw [M.txt_isNeg, decide_eq_false (by omega)]; rfl
  rw [hp, M.txt_nat]
  rfl
theorem p_e (n : Nat) (hn : n ≤ 1099511627776) : Par (bA (49 :: 101 :: M.dg n)) tStr (bA (49 :: 101 :: M.dg n)) tFloat (bA (49 :: 46 :: 101 :: 43 :: M.dg n)) := by
  have hl := dg_short n hn
  obtain ⟨h1, h2, h3, h4, h5⟩ := M.e_dg n
  have hw := M.word_no (l := 49 :: 101 :: M.dg n) ⟨49, _, rfl, by decide⟩
  have hb := (M.body_49 (101 :: M.dg n)).1
  have hs : (bA (49 :: 101 :: M.dg n)).size ≤ 800 := by rw [bA_size]; simp only [List.length_cons]; omega
  have ht : (tx (n : Nat)).size ≤ 13 := by rw [tx_size, M.txt_nat]; exact hl
  constructor
  · exact tel_strO _ (by omega) (by rw [bA_toList]; exact hw.1) (by rw [bA_toList]; exact hw.2 _) (by rw [bA_toList]; exact h1) (by rw [bA_toList]; exact h2) (by rw [bA_toList]; exact h3)
  · rw [← out_one n]
    refine tel_floN 12 (by decide) _ 0 false (bA (M.dg 1)) (tx (n : Nat)) (by omega) (by rw [bA_toList]; exact hw.1) (by rw [bA_toList]; exact hw.2 _) (by rw [bA_toList]; exact M.iv_none_of_four h4) (by rw [bA_size, M.dg_small (by decide)]; decide) (by omega) fun W hW => ?_
    refine nflo_yes _ W hW (by omega) [49] [] [49] (101 :: M.dg n) (n : Nat) (by rw [bA_toList]; exact h5) (by rw [bA_toList]; exact h4) 0 false true _ _ fun W' hT => ?_
    rw [bA_toList, hb]
    have := make_yes false (bA [49]) (bA []) (n : Nat) 1 0 W' hT (by decide) (by decide) (by omega) (by decide) (by decide) (by decide)
    rwa [show ((n : Nat) : Int) + (((0 : Nat) : Int) - ((bA [] : ByteArray).size : Int)) = ((n : Nat) : Int) by rw [show ((bA [] : ByteArray).size : Int) = 0 from rfl]; omega] at this
theorem p_pe (n : Nat) (hn : n ≤ 1099511627776) : Par (bA (49 :: 46 :: 48 :: 101 :: M.dg n)) tStr (bA (49 :: 46 :: 48 :: 101 :: M.dg n)) tFloat (bA (49 :: 46 :: 101 :: 43 :: M.dg n)) := by
  have hl := dg_short n hn
  obtain ⟨h1, h2, h3, h4, h5⟩ := M.pe_dg n
  have hw := M.word_no (l := 49 :: 46 :: 48 :: 101 :: M.dg n) ⟨49, _, rfl, by decide⟩
  have hb := (M.body_49 (46 :: 48 :: 101 :: M.dg n)).1
  have hs : (bA (49 :: 46 :: 48 :: 101 :: M.dg n)).size ≤ 800 := by rw [bA_size]; simp only [List.length_cons]; omega
  have ht : (tx (n : Nat)).size ≤ 13 := by rw [tx_size, M.txt_nat]; exact hl
  constructor
  · exact tel_strO _ (by omega) (by rw [bA_toList]; exact hw.1) (by rw [bA_toList]; exact hw.2 _) (by rw [bA_toList]; exact h1) (by rw [bA_toList]; exact h2) (by rw [bA_toList]; exact h3)
  · rw [← out_one n]
    refine tel_floN 12 (by decide) _ 0 false (bA (M.dg 1)) (tx (n : Nat)) (by omega) (by rw [bA_toList]; exact hw.1) (by rw [bA_toList]; exact hw.2 _) (by rw [bA_toList]; exact M.iv_none_of_four h4) (by rw [bA_size, M.dg_small (by decide)]; decide) (by omega) fun W hW => ?_
    refine nflo_yes _ W hW (by omega) [49] [48] [49, 46, 48] (101 :: M.dg n) (n : Nat) (by rw [bA_toList]; exact h5) (by rw [bA_toList]; exact h4) 0 false true _ _ fun W' hT => ?_
    rw [bA_toList, hb]
    have := make_yes false (bA [49]) (bA [48]) (n : Nat) 1 1 W' hT (by decide) (by decide) (by omega) (by decide) (by decide) (by decide)
    rwa [show ((n : Nat) : Int) + (((1 : Nat) : Int) - ((bA [48] : ByteArray).size : Int)) = ((n : Nat) : Int) by rw [show ((bA [48] : ByteArray).size : Int) = 1 from rfl]; omega] at this
theorem p_0x1 : Par ⟨#[45, 48, 120, 49]⟩ tInt ⟨#[45, 49]⟩ tStr ⟨#[45, 48, 120, 49]⟩ := by
  refine ⟨?_, tel_strN 12 (by decide) _ (by decide) (by decide) (by decide) (by decide) (by decide) (by decide) (by decide)⟩
  have := tel_intO ⟨#[45, 48, 120, 49]⟩ (-1) (by decide) (by decide) (by decide) (by decide) (by decide)
  rwa [tx_eq (X := ⟨#[45, 49]⟩) (by unfold M.txt; rw [if_pos (by decide), show (-1 : Int).natAbs = 1 from rfl, M.dg_small (by decide)]; rfl)] at this
theorem p_0b1 : Par ⟨#[48, 98, 49]⟩ tInt ⟨#[49]⟩ tStr ⟨#[48, 98, 49]⟩ := by
  refine ⟨?_, tel_strN 12 (by decide) _ (by decide) (by decide) (by decide) (by decide) (by decide) (by decide) (by decide)⟩
  have := tel_intO ⟨#[48, 98, 49]⟩ (1 : Nat) (by decide) (by decide) (by decide) (by decide) (by decide)
  rwa [tx_eq (X := ⟨#[49]⟩) (by rw [M.txt_nat, M.dg_small (by decide)]; rfl)] at this
theorem p_day : Par ⟨#[50, 48, 48, 49, 45, 49, 50, 45, 49, 52]⟩ tTime ⟨#[50, 48, 48, 49, 45, 49, 50, 45, 49, 52]⟩ tStr ⟨#[50, 48, 48, 49, 45, 49, 50, 45, 49, 52]⟩ :=
  ⟨tel_time ⟨#[50, 48, 48, 49, 45, 49, 50, 45, 49, 52]⟩ [50, 48, 48, 49, 45, 49, 50, 45, 49, 52] (by decide) (by decide) (by decide) (by decide) (by decide) (by decide),
    tel_strN 12 (by decide) _ (by decide) (by decide) (by decide) (by decide) (by decide) (by decide) (by decide)⟩
theorem p_off : Par ⟨#[111, 102, 102]⟩ tBool xFalse tStr ⟨#[111, 102, 102]⟩ := ⟨tel_bool 11 _ false (by decide) (by decide), tel_strN 12 (by decide) _ (by decide) (by decide) (by decide) (by decide) (by decide) (by decide) (by decide)⟩
theorem p_true : Par ⟨#[84, 82, 85, 69]⟩ tBool xTrue tBool xTrue := ⟨tel_bool 11 _ true (by decide) (by decide), tel_bool 12 _ true (by decide) (by decide)⟩
theorem p_one (n : Nat) (hn : n ≤ 1099511627776) : Par (bA (49 :: M.dg n)) tInt (bA (49 :: M.dg n)) tInt (bA (49 :: M.dg n)) := by
  have hl := dg_short n hn
  obtain ⟨h1, h2, h3⟩ := M.can_txt ((M.val 10 (49 :: M.dg n) : Nat) : Int)
  have hw := M.word_no (M.can_head ((M.val 10 (49 :: M.dg n) : Nat) : Int))
  have hs : (tx ((M.val 10 (49 :: M.dg n) : Nat) : Int)).size ≤ 990 := by rw [one_tx, bA_size]; simp only [List.length_cons]; omega
  rw [← one_tx]
  exact ⟨tel_intO _ _ hs (by rw [tx_list]; exact hw.1) (by rw [tx_list]; exact hw.2 _) (by rw [tx_list]; exact h1) (by rw [tx_list]; exact h2),
    tel_intN 12 (by decide) _ _ hs (by rw [tx_list]; exact hw.1) (by rw [tx_list]; exact hw.2 _) (by rw [tx_list]; exact h3)⟩
theorem p_pt (n : Nat) (hn : n ≤ 1099511627776) : ∃ P : ByteArray, Par (bA (48 :: 46 :: (M.dg n ++ [49]))) tFloat P tFloat P := by
  have hl := dg_short n hn
  have hF : M.allD 10 (M.dg n ++ [49]) = true := by rw [M.allD_append, M.dg_all]; decide
  obtain ⟨h1, h2, h3, h4, h5, h6⟩ := M.pt_dg _ hF
  have hw := M.word_no (l := 48 :: 46 :: (M.dg n ++ [49])) ⟨48, _, rfl, by decide⟩
  have hb := (M.body_48 (46 :: (M.dg n ++ [49]))).1
  have hs : (bA (48 :: 46 :: (M.dg n ++ [49]))).size ≤ 800 := by rw [bA_size]; simp only [List.length_cons, List.length_append, List.length_nil]; omega
  obtain ⟨D, E, hD, hM⟩ := make_good false (bA [48]) (bA (M.dg n ++ [49])) 0 (by decide) (by rw [bA_size]; simp only [List.length_cons, List.length_append, List.length_nil]; omega) (by rw [tx0]; decide)
    (by rw [bA_toList, bA_toList]; exact (M.okD_iff _ _).2 ⟨by simp, by rw [List.singleton_append, M.allD_cons, hF]; decide⟩)
  obtain ⟨H, Y, hS⟩ := M.shape h4
  refine ⟨bA (M.out 0 false D.data.toList E.data.toList), ?_, ?_⟩
  · refine tel_floO _ 0 false D E (by omega) (by rw [bA_toList]; exact hw.1) (by rw [bA_toList]; exact hw.2 _) (by rw [bA_toList]; exact h1) (by have := hD.2.1; omega) (by have := hD.2.2; omega) fun W hW => ?_
    exact fof_plain _ W hW (by omega) [48] _ H Y 0 (by rw [bA_toList]; exact hS) (by rw [bA_toList]; exact h2) (Or.inl (by rw [bA_toList]; exact h3)) 0 false true D E (by rw [bA_toList, hb]; exact hM)
  · refine tel_floN 12 (by decide) _ 0 false D E (by omega) (by rw [bA_toList]; exact hw.1) (by rw [bA_toList]; exact hw.2 _) (by rw [bA_toList]; exact M.iv_none_of_four h5) (by have := hD.2.1; omega) (by have := hD.2.2; omega) fun W hW => ?_
    exact nflo_yes _ W hW (by omega) [48] _ _ [] 0 (by rw [bA_toList]; exact h6) (by rw [bA_toList]; exact h5) 0 false true D E (by rw [bA_toList, hb]; exact hM)
end Go.Proofs.YtipgipgehnhgkaaGreatDoor
