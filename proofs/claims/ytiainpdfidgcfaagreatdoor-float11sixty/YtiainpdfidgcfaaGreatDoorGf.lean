/- The law Float11Sixty: its walk. -/
import Derived.Test.YtiainpdfidgcfaaGreatDoorGe
import Derived.Test.YtiainpdfidgcfaaGreatDoorFs
set_option linter.unusedVariables false
namespace Go.Proofs.YtiainpdfidgcfaaGreatDoor
open Go.RowKit
namespace M

theorem fS_on (R Q : List UInt8) : ∀ k, fS k (R ++ 58 :: Q) = if fS k R = 6 then fS 1 Q else 0 := by
  induction R with
  | nil =>
    intro k
    by_cases h1 : k = 1
    · simp [fS, h1, dv58]
    · simp [fS, h1, dv58]
  | cons c r ih =>
    intro k
    rw [List.cons_append, fS, fS]
    by_cases h1 : k = 1
    · rw [if_pos h1, if_pos h1]
      by_cases h6 : dv c < 6
      · rw [if_pos h6, if_pos h6, ih]
      · rw [if_neg h6, if_neg h6]
        by_cases h10 : dv c < 10
        · rw [if_pos h10, if_pos h10, ih]
        · rw [if_neg h10, if_neg h10, if_neg (by omega)]
    · rw [if_neg h1, if_neg h1]
      by_cases h2 : k = 2 ∧ dv c < 10
      · rw [if_pos h2, if_pos h2, ih]
      · rw [if_neg h2, if_neg h2]
        by_cases h3 : c = 58
        · rw [if_pos h3, if_pos h3, ih]
        · rw [if_neg h3, if_neg h3, if_neg (by omega)]
theorem fS_06 (R : List UInt8) : ∀ k, fS k R = 0 ∨ fS k R = 6 := by
  induction R with
  | nil => intro k; unfold fS; split; exact Or.inl rfl; exact Or.inr rfl
  | cons c r ih =>
    intro k
    unfold fS
    split
    · split
      · exact ih 2
      · split
        · exact ih 3
        · exact Or.inl rfl
    · split
      · exact ih 3
      · split
        · exact ih 1
        · exact Or.inl rfl
theorem fA_on (R Q : List UInt8) : fA (R ++ 58 :: Q) = if fA R = 0 then 0 else fS 1 Q := by
  induction R with
  | nil =>
    simp [fA, dv58]
  | cons c r ih =>
    rw [List.cons_append, fA, fA]
    by_cases h1 : c = 95 ∨ dv c < 10
    · rw [if_pos h1, if_pos h1, ih]
    · rw [if_neg h1, if_neg h1]
      by_cases h3 : c = 58
      · rw [if_pos h3, if_pos h3, fS_on]
        rcases fS_06 r 1 with h | h <;> rw [h] <;> simp
      · rw [if_neg h3, if_neg h3, if_pos rfl]
theorem sx_on (R Q : List UInt8) : ∀ n p, sx n p (R ++ 58 :: Q) = sx (sx n p R) 0 Q := by
  induction R with
  | nil => intro n p; simp [sx]
  | cons c r ih =>
    intro n p
    rw [List.cons_append, sx, sx]
    by_cases h : c = 58
    · rw [if_pos h, if_pos h, ih]
    · rw [if_neg h, if_neg h, ih]
theorem dg_two {p : Nat} (h : ¬ p < 10) (h2 : p < 100) : dg p = [UInt8.ofNat (48 + p / 10), UInt8.ofNat (48 + p % 10)] := by
  rw [dg_big h, dg_small (by omega)]; rfl
theorem pr_dg {p : Nat} (h : p < 60) : pr (dg p) = true := by
  by_cases h10 : p < 10
  · rw [dg_small h10, pr1, dv_dig p h10]; simpa using h10
  · rw [dg_two h10 (by omega), pr2, dv_dig _ (by omega), dv_dig _ (by omega)]; simp; omega
theorem dg_two_len {p : Nat} (h : p < 100) : (dg p).length ≤ 2 := dg_len_le p 2 (by omega) (by omega)
/-- U is f and i parts more, and says n. -/
def SJ (f n i : Nat) (U : List UInt8) : Prop :=
  n + 1 ≤ 65536 * 60 ^ i ∧ U.length ≤ 5 + 3 * i ∧ ((i = 0 ∧ U = dg f ∧ n = f) ∨ (0 < i ∧ ∃ R, U = dg f ++ 58 :: R ∧ fS 1 R = 6 ∧ sx f 0 R = n))
theorem SJ.start (f : Nat) (h2 : f < 65536) : SJ f f 0 (dg f) := ⟨by simp; omega, dg_len_le f 5 (by omega) (by omega), Or.inl ⟨rfl, rfl, rfl⟩⟩
theorem SJ.step {f n i p : Nat} {U : List UInt8} (h : SJ f n i U) (hp : p < 60) : SJ f (60 * n + p) (i + 1) (U ++ 58 :: dg p) := by
  obtain ⟨h1, h2, h3⟩ := h
  have hpr := pr_dg hp
  have h58 : ∀ c ∈ dg p, c ≠ 58 := fun c hc => ne58 ((allD_iff _ _).1 (dg_all p) c hc) (by omega)
  have hq : fS 1 (dg p) = 6 := by rw [fS_no _ h58, if_pos hpr]
  have hl := dg_len_le p 2 (by omega) (by omega)
  refine ⟨?_, by simp; omega, Or.inr ⟨by omega, ?_⟩⟩
  · rw [Nat.pow_succ]
    generalize (60 : Nat) ^ i = q at *
    omega
  · rcases h3 with ⟨_, rfl, rfl⟩ | ⟨_, R, rfl, hR, hn⟩
    · exact ⟨dg p, rfl, hq, by rw [sx_no _ _ h58, dg_val]; omega⟩
    · refine ⟨R ++ 58 :: dg p, by simp, by rw [fS_on, if_pos hR, hq], ?_⟩
      rw [sx_on, hn, sx_no _ _ h58, dg_val]; omega
theorem SJ.bound {f n i : Nat} {U : List UInt8} (h : SJ f n i U) (hi : i ≤ 6) : n ≤ 3057647616000000 := by
  have h1 := h.1
  have h2 : 60 ^ i ≤ 60 ^ 6 := Nat.pow_le_pow_right (by omega) hi
  have h3 : (60 : Nat) ^ 6 = 46656000000 := by decide
  omega
theorem SJ.no46 {f n i : Nat} {U : List UInt8} (h : SJ f n i U) : (46 : UInt8) ∉ U := by
  have hd : (46 : UInt8) ∉ dg f := fun k => ne46 ((allD_iff _ _).1 (dg_all f) 46 k) (by omega) rfl
  rcases h.2.2 with ⟨_, rfl, _⟩ | ⟨_, R, rfl, hR, _⟩
  · exact hd
  · intro k
    rcases List.mem_append.1 k with k | k
    · exact hd k
    · rcases List.mem_cons.1 k with k | k
      · exact absurd k (by decide)
      · rcases fS_chars R 1 (by omega) 46 k with k | k
        · rw [dv46] at k; omega
        · exact absurd k (by decide)
theorem dg_cons (f : Nat) : ∃ c D, dg f = c :: D ∧ dv c < 10 ∧ allD 10 D = true := by
  cases h : dg f with
  | nil => exact absurd h (dg_ne f)
  | cons c D =>
    have := dg_all f
    rw [h, allD_cons, Bool.and_eq_true, decide_eq_true_eq] at this
    exact ⟨c, D, rfl, this⟩
theorem flo_zero_dig {c : UInt8} {r : List UInt8} (hc : dv c < 10) (h : fl (c :: r) = 0) : flo (c :: r) = 0 := by
  have hb := (body_dig (r := r) hc).1
  by_cases h0 : flo (c :: r) = 0
  · exact h0
  · rcases flo_cases _ h0 with h1 | h1 | h1
    · simp only [nans, List.mem_cons, List.not_mem_nil, or_false] at h1
      rcases h1 with h1 | h1 | h1 <;> exact absurd (List.head_eq_of_cons_eq h1) (ne46 hc (by omega))
    · rw [hb] at h1
      simp only [infs, List.mem_cons, List.not_mem_nil, or_false] at h1
      rcases h1 with h1 | h1 | h1 <;> exact absurd (List.head_eq_of_cons_eq h1) (ne46 hc (by omega))
    · rw [hb, h] at h1; exact absurd rfl h1
theorem flo_no46 {l : List UInt8} (h : (46 : UInt8) ∉ l) : flo l = 0 := by
  by_cases h0 : flo l = 0
  · exact h0
  · have h1 := (flo_facts l h0).1
    have h2 : (46 : UInt8) ∈ body l := List.count_pos_iff.1 (by omega)
    have : (46 : UInt8) ∈ l := by
      cases l with
      | nil => exact absurd h2 (by decide)
      | cons c r =>
        rcases body_cases c r with e | e
        · rw [e] at h2; exact List.mem_cons_of_mem _ h2
        · rw [e] at h2; exact h2
    exact absurd this h
/-- What is put together of so many parts. -/
theorem SJ.told {f n i : Nat} {U F : List UInt8} (h : SJ f n i U) (hi : 0 < i) (hF : allD 10 F = true) :
    (Parts (U ++ 46 :: F) (dg n) F 0 ∧ flo (U ++ 46 :: F) = 3 ∧ body (U ++ 46 :: F) = U ++ 46 :: F ∧ isNeg (U ++ 46 :: F) = false) ∧ flo (U ++ 46 :: (F ++ [101, 43, 49])) = 0 ∧ flo (U ++ 58 :: 46 :: F) = 0 := by
  obtain ⟨_, _, h3⟩ := h
  rcases h3 with ⟨h0, _⟩ | ⟨_, R, rfl, hR, hn⟩
  · omega
  obtain ⟨c, D, hf, hc, hD⟩ := dg_cons f
  have dF : ∀ x ∈ F, du x = true := fun x hx => (du_iff x).2 (Or.inr ((allD_iff _ _).1 hF x hx))
  have dD : ∀ x ∈ D, du x = true := fun x hx => (du_iff x).2 (Or.inr ((allD_iff _ _).1 hD x hx))
  have gF : gone F = F := gone_no _ fun x hx => ne95 ((allD_iff _ _).1 hF x hx) (by omega)
  have gD : gone D = D := gone_no _ fun x hx => ne95 ((allD_iff _ _).1 hD x hx) (by omega)
  have hv : val 10 (c :: gone D) = f := by rw [gD, ← hf, dg_val]
  have hp := parts_six c D R F hc dD hR dF
  rw [hv, hn, gF] at hp
  have h46 : c ≠ 46 := ne46 hc (by omega)
  have hD58 : ∀ x ∈ D, x ≠ 58 := fun x hx => ne58 ((allD_iff _ _).1 hD x hx) (by omega)
  have hR46 : ∀ x ∈ R, x ≠ 46 := fun x hx => by
    rcases fS_chars R 1 (by omega) x hx with k | rfl
    · exact ne46 k (by omega)
    · decide
  have hP : ∀ (Q : List UInt8), (∀ x ∈ Q, x ≠ 46) → ∀ x ∈ D ++ 58 :: (R ++ Q), x ≠ 46 := by
    intro Q hQ x hx
    rcases List.mem_append.1 hx with hx | hx
    · exact du_46 dD x hx
    · rcases List.mem_cons.1 hx with rfl | hx
      · decide
      · rcases List.mem_append.1 hx with hx | hx
        · exact hR46 x hx
        · exact hQ x hx
  have e0 : dg f ++ 58 :: R ++ 46 :: F = c :: (D ++ 58 :: R) ++ 46 :: F := by rw [hf]; rfl
  have hb := body_dig (r := D ++ 58 :: R ++ 46 :: F) hc
  have hfl : fl (c :: (D ++ 58 :: R) ++ 46 :: F) = 3 := by
    have e := fr_app F [] dF (Or.inl rfl)
    rw [List.append_nil] at e
    have h6 : fA (D ++ 58 :: R) = 6 := by rw [fA_yes D R hD58, if_pos (gone_du dD), hR]
    have hPP := hP [] (fun _ k => by cases k)
    rw [List.append_nil] at hPP
    rw [fl_yes c _ F h46 hPP, if_pos hc, if_neg (by omega), if_pos h6, if_pos e.2]
  refine ⟨⟨by rw [e0]; exact hp, ?_, by rw [e0]; exact hb.1, by rw [e0]; exact hb.2⟩, ?_, ?_⟩
  · rw [e0, flo_of_fl (by rw [show M.body (c :: (D ++ 58 :: R) ++ 46 :: F) = _ from hb.1]; rw [show c :: (D ++ 58 :: R ++ 46 :: F) = c :: (D ++ 58 :: R) ++ 46 :: F from rfl, hfl]; omega), show M.body (c :: (D ++ 58 :: R) ++ 46 :: F) = c :: (D ++ 58 :: R) ++ 46 :: F from hb.1, hfl]
  · rw [show dg f ++ 58 :: R ++ 46 :: (F ++ [101, 43, 49]) = c :: (D ++ 58 :: R ++ 46 :: (F ++ [101, 43, 49])) by rw [hf]; rfl]
    refine flo_zero_dig hc ?_
    have h6 : fA (D ++ 58 :: R) = 6 := by rw [fA_yes D R hD58, if_pos (gone_du dD), hR]
    have hPP := hP [] (fun _ k => by cases k)
    rw [List.append_nil] at hPP
    rw [show c :: (D ++ 58 :: R ++ 46 :: (F ++ [101, 43, 49])) = c :: (D ++ 58 :: R) ++ 46 :: (F ++ [101, 43, 49]) from rfl, fl_yes c _ _ h46 hPP, if_pos hc, if_neg (by omega), if_pos h6, (fr_app F _ dF (Or.inr ⟨101, _, rfl, Or.inl rfl⟩)).2, if_neg (by simp)]
  · rw [show dg f ++ 58 :: R ++ 58 :: 46 :: F = c :: (D ++ 58 :: (R ++ 58 :: []) ++ 46 :: F) by rw [hf]; simp]
    refine flo_zero_dig hc ?_
    have h0 : fA (D ++ 58 :: (R ++ 58 :: [])) = 0 := by rw [fA_yes D _ hD58, if_pos (gone_du dD), fS_on, if_pos hR]; rfl
    rw [show c :: (D ++ 58 :: (R ++ 58 :: []) ++ 46 :: F) = c :: (D ++ 58 :: (R ++ 58 :: [])) ++ 46 :: F from rfl, fl_yes c _ _ h46 (hP [58] (fun x hx => by rw [List.mem_singleton.1 hx]; decide)), if_pos hc, if_neg (by omega), if_neg (by omega)]
end M
set_option maxRecDepth 100000 in
set_option maxHeartbeats 1000000 in
theorem text_wide (N : Nat) (w : World) (hN : N ≤ 3057647616000000) :
    Calls Tryz.prog 16 #[.int .i64 N] w fun e w' => e = .returned (.string (bA (M.dg N))) ∧ Below w.heap.size w w' := by
  have hlen : (M.dg N).length ≤ 16 := M.dg_len_le N 16 (by omega) (by omega)
  obtain ⟨L, hL⟩ : ∃ L, M.dg N = L := ⟨_, rfl⟩
  rw [hL] at hlen ⊢
  have HL := Lib.hid hL
  clear hL
  go_enter Tryz.func16, Tryz.ntmps16
  go_wp2
  go_loopw [0, 3] (fun nv sv wr => ∃ (n : Nat) (h : List UInt8) (H : ByteArray), nv = .int .i64 n ∧ sv = .string H ∧ n ≤ 3057647616000000 ∧ H.size ≤ 16 ∧ Hid (H = bA h) ∧ Hid (M.dg n ++ h = L) ∧ Below w.heap.size w wr) (fun nv _ _ => (intOf nv).toNat)
  case atStart => exact ⟨N, [], ⟨#[]⟩, rfl, rfl, hN, by decide, rfl, by show _ = _; rw [List.append_nil]; exact HL.out, Below.refl _ _⟩
  case round =>
    obtain ⟨n, h, H, rfl, rfl, hn, hH, HH, hst, hbw⟩ := hrel
    have hsz := hbw.size
    have k3 := fun W => one_conv W (48 + (n : Int) % 10) (dg1 n) (dig_cast n)
    have hXs : (bA [dg1 n]).size = 1 := bA_size _
    have hXH : bA [dg1 n] ++ H = bA (dg1 n :: h) := by rw [HH.out]; exact bA_append [dg1 n] h
    have HXH := Lib.hid hXH
    have hXz := Lib.hid (append_sz (bA [dg1 n]) H)
    have hHs : H.size = h.length := by rw [HH.out, bA_size]
    have hhl : h.length + 1 ≤ 16 := by
      have := congrArg List.length hst.out
      rw [List.length_append] at this
      have := M.dg_len_pos n
      omega
    clear hXH
    generalize bA [dg1 n] = X at *
    by_cases hn10 : n < 10
    · have e0 : (n : Int) / 10 = 0 := by omega
      have hfin : dg1 n :: h = L := by rw [← hst.out, M.dg_small hn10]; unfold dg1; rw [Nat.mod_eq_of_lt hn10]; rfl
      rw [hfin] at HXH
      clear hst hfin
      go_wp2
      go_ret
      exact ⟨ret_str HXH.out, hbw.alloc hsz _⟩
    · have e0 : ¬ (n : Int) / 10 = 0 := by omega
      have hdd : ((n : Int) / 10 == 0) = false := by simp; omega
      have hfin : M.dg (n / 10) ++ dg1 n :: h = L := by rw [← hst.out, M.dg_big hn10, List.append_assoc]; rfl
      have HF := Lib.hid hfin
      clear hst hfin e0
      go_wp2
      go_roundw
      case rel => exact ⟨n / 10, dg1 n :: h, X ++ H, by rw [cast_div10], rfl, by omega, by rw [hXz.out]; omega, HXH.out, HF.out, hbw.alloc hsz _⟩
      case measure => simp [intOf]; omega
set_option maxRecDepth 100000 in
set_option maxHeartbeats 1000000 in
theorem sixty_none (f : Nat) (a : Option Addr) (cap : Nat) (l : List UInt8) (s : ByteArray) (neg : Bool) (w : World) (he : Env w) (hs : s.size ≤ maxLen) (h : l.length < 1 ∨ 6 < l.length ∨ 30 < s.size) :
    Calls Tryz.prog 5 #[.int .u16 f, .slice a l.length cap, .string s, .bool neg] w fun e w' => e = .returned (.bool true) ∧ Below w.heap.size w w' := by
  unfold maxLen at hs
  by_cases a1 : l.length < 1
  · have d1 : decide (l.length < 1) = true := decide_eq_true a1
    have d4 : decide ((l.length : Int) < 1) = true := decide_eq_true (by omega)
    clear h
    go_enter Tryz.func5, Tryz.ntmps5
    go_wp2_with fail
    refine (known_any _ he).mono ?_
    rintro r w1 ⟨rfl, hb1⟩
    go_wp2
    go_ret
    exact ⟨rfl, hb1⟩
  · have d1 : decide (l.length < 1) = false := decide_eq_false a1
    have d4 : decide ((l.length : Int) < 1) = false := decide_eq_false (by omega)
    by_cases a2 : 6 < l.length
    · have d2 : decide (6 < l.length) = true := decide_eq_true a2
      have d5 : decide ((6 : Int) < (l.length : Int)) = true := decide_eq_true (by omega)
      clear h
      go_enter Tryz.func5, Tryz.ntmps5
      go_wp2_with fail
      refine (known_any _ he).mono ?_
      rintro r w1 ⟨rfl, hb1⟩
      go_wp2
      go_ret
      exact ⟨rfl, hb1⟩
    · have d2 : decide (6 < l.length) = false := decide_eq_false a2
      have d5 : decide ((6 : Int) < (l.length : Int)) = false := decide_eq_false (by omega)
      have d3 : decide (30 < s.size) = true := decide_eq_true (by omega)
      have d6 : decide ((30 : Int) < (s.size : Int)) = true := decide_eq_true (by omega)
      clear h
      go_enter Tryz.func5, Tryz.ntmps5
      go_wp2_with fail
      refine (known_any _ he).mono ?_
      rintro r w1 ⟨rfl, hb1⟩
      go_wp2
      go_ret
      exact ⟨rfl, hb1⟩
end Go.Proofs.YtiainpdfidgcfaaGreatDoor
