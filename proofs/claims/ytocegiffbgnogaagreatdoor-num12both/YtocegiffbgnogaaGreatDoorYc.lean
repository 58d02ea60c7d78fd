/- Walk of the document's sixty. Walks of the document's sixty, whole; Int11. -/
import Derived.Test.YtocegiffbgnogaaGreatDoorYa
set_option linter.unusedVariables false
namespace Go.Proofs.YtocegiffbgnogaaGreatDoor
open Go.RowKit

/-- What is said, a being read so far, with l behind it (nothing, or a colon and more). -/
def G (a : Nat) : List UInt8 → Option Nat
  | [] => some a
  | _ :: R => if M.fS 1 R = 6 then some (M.sx a 0 R) else none
def ansV : Option Nat → Value
  | some n => .tuple #[.string (tx (n : Int)), .bool true]
  | none => .tuple #[.string ⟨#[]⟩, .bool false]
theorem G_no (a : Nat) (P : List UInt8) (h : ∀ c ∈ P, c ≠ 58) : G a (58 :: P) = if M.pr P = true then G (a * 60 + M.val 10 P) [] else none := by
  show (if M.fS 1 P = 6 then some (M.sx a 0 P) else none) = _
  rw [M.fS_no P h, M.sx_no a P h]
  by_cases hp : M.pr P = true
  · rw [if_pos hp, if_pos hp, if_pos rfl]; rfl
  · rw [if_neg hp, if_neg hp, if_neg (by omega)]
theorem G_yes (a : Nat) (P r : List UInt8) (h : ∀ c ∈ P, c ≠ 58) : G a (58 :: (P ++ 58 :: r)) = if M.pr P = true then G (a * 60 + M.val 10 P) (58 :: r) else none := by
  show (if M.fS 1 (P ++ 58 :: r) = 6 then some (M.sx a 0 (P ++ 58 :: r)) else none) = _
  rw [M.fS_yes P r h, M.sx_yes a P r h]
  by_cases hp : M.pr P = true
  · rw [if_pos hp, if_pos hp]; rfl
  · rw [if_neg hp, if_neg hp, if_neg (by omega)]
/-- The tests of a part, one by one. -/
theorem pr_tests (B : ByteArray) : (M.pr B.data.toList = true ∧ M.okD 10 B.data.toList = true ∧ (B.size = 1 ∨ ∃ h : B.size = 2, B[0].toNat ≤ 53)) ∨ (M.pr B.data.toList = false ∧ (M.okD 10 B.data.toList = false ∨ (M.okD 10 B.data.toList = true ∧ (2 < B.size ∨ ∃ h : B.size = 2, 53 < B[0].toNat)))) := by
  by_cases hok : M.okD 10 B.data.toList = true
  · obtain ⟨hne, hal⟩ := (M.okD_iff _ _).1 hok
    have hs := sz_list B
    match hB : B.data.toList, hne with
    | [a], _ =>
      rw [hB] at hs hal
      have h1 : M.dv a < 10 := (M.allD_iff _ _).1 hal a (by simp)
      left
      exact ⟨by rw [M.pr1]; exact decide_eq_true h1, by rw [← hB]; exact hok, Or.inl hs⟩
    | [a, b], _ =>
      rw [hB] at hs hal
      have h1 : M.dv a < 10 := (M.allD_iff _ _).1 hal a (by simp)
      have h2 : M.dv b < 10 := (M.allD_iff _ _).1 hal b (by simp)
      have hs2 : B.size = 2 := hs
      have h0 : B[0] = a := by
        have := get_list B 0 (by omega)
        rw [hB] at this; simpa using this.symm
      obtain ⟨g1, g2, g3⟩ := M.dv_lt10 h1
      by_cases h6 : M.dv a < 6
      · left
        exact ⟨by rw [M.pr2, decide_eq_true h6, decide_eq_true h2]; rfl, by rw [← hB]; exact hok, Or.inr ⟨hs2, by rw [h0]; omega⟩⟩
      · right
        exact ⟨by rw [M.pr2, decide_eq_false h6]; rfl, Or.inr ⟨by rw [← hB]; exact hok, Or.inr ⟨hs2, by rw [h0]; omega⟩⟩⟩
    | a :: b :: c :: q, _ =>
      rw [hB] at hs
      right
      exact ⟨rfl, Or.inr ⟨by rw [← hB]; exact hok, Or.inl (by rw [hs]; simp)⟩⟩
  · right
    have hf : M.okD 10 B.data.toList = false := by simpa using hok
    refine ⟨?_, Or.inl hf⟩
    by_cases hp : M.pr B.data.toList = true
    · exact absurd (M.pr_facts hp).1 hok
    · simpa using hp
theorem grow_1000 {a k k' v : Nat} (h : a < 1000 ^ k) (hv : v < 1000) (hk : k + 1 ≤ k') : a * 60 + v < 1000 ^ k' := by
  refine Nat.lt_of_lt_of_le (m := 1000 ^ (k + 1)) ?_ (Nat.pow_le_pow_right (by omega) hk)
  rw [Nat.pow_succ]
  have h1 : 0 < 1000 ^ k := Nat.pow_pos (by omega)
  generalize 1000 ^ k = q at *
  omega
theorem room_1000 {a k : Nat} (h : a < 1000 ^ k) (hk : k ≤ 1000) : (tx (a : Int)).size ≤ 6000 := by
  have h1 : a < 10 ^ (3 * k + 1) := by
    refine Nat.lt_of_lt_of_le h ?_
    rw [Nat.pow_succ, Nat.pow_mul]
    exact Nat.le_mul_of_pos_right _ (by omega)
  have := tx_len (a : Int) (3 * k + 1) (by omega) h1
  omega
theorem ext_all (B : ByteArray) {n : Nat} (h : B.size = n) : B.extract 0 n = B := by
  subst h
  refine (eq_bA (l := B.data.toList) ?_).trans (bA_of B)
  rw [ByteArray.data_extract, Array.toList_extract, List.extract_eq_take_drop, List.drop_zero]
  simpa using take_all B
/-- What holds ahead of each round of sixty. -/
def XRel (s : ByteArray) (W : Option Nat) (w : World) (k a : Nat) (wr : World) : Prop :=
  (k ≤ s.size ∧ (s.data.toList.drop k = [] ∨ ∃ R, s.data.toList.drop k = 58 :: R)) ∧ a < 1000 ^ k ∧ G a (s.data.toList.drop k) = W ∧ Below w.heap.size w wr
set_option maxRecDepth 100000 in
set_option maxHeartbeats 8000000 in
theorem rsixty_loop (s : ByteArray) (D R0 : List UInt8) (w : World) (hs : s.size ≤ 1000) (h0 : 0 < s.size) (he : s.data.toList = D ++ 58 :: R0) (hD : ∀ c ∈ D, c ≠ 58) (hD0 : 0 < D.length) (hd0 : M.dv s[0] < 10) (hal : M.allD 10 (M.gone D) = true) (hne : M.gone D ≠ []) :
    Calls Tryz.prog 17 #[.string s] w fun e w' => e = .returned (ansV (G (M.val 10 (M.gone D)) (58 :: R0))) ∧ Below w.heap.size w w' := by
  have c1 := fun W => rfind_yes s D R0 W hs he hD
  have c2 := fun W => isDigit_any s[0] W
  rw [decide_eq_true hd0] at c2
  have hDs : D.length < s.size := by rw [sz_list, he]; simp
  have hx : s.extract 0 D.length = bA D := by
    apply eq_bA
    rw [ByteArray.data_extract, Array.toList_extract, List.extract_eq_take_drop, List.drop_zero, he]
    simp
  have hgl := M.gone_len D
  have c3 := fun W => rbare_any (bA D) 10 W (by rw [bA_size]; omega) (by omega)
  rw [bA_toList] at c3
  unfold bareV at c3
  rw [if_pos hal, show (!(M.gone D).isEmpty) = true by cases hh : M.gone D with | nil => exact absurd hh hne | cons c q => rfl] at c3
  have c4 := fun W => rnorm_list false (M.gone D) W ((M.okD_iff _ _).2 ⟨hne, hal⟩) (by omega)
  rw [show M.sgn false (M.val 10 (M.gone D)) = ((M.val 10 (M.gone D) : Nat) : Int) from rfl] at c4
  have ha0 : M.val 10 (M.gone D) < 1000 ^ D.length := Nat.lt_of_lt_of_le (M.val_lt 10 _ hal) (M.pow_le (by omega) hgl (by omega))
  have hdr : s.data.toList.drop D.length = 58 :: R0 := by rw [he]; simp
  obtain ⟨W, hW⟩ : ∃ W, G (M.val 10 (M.gone D)) (58 :: R0) = W := ⟨_, rfl⟩
  have hX : XRel s W w D.length (M.val 10 (M.gone D)) w := ⟨⟨by omega, Or.inr ⟨R0, hdr⟩⟩, ha0, by rw [hdr]; exact hW, Below.refl _ _⟩
  rw [hW]
  have HX := Lib.hid hX
  have h256 := s[0].toNat_lt
  clear hX hW hdr ha0 hgl hal hne hd0 he hD
  generalize M.val 10 (M.gone D) = a0 at *
  generalize bA (M.gone D) = BG at *
  generalize hBD : bA D = BD at *
  generalize hkk : D.length = k0 at *
  clear hBD hkk D R0
  have hk1 : decide ((k0 : Int) < 1) = false := by simp; omega
  go_enter Tryz.func17, Tryz.ntmps17
  go_wp2_with fail
  refine (c1 _).mono ?_
  rintro r w' ⟨rfl, rfl⟩
  go_wp2_with fail
  refine (c2 _).mono ?_
  rintro r w' ⟨rfl, rfl⟩
  go_wp2_with fail
  refine (c3 _).mono ?_
  rintro r w1 ⟨rfl, hb1⟩
  go_wp2_with fail
  refine (c4 _).mono ?_
  rintro r w' ⟨rfl, rfl⟩
  clear c1 c2 c3 c4 hx
  go_wp2_with fail
  go_loopw [4, 7] (fun kv nv wr => ∃ k a : Nat, kv = .int .i64 k ∧ nv = .string (tx (a : Int)) ∧ XRel s W w k a wr) (fun kv _ _ => s.size - (intOf kv).toNat)
  case atStart => exact ⟨k0, a0, rfl, rfl, HX.out.1, HX.out.2.1, HX.out.2.2.1, hb1⟩
  case round =>
    obtain ⟨k, a, rfl, rfl, ⟨hks, hdrop⟩, hak, hGW, hbw⟩ := hrel
    have hroom := room_1000 hak (by omega)
    rcases hdrop with hdrop | ⟨R, hdrop⟩
    · have hke : k = s.size := by
        have := congrArg List.length hdrop
        rw [List.length_drop, ← sz_list] at this; simp at this; omega
      subst hke
      rw [hdrop] at hGW
      have hGW2 : some a = W := hGW
      subst hGW2
      have hltd : decide (s.size < s.size) = false := by simp
      clear hGW hdrop hak hroom HX
      go_wp2
      go_ret2
      exact ⟨rfl, hbw⟩
    · have hlen := congrArg List.length hdrop
      rw [List.length_drop, ← sz_list, List.length_cons] at hlen
      have hlt : k < s.size := by omega
      have hltd : decide (k < s.size) = true := by simpa using hlt
      have hx : s.extract (k + 1) s.size = bA R := by
        apply eq_bA
        rw [Lib.extract_to_end, ← List.tail_drop, hdrop]; rfl
      have hRl : R.length + k + 1 = s.size := by omega
      have hRs : (bA R).size = R.length := bA_size R
      rw [hdrop] at hGW
      rcases M.split_at 58 R with hn | ⟨P, r, hPr, hP⟩
      · have cF := fun W => rfind_no (bA R) W (by omega) (by rw [bA_toList]; exact hn)
        rw [G_no a R hn] at hGW
        have hK : k + 1 + R.length ≤ s.size ∧ (s.data.toList.drop (k + 1 + R.length) = [] ∨ ∃ Q, s.data.toList.drop (k + 1 + R.length) = 58 :: Q) := ⟨by omega, Or.inl (List.drop_of_length_le (by rw [← sz_list]; omega))⟩
        have hG2 : s.data.toList.drop (k + 1 + R.length) = [] := List.drop_of_length_le (by rw [← sz_list]; omega)
        rw [← hG2] at hGW
        clear hG2 hlen hdrop hn
        have HAK := Lib.hid hak
        have HK := Lib.hid hK
        clear hak hK HX
        obtain ⟨BP, hBP⟩ : ∃ BP, bA R = BP := ⟨_, rfl⟩
        have hPl : R = BP.data.toList := by rw [← hBP, bA_toList]
        rw [hBP] at hx cF hRs
        obtain ⟨n, hnn⟩ : ∃ n, R.length = n := ⟨_, rfl⟩
        rw [hnn] at hGW HK hRs hRl
        rw [hPl] at hGW
        clear hBP hPl hnn
        have hx2 : BP.extract 0 n = BP := ext_all BP hRs
        have cD := fun W => rdigits_any BP W (by omega)
        rcases pr_tests BP with ⟨hp, hok, hsize⟩ | ⟨hp, hbad⟩
        · rw [if_pos hp] at hGW
          rw [hok] at cD
          have HAP := Lib.hid ((M.okD_iff _ _).1 hok).2
          have hv60 := (M.pr_facts hp).2.2.2.1
          obtain ⟨vP, hvv⟩ : ∃ vP, M.val 10 BP.data.toList = vP := ⟨_, rfl⟩
          rw [hvv] at hGW hv60
          have HVP := Lib.hid hvv
          have HA2 := Lib.hid (grow_1000 (k' := k + 1 + n) HAK.out (show vP < 1000 by omega) (by omega))
          have HG2 := Lib.hid hGW
          have cM := fun W => rmul_yes a 60 vP W hroom (by omega) (by omega)
          clear hvv hGW hp hok hroom
          generalize tx (a : Int) = A at *
          rcases hsize with hP1 | ⟨hP2, h53⟩
          · clear HAK
            have hsz : BP.size = 1 := hP1
            go_wp2_with fail
            refine (cF _).mono ?_
            rintro r w' ⟨rfl, rfl⟩
            go_wp2_with fail
            refine (cD _).mono ?_
            rintro r w' ⟨rfl, rfl⟩
            go_wp2
            go_loop [10, 11] (fun vv iv => ∃ i v : Nat, iv = .int .i64 i ∧ vv = .int .i64 v ∧ i ≤ BP.size ∧ v < 1000 ∧ Hid (M.val 10 (BP.data.toList.take i) = v)) (fun _ iv => BP.size - (intOf iv).toNat)
            case atStart => exact ⟨0, 0, rfl, rfl, Nat.zero_le _, by omega, rfl⟩
            case round =>
              obtain ⟨i, v, rfl, rfl, hi, hv, hst⟩ := hrel
              by_cases hlt : i < BP.size
              · have hltd : decide (i < BP.size) = true := by simpa using hlt
                have hdv : M.dv BP[i] < 10 := (M.allD_iff _ _).1 HAP.out _ (List.mem_of_getElem? (get_list BP i hlt))
                obtain ⟨g1, g2, g3⟩ := M.dv_lt10 hdv
                have hvs := M.val_snoc 10 (BP.data.toList.take i) BP[i]
                rw [← take_snoc BP i hlt, hst.out, g3] at hvs
                have hal : M.allD 10 (BP.data.toList.take (i + 1)) = true := by
                  rw [M.allD_iff]; intro c hc; exact (M.allD_iff _ _).1 HAP.out c (List.mem_of_mem_take hc)
                have hvl := M.val_lt 10 _ hal
                have hle : (BP.data.toList.take (i + 1)).length ≤ 2 := by rw [List.length_take]; omega
                have hvl2 : M.val 10 (BP.data.toList.take (i + 1)) < 100 := Nat.lt_of_lt_of_le hvl (Nat.pow_le_pow_right (by omega) hle)
                rw [hvs] at hvl2
                have HS := Lib.hid hvs
                clear hvs hvl hdv g3 hst hal hle cF cD cM
                obtain ⟨m, hm⟩ : ∃ m, BP[i].toNat = 48 + m := ⟨BP[i].toNat - 48, by omega⟩
                rw [hm, Nat.add_sub_cancel_left] at hvl2 HS
                rw [hm] at g1 g2
                go_wp2
                go_round
                case rel => exact ⟨i + 1, v * 10 + m, by go_num, by go_num, by omega, by omega, HS.out⟩
                case measure => simp [intOf]; omega
              · obtain rfl : i = BP.size := by omega
                have hltd : decide (BP.size < BP.size) = false := by simp
                have h1 := hst.out
                rw [take_all, HVP.out] at h1
                subst h1
                clear hst cF cD
                go_wp2_with fail
                refine (cM _).mono ?_
                rintro r w4 ⟨rfl, hb4⟩
                clear cM
                go_wp2
                go_roundw
                case rel => exact ⟨k + 1 + n, a * 60 + vP, by go_num, rfl, HK.out, HA2.out, HG2.out, hbw.trans (hb4.mono hbw.size)⟩
                case measure => have := HK.out; simp [intOf]; omega
          · have hq : decide ((53 : Int) < (BP[0].toNat : Int)) = false := by simp; omega
            clear HAK
            have hsz : BP.size = 2 := hP2
            go_wp2_with fail
            refine (cF _).mono ?_
            rintro r w' ⟨rfl, rfl⟩
            go_wp2_with fail
            refine (cD _).mono ?_
            rintro r w' ⟨rfl, rfl⟩
            go_wp2
            go_loop [10, 11] (fun vv iv => ∃ i v : Nat, iv = .int .i64 i ∧ vv = .int .i64 v ∧ i ≤ BP.size ∧ v < 1000 ∧ Hid (M.val 10 (BP.data.toList.take i) = v)) (fun _ iv => BP.size - (intOf iv).toNat)
            case atStart => exact ⟨0, 0, rfl, rfl, Nat.zero_le _, by omega, rfl⟩
            case round =>
              obtain ⟨i, v, rfl, rfl, hi, hv, hst⟩ := hrel
              by_cases hlt : i < BP.size
              · have hltd : decide (i < BP.size) = true := by simpa using hlt
                have hdv : M.dv BP[i] < 10 := (M.allD_iff _ _).1 HAP.out _ (List.mem_of_getElem? (get_list BP i hlt))
                obtain ⟨g1, g2, g3⟩ := M.dv_lt10 hdv
                have hvs := M.val_snoc 10 (BP.data.toList.take i) BP[i]
                rw [← take_snoc BP i hlt, hst.out, g3] at hvs
                have hal : M.allD 10 (BP.data.toList.take (i + 1)) = true := by
                  rw [M.allD_iff]; intro c hc; exact (M.allD_iff _ _).1 HAP.out c (List.mem_of_mem_take hc)
                have hvl := M.val_lt 10 _ hal
                have hle : (BP.data.toList.take (i + 1)).length ≤ 2 := by rw [List.length_take]; omega
                have hvl2 : M.val 10 (BP.data.toList.take (i + 1)) < 100 := Nat.lt_of_lt_of_le hvl (Nat.pow_le_pow_right (by omega) hle)
                rw [hvs] at hvl2
                have HS := Lib.hid hvs
                clear hvs hvl hdv g3 hst hal hle cF cD cM
                obtain ⟨m, hm⟩ : ∃ m, BP[i].toNat = 48 + m := ⟨BP[i].toNat - 48, by omega⟩
                rw [hm, Nat.add_sub_cancel_left] at hvl2 HS
                rw [hm] at g1 g2
                go_wp2
                go_round
                case rel => exact ⟨i + 1, v * 10 + m, by go_num, by go_num, by omega, by omega, HS.out⟩
                case measure => simp [intOf]; omega
              · obtain rfl : i = BP.size := by omega
                have hltd : decide (BP.size < BP.size) = false := by simp
                have h1 := hst.out
                rw [take_all, HVP.out] at h1
                subst h1
                clear hst cF cD
                go_wp2_with fail
                refine (cM _).mono ?_
                rintro r w4 ⟨rfl, hb4⟩
                clear cM
                go_wp2
                go_roundw
                case rel => exact ⟨k + 1 + n, a * 60 + vP, by go_num, rfl, HK.out, HA2.out, HG2.out, hbw.trans (hb4.mono hbw.size)⟩
                case measure => have := HK.out; simp [intOf]; omega
        · rw [hp] at hGW
          rw [if_neg (by simp)] at hGW
          have HW := hGW.symm
          clear hGW hroom HAK HK
          generalize tx (a : Int) = A at *
          rcases hbad with hok | ⟨hok, hP3 | ⟨hP2, h53⟩⟩
          · rw [hok] at cD
            clear hok hp
            subst HW
            go_wp2_with fail
            refine (cF _).mono ?_
            rintro r w' ⟨rfl, rfl⟩
            go_wp2_with fail
            refine (cD _).mono ?_
            rintro r w' ⟨rfl, rfl⟩
            go_wp2
            go_ret2
            exact ⟨rfl, hbw⟩
          · rw [hok] at cD
            clear hok hp
            have hlen : decide ((2 : Int) < (BP.size : Int)) = true := by simp; omega
            subst HW
            go_wp2_with fail
            refine (cF _).mono ?_
            rintro r w' ⟨rfl, rfl⟩
            go_wp2_with fail
            refine (cD _).mono ?_
            rintro r w' ⟨rfl, rfl⟩
            go_wp2
            go_ret2
            exact ⟨rfl, hbw⟩
          · rw [hok] at cD
            have hq : decide ((53 : Int) < (BP[0].toNat : Int)) = true := by simp; omega
            clear hok hp
            have hsz : BP.size = 2 := hP2
            subst HW
            go_wp2_with fail
            refine (cF _).mono ?_
            rintro r w' ⟨rfl, rfl⟩
            go_wp2_with fail
            refine (cD _).mono ?_
            rintro r w' ⟨rfl, rfl⟩
            go_wp2
            go_ret2
            exact ⟨rfl, hbw⟩
      · subst hPr
        have hRs3 : (P ++ 58 :: r).length = P.length + 1 + r.length := by simp; omega
        rw [hRs3] at hRs hRl
        have cF := fun W => rfind_yes (bA (P ++ 58 :: r)) P r W (by omega) (bA_toList _) hP
        rw [G_yes a P r hP] at hGW
        have hG2 : s.data.toList.drop (k + 1 + P.length) = 58 :: r := by
          rw [show k + 1 + P.length = k + (1 + P.length) by omega, ← List.drop_drop, hdrop, Nat.add_comm 1, List.drop_succ_cons]
          simp
        have hK : k + 1 + P.length ≤ s.size ∧ (s.data.toList.drop (k + 1 + P.length) = [] ∨ ∃ Q, s.data.toList.drop (k + 1 + P.length) = 58 :: Q) := ⟨by omega, Or.inr ⟨r, hG2⟩⟩
        rw [← hG2] at hGW
        have hx2 : (bA (P ++ 58 :: r)).extract 0 P.length = bA P := by
          apply eq_bA
          rw [ByteArray.data_extract, Array.toList_extract, List.extract_eq_take_drop, List.drop_zero, bA_toList]
          simp
        have hPs : (bA P).size = P.length := bA_size P
        have hPle : P.length ≤ (bA (P ++ 58 :: r)).size := by omega
        generalize bA (P ++ 58 :: r) = BR at *
        clear hG2 hlen hdrop hP hRs3
        have HAK := Lib.hid hak
        have HK := Lib.hid hK
        clear hak hK HX
        obtain ⟨BP, hBP⟩ : ∃ BP, bA P = BP := ⟨_, rfl⟩
        have hPl : P = BP.data.toList := by rw [← hBP, bA_toList]
        rw [hBP] at hx2 hPs
        obtain ⟨n, hnn⟩ : ∃ n, P.length = n := ⟨_, rfl⟩
        rw [hnn] at hGW HK hPs hPle cF hx2 hRs hRl
        rw [hPl] at hGW
        clear hBP hPl hnn

        have cD := fun W => rdigits_any BP W (by omega)
        rcases pr_tests BP with ⟨hp, hok, hsize⟩ | ⟨hp, hbad⟩
        · rw [if_pos hp] at hGW
          rw [hok] at cD
          have HAP := Lib.hid ((M.okD_iff _ _).1 hok).2
          have hv60 := (M.pr_facts hp).2.2.2.1
          obtain ⟨vP, hvv⟩ : ∃ vP, M.val 10 BP.data.toList = vP := ⟨_, rfl⟩
          rw [hvv] at hGW hv60
          have HVP := Lib.hid hvv
          have HA2 := Lib.hid (grow_1000 (k' := k + 1 + n) HAK.out (show vP < 1000 by omega) (by omega))
          have HG2 := Lib.hid hGW
          have cM := fun W => rmul_yes a 60 vP W hroom (by omega) (by omega)
          clear hvv hGW hp hok hroom
          generalize tx (a : Int) = A at *
          rcases hsize with hP1 | ⟨hP2, h53⟩
          · clear HAK
            have hsz : BP.size = 1 := hP1
            go_wp2_with fail
            refine (cF _).mono ?_
            rintro r w' ⟨rfl, rfl⟩
            go_wp2_with fail
            refine (cD _).mono ?_
            rintro r w' ⟨rfl, rfl⟩
            go_wp2
            go_loop [10, 11] (fun vv iv => ∃ i v : Nat, iv = .int .i64 i ∧ vv = .int .i64 v ∧ i ≤ BP.size ∧ v < 1000 ∧ Hid (M.val 10 (BP.data.toList.take i) = v)) (fun _ iv => BP.size - (intOf iv).toNat)
            case atStart => exact ⟨0, 0, rfl, rfl, Nat.zero_le _, by omega, rfl⟩
            case round =>
              obtain ⟨i, v, rfl, rfl, hi, hv, hst⟩ := hrel
              by_cases hlt : i < BP.size
              · have hltd : decide (i < BP.size) = true := by simpa using hlt
                have hdv : M.dv BP[i] < 10 := (M.allD_iff _ _).1 HAP.out _ (List.mem_of_getElem? (get_list BP i hlt))
                obtain ⟨g1, g2, g3⟩ := M.dv_lt10 hdv
                have hvs := M.val_snoc 10 (BP.data.toList.take i) BP[i]
                rw [← take_snoc BP i hlt, hst.out, g3] at hvs
                have hal : M.allD 10 (BP.data.toList.take (i + 1)) = true := by
                  rw [M.allD_iff]; intro c hc; exact (M.allD_iff _ _).1 HAP.out c (List.mem_of_mem_take hc)
                have hvl := M.val_lt 10 _ hal
                have hle : (BP.data.toList.take (i + 1)).length ≤ 2 := by rw [List.length_take]; omega
                have hvl2 : M.val 10 (BP.data.toList.take (i + 1)) < 100 := Nat.lt_of_lt_of_le hvl (Nat.pow_le_pow_right (by omega) hle)
                rw [hvs] at hvl2
                have HS := Lib.hid hvs
                clear hvs hvl hdv g3 hst hal hle cF cD cM
                obtain ⟨m, hm⟩ : ∃ m, BP[i].toNat = 48 + m := ⟨BP[i].toNat - 48, by omega⟩
                rw [hm, Nat.add_sub_cancel_left] at hvl2 HS
                rw [hm] at g1 g2
                go_wp2
                go_round
                case rel => exact ⟨i + 1, v * 10 + m, by go_num, by go_num, by omega, by omega, HS.out⟩
                case measure => simp [intOf]; omega
              · obtain rfl : i = BP.size := by omega
                have hltd : decide (BP.size < BP.size) = false := by simp
                have h1 := hst.out
                rw [take_all, HVP.out] at h1
                subst h1
                clear hst cF cD
                go_wp2_with fail
                refine (cM _).mono ?_
                rintro r w4 ⟨rfl, hb4⟩
                clear cM
                go_wp2
                go_roundw
                case rel => exact ⟨k + 1 + n, a * 60 + vP, by go_num, rfl, HK.out, HA2.out, HG2.out, hbw.trans (hb4.mono hbw.size)⟩
                case measure => have := HK.out; simp [intOf]; omega
          · have hq : decide ((53 : Int) < (BP[0].toNat : Int)) = false := by simp; omega
            clear HAK
            have hsz : BP.size = 2 := hP2
            go_wp2_with fail
            refine (cF _).mono ?_
            rintro r w' ⟨rfl, rfl⟩
            go_wp2_with fail
            refine (cD _).mono ?_
            rintro r w' ⟨rfl, rfl⟩
            go_wp2
            go_loop [10, 11] (fun vv iv => ∃ i v : Nat, iv = .int .i64 i ∧ vv = .int .i64 v ∧ i ≤ BP.size ∧ v < 1000 ∧ Hid (M.val 10 (BP.data.toList.take i) = v)) (fun _ iv => BP.size - (intOf iv).toNat)
            case atStart => exact ⟨0, 0, rfl, rfl, Nat.zero_le _, by omega, rfl⟩
            case round =>
              obtain ⟨i, v, rfl, rfl, hi, hv, hst⟩ := hrel
              by_cases hlt : i < BP.size
              · have hltd : decide (i < BP.size) = true := by simpa using hlt
                have hdv : M.dv BP[i] < 10 := (M.allD_iff _ _).1 HAP.out _ (List.mem_of_getElem? (get_list BP i hlt))
                obtain ⟨g1, g2, g3⟩ := M.dv_lt10 hdv
                have hvs := M.val_snoc 10 (BP.data.toList.take i) BP[i]
                rw [← take_snoc BP i hlt, hst.out, g3] at hvs
                have hal : M.allD 10 (BP.data.toList.take (i + 1)) = true := by
                  rw [M.allD_iff]; intro c hc; exact (M.allD_iff _ _).1 HAP.out c (List.mem_of_mem_take hc)
                have hvl := M.val_lt 10 _ hal
                have hle : (BP.data.toList.take (i + 1)).length ≤ 2 := by rw [List.length_take]; omega
                have hvl2 : M.val 10 (BP.data.toList.take (i + 1)) < 100 := Nat.lt_of_lt_of_le hvl (Nat.pow_le_pow_right (by omega) hle)
                rw [hvs] at hvl2
                have HS := Lib.hid hvs
                clear hvs hvl hdv g3 hst hal hle cF cD cM
                obtain ⟨m, hm⟩ : ∃ m, BP[i].toNat = 48 + m := ⟨BP[i].toNat - 48, by omega⟩
                rw [hm, Nat.add_sub_cancel_left] at hvl2 HS
                rw [hm] at g1 g2
                go_wp2
                go_round
                case rel => exact ⟨i + 1, v * 10 + m, by go_num, by go_num, by omega, by omega, HS.out⟩
                case measure => simp [intOf]; omega
              · obtain rfl : i = BP.size := by omega
                have hltd : decide (BP.size < BP.size) = false := by simp
                have h1 := hst.out
                rw [take_all, HVP.out] at h1
                subst h1
                clear hst cF cD
                go_wp2_with fail
                refine (cM _).mono ?_
                rintro r w4 ⟨rfl, hb4⟩
                clear cM
                go_wp2
                go_roundw
                case rel => exact ⟨k + 1 + n, a * 60 + vP, by go_num, rfl, HK.out, HA2.out, HG2.out, hbw.trans (hb4.mono hbw.size)⟩
                case measure => have := HK.out; simp [intOf]; omega
        · rw [hp] at hGW
          rw [if_neg (by simp)] at hGW
          have HW := hGW.symm
          clear hGW hroom HAK HK
          generalize tx (a : Int) = A at *
          rcases hbad with hok | ⟨hok, hP3 | ⟨hP2, h53⟩⟩
          · rw [hok] at cD
            clear hok hp
            subst HW
            go_wp2_with fail
            refine (cF _).mono ?_
            rintro r w' ⟨rfl, rfl⟩
            go_wp2_with fail
            refine (cD _).mono ?_
            rintro r w' ⟨rfl, rfl⟩
            go_wp2
            go_ret2
            exact ⟨rfl, hbw⟩
          · rw [hok] at cD
            clear hok hp
            have hlen : decide ((2 : Int) < (BP.size : Int)) = true := by simp; omega
            subst HW
            go_wp2_with fail
            refine (cF _).mono ?_
            rintro r w' ⟨rfl, rfl⟩
            go_wp2_with fail
            refine (cD _).mono ?_
            rintro r w' ⟨rfl, rfl⟩
            go_wp2
            go_ret2
            exact ⟨rfl, hbw⟩
          · rw [hok] at cD
            have hq : decide ((53 : Int) < (BP[0].toNat : Int)) = true := by simp; omega
            clear hok hp
            have hsz : BP.size = 2 := hP2
            subst HW
            go_wp2_with fail
            refine (cF _).mono ?_
            rintro r w' ⟨rfl, rfl⟩
            go_wp2_with fail
            refine (cD _).mono ?_
            rintro r w' ⟨rfl, rfl⟩
            go_wp2
            go_ret2
            exact ⟨rfl, hbw⟩
end Go.Proofs.YtocegiffbgnogaaGreatDoor

namespace Go.Proofs.YtocegiffbgnogaaGreatDoor
open Go.RowKit

theorem rsixty_no (s : ByteArray) (w : World) (hs : s.size ≤ 1000) (h : ∀ c ∈ s.data.toList, c ≠ 58) :
    Calls Tryz.prog 17 #[.string s] w fun e w' => e = .returned (ansV none) ∧ w = w' := by
  have c1 := fun W => rfind_no s W hs h
  clear h
  go_enter Tryz.func17, Tryz.ntmps17
  go_wp2_with fail
  refine (c1 _).mono ?_
  rintro r w' ⟨rfl, rfl⟩
  go_wp2
  go_ret2
  exact ⟨rfl, rfl⟩
set_option maxRecDepth 100000 in
set_option maxHeartbeats 1000000 in
theorem rsixty_bad (s : ByteArray) (D R0 : List UInt8) (w : World) (hs : s.size ≤ 1000) (h0 : 0 < s.size) (he : s.data.toList = D ++ 58 :: R0) (hD : ∀ c ∈ D, c ≠ 58) (hD0 : 0 < D.length) (hd0 : M.dv s[0] < 10) (hal : M.allD 10 (M.gone D) = false) :
    Calls Tryz.prog 17 #[.string s] w fun e w' => e = .returned (ansV none) ∧ Below w.heap.size w w' := by
  have c1 := fun W => rfind_yes s D R0 W hs he hD
  have c2 := fun W => isDigit_any s[0] W
  rw [decide_eq_true hd0] at c2
  have hDs : D.length < s.size := by rw [sz_list, he]; simp
  have hx : s.extract 0 D.length = bA D := by
    apply eq_bA
    rw [ByteArray.data_extract, Array.toList_extract, List.extract_eq_take_drop, List.drop_zero, he]
    simp
  have c3 := fun W => rbare_any (bA D) 10 W (by rw [bA_size]; omega) (by omega)
  rw [bA_toList] at c3
  unfold bareV at c3
  rw [if_neg (by rw [hal]; simp)] at c3
  clear hal hd0 he hD
  generalize hBD : bA D = BD at *
  generalize hkk : D.length = k0 at *
  clear hBD hkk D R0
  have hk1 : decide ((k0 : Int) < 1) = false := by simp; omega
  go_enter Tryz.func17, Tryz.ntmps17
  go_wp2_with fail
  refine (c1 _).mono ?_
  rintro r w' ⟨rfl, rfl⟩
  go_wp2_with fail
  refine (c2 _).mono ?_
  rintro r w' ⟨rfl, rfl⟩
  go_wp2_with fail
  refine (c3 _).mono ?_
  rintro r w1 ⟨rfl, hb1⟩
  clear c1 c2 c3 hx
  go_wp2
  go_ret2
  exact ⟨rfl, hb1⟩
theorem rsixty_any (c : UInt8) (r : List UInt8) (hl : r.length ≤ 990) (hc : M.dv c < 10) (h48 : c ≠ 48) : ∃ o : Option Nat, (∀ w, Calls Tryz.prog 17 #[.string (bA (c :: r))] w fun e w' => e = .returned (ansV o) ∧ Below w.heap.size w w') ∧ (M.fA r = 6 → o = some (M.num (c :: r))) ∧ (M.fA r ≠ 6 → o = none) := by
  have hsz : (bA (c :: r)).size ≤ 1000 := by rw [bA_size]; simp; omega
  have h0 : 0 < (bA (c :: r)).size := by rw [bA_size]; simp
  have hhead : (bA (c :: r))[0] = c := by
    have := get_list (bA (c :: r)) 0 h0
    rw [bA_toList] at this; simpa using this.symm
  have h95 : c ≠ 95 := M.ne95 hc (by omega)
  have h58 : c ≠ 58 := M.ne58 hc (by omega)
  have hB : M.fB (c :: r) = M.fA r := by rw [M.fB, if_neg h48, if_pos hc]
  rcases M.split_at 58 r with hn | ⟨D, R, rfl, hD⟩
  · refine ⟨none, fun w => (rsixty_no _ w hsz ?_).mono (fun e w' h => ⟨h.1, h.2 ▸ Below.refl _ _⟩), fun h => ?_, fun _ => rfl⟩
    · rw [bA_toList]
      intro x hx
      rcases List.mem_cons.1 hx with rfl | hx
      · exact h58
      · exact hn x hx
    · rw [M.fA_no r hn] at h
      split at h <;> omega
  · have hD' : ∀ x ∈ c :: D, x ≠ 58 := by
      intro x hx
      rcases List.mem_cons.1 hx with rfl | hx
      · exact h58
      · exact hD x hx
    have hall : M.allD 10 (M.gone (c :: D)) = M.allD 10 (M.gone D) := by
      rw [M.gone_ne _ h95, M.allD_cons, decide_eq_true hc, Bool.true_and]
    have he : (bA (c :: (D ++ 58 :: R))).data.toList = (c :: D) ++ 58 :: R := by rw [bA_toList]; rfl
    have hf := M.fA_yes D R hD
    by_cases ha : M.allD 10 (M.gone D) = true
    · rw [if_pos ha] at hf
      refine ⟨_, fun w => rsixty_loop _ (c :: D) R w hsz h0 he hD' (by simp) (by rw [hhead]; exact hc) (by rw [hall]; exact ha) (by rw [M.gone_ne _ h95]; simp), fun h => ?_, fun h => ?_⟩
      · rw [hf] at h
        show (if M.fS 1 R = 6 then some _ else none) = _
        rw [if_pos h]
        unfold M.num
        rw [hB, hf, h, if_neg (by omega), if_neg (by omega), if_neg (by omega), if_pos rfl]
        rw [show c :: (D ++ 58 :: R) = (c :: D) ++ 58 :: R from rfl, M.gone_append, M.gone_ne R (by decide), M.fS_gone (by omega : M.fS 1 R ≠ 0)]
        have hg58 : ∀ x ∈ M.gone (c :: D), x ≠ 58 := fun x hx => hD' x (M.mem_gone.1 hx).1
        rw [M.sx_yes 0 _ R hg58, Nat.zero_mul, Nat.zero_add]
      · rw [hf] at h
        show (if M.fS 1 R = 6 then some _ else none) = _
        rw [if_neg h]
    · rw [if_neg ha] at hf
      refine ⟨none, fun w => rsixty_bad _ (c :: D) R w hsz h0 he hD' (by simp) (by rw [hhead]; exact hc) (by rw [hall]; simpa using ha), fun h => by omega, fun _ => rfl⟩
end Go.Proofs.YtocegiffbgnogaaGreatDoor
