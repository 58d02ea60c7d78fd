/- Walks of the document's answers (targumref1), on: scalar, whole. -/
import Derived.Test.YthlbeoakaebcpaaDoorTc
import Derived.Test.YthlbeoakaebcpaaDoorMc
namespace Go.Proofs.YthlbeoakaebcpaaDoor
open Go.RowKit

def sc32 (C : Nat) (b1 : Bool) : Nat × Nat := if b1 = false then (0, 0) else if scB (C : Int) = true then (C, 4) else (0, 0)

set_option maxRecDepth 100000 in
set_option maxHeartbeats 4000000 in
theorem rscalar32_core (e : Nat) (he : e = 4 ∨ e = 5) (a : Option Addr) (n cap i : Nat) (C : Nat) (b1 : Bool) (w : World)
    (u1 : ∀ lt, lt = (e == 5) → Calls Tryd.prog 40 #[.slice a n cap, .int .i64 i, .int .i64 4, .bool lt] w fun r w' => r = .returned (.tuple #[.int .i64 C, .bool b1]) ∧ w = w') :
    Calls Tryd.prog 28 #[.int .i64 e, .slice a n cap, .int .i64 i] w fun r w' => r = .returned (.tuple #[.int .i64 ((sc32 C b1).1 : Nat), .int .i64 ((sc32 C b1).2 : Nat)]) ∧ w = w' := by
  have v1 := u1 _ rfl
  clear u1
  have s1 := isScalar_any (C : Int) w
  cases b1 with
  | false =>
    have h : sc32 C false = (0, 0) := rfl
    rw [h]
    clear h s1
    rcases he with rfl | rfl
    all_goals
      go_enter Tryd.func28, Tryd.ntmps28
      go_wp2_with (go_at_call 40; refine v1.mono ?_; rintro r w' ⟨rfl, rfl⟩)
      go_ret2
      exact ⟨rfl, rfl⟩
  | true =>
    have h : sc32 C true = if scB (C : Int) = true then (C, 4) else (0, 0) := rfl
    rw [h]
    clear h
    generalize scB (C : Int) = q at *
    cases q
    all_goals
      rcases he with rfl | rfl
      all_goals
        go_enter Tryd.func28, Tryd.ntmps28
        go_wp2_with fail
        refine v1.mono ?_
        rintro r w' ⟨rfl, rfl⟩
        go_wp2_with fail
        refine s1.mono ?_
        rintro r w' ⟨rfl, rfl⟩
        go_wp2
        go_ret2
        exact ⟨rfl, rfl⟩

theorem decodeN_min (n a b c d : Nat) : Lib.decodeN (min n 4) a b c d = Lib.decodeN n a b c d := by
  have e1 : (1 < min n 4) = (1 < n) := propext (by omega)
  have e2 : (2 < min n 4) = (2 < n) := propext (by omega)
  have e3 : (3 < min n 4) = (3 < n) := propext (by omega)
  unfold Lib.decodeN
  simp only [e1, e2, e3]
theorem nx8_take (l : List UInt8) : M.nx8 (l.take 4) = M.nx8 l := by
  have hd : M.dN (l.take 4) = M.dN l := by
    unfold M.dN
    rw [List.length_take, M.by8_take _ _ _ (by omega), M.by8_take _ _ _ (by omega), M.by8_take _ _ _ (by omega), M.by8_take _ _ _ (by omega), Nat.min_comm, decodeN_min]
  have hn : (l.take 4 = []) = (l = []) := propext (by cases l <;> simp)
  unfold M.nx8
  simp only [hd, hn]

theorem conv_has {w : World} {b off cap : Nat} {l : List UInt8} (h : HasBytes w b off l) : (convert 22 9 (.slice (some ⟨b, off, none⟩) l.length cap)).run Tryd.prog w = .ok (.string (bA l)) w := by
  refine run_convert_bytes_back w 22 9 5 ⟨b, off, none⟩ cap l Tryd.underlying22 Tryd.underlying5 Tryd.underlying9 ?_
  intro j hj
  rw [Addr.add_lit, h j hj, ← bcell_by8 l j hj]; rfl

theorem HasBytes.take' {w : World} {b off : Nat} {l : List UInt8} (h : HasBytes w b off l) (k : Nat) : HasBytes w b off (l.take k) := fun j hj => by
  rw [List.length_take] at hj
  rw [M.by8_take _ _ _ (by omega)]
  exact h j (by omega)

set_option maxRecDepth 100000 in
set_option maxHeartbeats 2000000 in
theorem rscalar8 (b off cap : Nat) (l : List UInt8) (i : Nat) (w : World) (hp : HasBytes w b off l) (hl : l.length ≤ 100000) (hcap : l.length ≤ cap) (hi : i < l.length) :
    Calls Tryd.prog 28 #[.int .i64 1, .slice (some ⟨b, off, none⟩) l.length cap, .int .i64 i] w fun r w' => r = .returned (.tuple #[.int .i64 ((M.nx8 (l.drop i)).1 : Nat), .int .i64 ((M.nx8 (l.drop i)).2 : Nat)]) ∧ w = w' := by
  have hc := conv_has (cap := cap - i) ((hp.drop i).take' 4)
  have c1 := rnext_any (bA ((l.drop i).take 4)) 0 w (by rw [bA_size, List.length_take, List.length_drop]; omega) (by rw [bA_size, List.length_take]; omega)
  rw [bA_toList, List.drop_zero, nx8_take] at c1
  obtain ⟨q, hq⟩ : ∃ q, q = min l.length (i + 4) := ⟨_, rfl⟩
  have hlen : ((l.drop i).take 4).length = q - i := by rw [List.length_take, List.length_drop]; omega
  rw [hlen] at hc
  have hm : min (l.length : Int) ((i : Int) + 4) = (q : Int) := by omega
  have hq1 : i ≤ q := by omega
  have hq2 : q ≤ cap := by omega
  have hq3 : (q : Int) ≤ (cap : Int) := by omega
  have hq4 : (i : Int) ≤ (q : Int) := by omega
  clear hq hlen hp
  generalize bA ((l.drop i).take 4) = T at *
  generalize M.nx8 (l.drop i) = d at *
  go_enter Tryd.func28, Tryd.ntmps28
  go_wp2_with (go_at_call 32; refine c1.mono ?_; rintro r w' ⟨rfl, rfl⟩)
  go_ret2
  exact ⟨rfl, rfl⟩

theorem rd2_drop (be : Bool) (l : List UInt8) (i j : Nat) : M.rd2 be (l.drop i) j = M.rd2 be l (i + j) := by
  unfold M.rd2; rw [M.by8_drop, M.by8_drop, Nat.add_assoc]
theorem beq_not23 (e : Nat) (he : e = 2 ∨ e = 3) : (!(e == 3)) = (e == 2) := by rcases he with rfl | rfl <;> rfl
theorem beq_not45 (e : Nat) (he : e = 4 ∨ e = 5) : (!(e == 5)) = (e == 4) := by rcases he with rfl | rfl <;> rfl

theorem rscalar_any (e : Nat) (he : 1 ≤ e ∧ e ≤ 5) (b off cap : Nat) (l : List UInt8) (i : Nat) (w : World) (hp : HasBytes w b off l) (hl : l.length ≤ 50000) (hcap : l.length ≤ cap) (hi : i < l.length) :
    Calls Tryd.prog 28 #[.int .i64 e, .slice (some ⟨b, off, none⟩) l.length cap, .int .i64 i] w fun r w' => r = .returned (.tuple #[.int .i64 ((M.nx e (l.drop i)).1 : Nat), .int .i64 ((M.nx e (l.drop i)).2 : Nat)]) ∧ w = w' := by
  have u : ∀ (lt : Bool) (j n : Nat), (n = 2 ∨ n = 4) → j ≤ 100000 → Calls Tryd.prog 40 #[.slice (some ⟨b, off, none⟩) l.length cap, .int .i64 j, .int .i64 n, .bool lt] w fun r w' => r = .returned (.tuple #[.int .i64 ((if j + n ≤ l.length then pv l j n lt n else 0 : Nat) : Int), .bool (decide (j + n ≤ l.length))]) ∧ w = w' := by
    intro lt j n hn hj
    by_cases h : j + n ≤ l.length
    · rw [if_pos h, decide_eq_true h]; exact runit_ok b off cap l j n lt w hp (by omega) hn h
    · rw [if_neg h, decide_eq_false h]; exact runit_no _ cap l.length j n lt w (by omega) hj hn (by omega)
  by_cases h1 : e = 1
  · subst h1; rw [M.nx_1]; exact rscalar8 b off cap l i w hp (by omega) hcap hi
  by_cases h2 : e = 2 ∨ e = 3
  · have hnx : M.nx e (l.drop i) = M.nx16 (e == 2) (l.drop i) := by rcases h2 with rfl | rfl; exact M.nx_2 _; exact M.nx_3 _
    have c := rscalar16_core e h2 (some ⟨b, off, none⟩) l.length cap i (if i + 2 ≤ l.length then pv l i 2 (e == 3) 2 else 0) (if i + 2 + 2 ≤ l.length then pv l (i + 2) 2 (e == 3) 2 else 0) (decide (i + 2 ≤ l.length)) (decide (i + 2 + 2 ≤ l.length)) w
      (by split; rw [pv_2]; exact M.rd2_lt _ _ _; omega) (by split; rw [pv_2]; exact M.rd2_lt _ _ _; omega) (by omega)
      (fun lt h => by rw [h]; exact u _ i 2 (Or.inl rfl) (by omega)) (fun lt h => by rw [h]; exact u _ (i + 2) 2 (Or.inl rfl) (by omega))
    rw [hnx]
    suffices hh : M.nx16 (e == 2) (l.drop i) = sc16 (if i + 2 ≤ l.length then pv l i 2 (e == 3) 2 else 0) (if i + 2 + 2 ≤ l.length then pv l (i + 2) 2 (e == 3) 2 else 0) (decide (i + 2 ≤ l.length)) (decide (i + 2 + 2 ≤ l.length)) by rw [hh]; exact c
    unfold M.nx16 sc16
    rw [rd2_drop, rd2_drop, List.length_drop, pv_2, pv_2, beq_not23 e h2, Nat.add_zero]
    by_cases k1 : i + 2 ≤ l.length
    · rw [if_neg (by omega), if_pos k1, decide_eq_true k1, if_neg (show ¬ (true = false) by simp)]
      by_cases k2 : M.rd2 (e == 2) l i < 55296 ∨ 57344 ≤ M.rd2 (e == 2) l i
      · rw [if_pos k2, if_pos k2]
      · rw [if_neg k2, if_neg k2]
        by_cases k3 : 56320 ≤ M.rd2 (e == 2) l i
        · rw [if_pos (Or.inl k3), if_pos k3]
        · rw [if_neg k3]
          by_cases k4 : i + 2 + 2 ≤ l.length
          · rw [if_neg (by omega), decide_eq_true k4, if_neg (show ¬ (true = false) by simp), if_pos k4]
            by_cases k5 : M.rd2 (e == 2) l (i + 2) < 56320
            · rw [if_pos (Or.inl k5), if_pos k5]
            · rw [if_neg k5]
              by_cases k6 : 57344 ≤ M.rd2 (e == 2) l (i + 2)
              · rw [if_pos (Or.inr k6), if_pos k6]
              · rw [if_neg (by omega), if_neg k6]
          · rw [if_pos (Or.inr (by omega)), decide_eq_false k4, if_pos rfl]
    · rw [if_pos (by omega), decide_eq_false k1, if_pos rfl]
  · have h4 : e = 4 ∨ e = 5 := by omega
    have hnx : M.nx e (l.drop i) = M.nx32 (e == 4) (l.drop i) := by rcases h4 with rfl | rfl; exact M.nx_4 _; exact M.nx_5 _
    have c := rscalar32_core e h4 (some ⟨b, off, none⟩) l.length cap i (if i + 4 ≤ l.length then pv l i 4 (e == 5) 4 else 0) (decide (i + 4 ≤ l.length)) w
      (fun lt h => by rw [h]; exact u _ i 4 (Or.inr rfl) (by omega))
    rw [hnx]
    suffices hh : M.nx32 (e == 4) (l.drop i) = sc32 (if i + 4 ≤ l.length then pv l i 4 (e == 5) 4 else 0) (decide (i + 4 ≤ l.length)) by rw [hh]; exact c
    unfold M.nx32 sc32
    rw [List.length_drop, pv_4, beq_not45 e h4]
    by_cases k1 : i + 4 ≤ l.length
    · rw [if_neg (by omega), if_pos k1, decide_eq_true k1, if_neg (show ¬ (true = false) by simp)]
      by_cases k2 : 1114111 < M.rd4 (e == 4) (l.drop i) ∨ (55296 ≤ M.rd4 (e == 4) (l.drop i) ∧ M.rd4 (e == 4) (l.drop i) < 57344)
      · rw [if_pos k2, if_neg (by rw [scB_iff]; omega)]
      · rw [if_neg k2, if_pos (by rw [scB_iff]; omega)]
    · rw [if_pos (by omega), decide_eq_false k1, if_pos rfl]

end Go.Proofs.YthlbeoakaebcpaaDoor
