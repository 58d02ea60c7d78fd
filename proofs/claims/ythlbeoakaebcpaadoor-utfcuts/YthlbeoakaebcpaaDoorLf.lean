/- The law UtfCuts: its walk. -/
import Derived.Test.YthlbeoakaebcpaaDoorLc
import Derived.Test.YthlbeoakaebcpaaDoorMc
import Derived.Laws.Small
import Derived.BigQuiet
namespace Go.Proofs.YthlbeoakaebcpaaDoor
open Go.RowKit

set_option maxRecDepth 100000 in
set_option maxHeartbeats 1000000 in
theorem within_any (x : Int) (m n : Nat) (w : World) (hm : m ≤ n) (hn : n ≤ 100000) :
    Calls Tryd.prog 22 #[.int .i64 x, .int .i64 m, .int .i64 n] w fun r w' => (∃ k : Nat, m ≤ k ∧ k ≤ n ∧ r = .returned (.int .i64 k)) ∧ w = w' := by
  have ht := tmod_eq_if x ((n : Int) - (m : Int) + 1)
  obtain ⟨y, hy⟩ : ∃ y, y = x.tmod ((n : Int) - (m : Int) + 1) := ⟨_, rfl⟩
  have hyb : -((n : Int) - (m : Int)) ≤ y ∧ y ≤ (n : Int) - (m : Int) := by
    have a1 := Int.emod_nonneg x (b := (n : Int) - (m : Int) + 1) (by omega)
    have a2 := Int.emod_lt_of_pos x (b := (n : Int) - (m : Int) + 1) (by omega)
    have a3 := Int.emod_nonneg (-x) (b := (n : Int) - (m : Int) + 1) (by omega)
    have a4 := Int.emod_lt_of_pos (-x) (b := (n : Int) - (m : Int) + 1) (by omega)
    rw [hy, ht]; split <;> omega
  clear ht
  have hne : (((n : Int) - (m : Int) + 1) == 0) = false := by simp; omega
  by_cases h : y < 0
  · go_enter Tryd.func22, Tryd.ntmps22
    go_wp2
    go_ret
    refine ⟨⟨((m : Int) + (y + n - m + 1)).toNat, by omega, by omega, ret_int ?_⟩, rfl⟩
    rw [← hy]; omega
  · go_enter Tryd.func22, Tryd.ntmps22
    go_wp2
    go_ret
    refine ⟨⟨((m : Int) + y).toNat, by omega, by omega, ret_int ?_⟩, rfl⟩
    rw [← hy]; omega

theorem HasBytes.take {w : World} {b off : Nat} {l : List UInt8} (h : HasBytes w b off l) (k : Nat) : HasBytes w b off (l.take k) := fun j hj => by
  rw [List.length_take] at hj
  rw [M.by8_take _ _ _ (by omega)]
  exact h j (by omega)

theorem det_cut (e : Nat) (he : 1 ≤ e ∧ e ≤ 5) (cs : List Nat) (hs : ∀ c ∈ cs, M.IsScalar c) (hm : ∀ c ∈ cs, mayB c = true) (p : Nat) :
    det (M.enc1 e 65279 ++ (M.encAll e cs).take p) = ((e : Int), (((M.enc1 e 65279).length : Nat) : Int)) := by
  refine det_bom e he _ (fun h3 => ?_)
  subst h3
  rintro ⟨h0, h1, h2⟩
  rw [List.length_take] at h2
  rw [M.by8_take _ _ _ (by omega)] at h0 h1
  by_cases hc : cs = []
  · subst hc; simp [M.encAll] at h2
  · have := le_head cs [] hm hs hc
    rw [List.append_nil] at this
    exact this ⟨h0, h1⟩

theorem encAll_mark_take (e : Nat) (cs : List Nat) (q : Nat) (hq : (M.enc1 e 65279).length ≤ q) : (M.encAll e (65279 :: cs)).take q = M.enc1 e 65279 ++ (M.encAll e cs).take (q - (M.enc1 e 65279).length) := by
  rw [M.encAll_cons, List.take_append, List.take_of_length_le hq]

/-- What is told of marked text that is cut short. -/
theorem cut_ends (e : Nat) (he : 1 ≤ e ∧ e ≤ 5) (s : ByteArray) (cs : List Nat) (hs : s.size ≤ 300) (hw : M.Wf s.data.toList cs) (hm : ∀ c ∈ cs, mayB c = true) (q : Nat) (hq : (M.enc1 e 65279).length ≤ q) (hqn : q ≤ (M.encAll e (65279 :: cs)).length) :
    ∃ (t : ByteArray) (i : Nat), (M.enc1 e 65279).length ≤ i ∧ i ≤ q ∧ q ≤ i + 3 ∧ t.size ≤ s.size ∧ s.extract 0 t.size = t ∧
      (∀ g w, Tabs w → g < w.heap.size → HasBytes w g 0 (M.encAll e (65279 :: cs)) → Calls Tryd.prog 13 #[.slice (some ⟨g, 0, none⟩) q (M.encAll e (65279 :: cs)).length] w fun r w' => r = (if i = q then okEnd e (M.enc1 e 65279).length t else badEnd i) ∧ Below w.heap.size w w') ∧
      (∀ g w, Tabs w → g < w.heap.size → HasBytes w g 0 (M.encAll e (65279 :: cs)) → Calls Tryd.prog 13 #[.slice (some ⟨g, 0, none⟩) i (M.encAll e (65279 :: cs)).length] w fun r w' => r = okEnd e (M.enc1 e 65279).length t ∧ Below w.heap.size w w') ∧
      (∀ w, Tabs w → Calls Tryd.prog 18 #[.int .i64 e, .string t] w fun r w' => r = .returned (.int .i64 ((i - (M.enc1 e 65279).length : Nat) : Int)) ∧ Below w.heap.size w w') := by
  have hN : (M.encAll e (65279 :: cs)).length = (M.enc1 e 65279).length + (M.encAll e cs).length := by rw [M.encAll_cons, List.length_append]
  have hcl := M.wf_len hw
  rw [← sz_list] at hcl
  have hNb := M.encAll_le e (65279 :: cs)
  rw [List.length_cons] at hNb
  obtain ⟨j, rest, hj, hcut, hr3, hstuck⟩ := M.cut e he cs hw.1 (q - (M.enc1 e 65279).length) (by omega)
  have hsub : ∀ c ∈ cs.take j, M.IsScalar c := fun c hc => hw.1 c (List.mem_of_mem_take hc)
  have hlen := congrArg List.length hcut
  rw [List.length_take, List.length_append] at hlen
  have hz : (bA (M.encAll 1 (cs.take j))).size ≤ s.size := by
    rw [bA_size, sz_list, hw.2]; exact M.encAll_take_le 1 cs j
  have hi2 : (M.encAll e cs).take (M.encAll e (cs.take j)).length = M.encAll e (cs.take j) := by
    have h : M.encAll e cs = M.encAll e (cs.take j) ++ M.encAll e (cs.drop j) := by rw [← M.encAll_append, List.take_append_drop]
    rw [h, List.take_left]
  have hq1 := encAll_mark_take e cs q hq
  have hl1 : ((M.encAll e (65279 :: cs)).take q).length = q := by rw [List.length_take]; omega
  have hd1 := det_cut e he cs hw.1 hm (q - (M.enc1 e 65279).length)
  have hd2 := det_cut e he cs hw.1 hm (M.encAll e (cs.take j)).length
  have hq2 := encAll_mark_take e cs ((M.enc1 e 65279).length + (M.encAll e (cs.take j)).length) (by omega)
  rw [Nat.add_sub_cancel_left] at hq2
  have hl2 : ((M.encAll e (65279 :: cs)).take ((M.enc1 e 65279).length + (M.encAll e (cs.take j)).length)).length = (M.enc1 e 65279).length + (M.encAll e (cs.take j)).length := by rw [List.length_take]; omega
  refine ⟨bA (M.encAll 1 (cs.take j)), (M.enc1 e 65279).length + (M.encAll e (cs.take j)).length, by omega, by omega, by omega, hz, ?_, ?_, ?_, ?_⟩
  · have : s = bA (M.encAll 1 cs) := by rw [← hw.2, bA_of]
    rw [this, bA_size]
    have h2 := M.encAll_take_prefix cs j
    apply ByteArray.ext
    apply Array.ext'
    rw [ByteArray.data_extract, Array.toList_extract]
    rw [bA_toList, bA_toList]
    simpa using h2
  · intro g w hT hg hB
    have c := decode_any g 0 (M.encAll e (65279 :: cs)).length ((M.encAll e (65279 :: cs)).take q) w hT (hB.take q) hg (by omega) (by omega)
    rw [hl1] at c
    refine c.mono ?_
    rintro r w' ⟨h, hb⟩
    rw [hq1, hd1] at h
    simp only [Int.toNat_natCast] at h
    refine ⟨?_, hb⟩
    by_cases hr0 : rest = []
    · subst hr0
      rw [if_pos (by simp at hlen; omega)]
      exact h.ok he hsub (by rw [List.drop_left, hcut, List.append_nil])
    · have hpos : 0 < rest.length := List.length_pos_iff.2 hr0
      rw [if_neg (by omega)]
      have S := M.Steps.enc e he (cs.take j) hsub rest
      have hb := h.bad (cs := cs.take j) (rest := rest) (by rw [List.drop_left, hcut]; exact S) hstuck hr0
      rw [hb, ← hq1, hl1]
      congr 1; omega
  · intro g w hT hg hB
    have c := decode_any g 0 (M.encAll e (65279 :: cs)).length ((M.encAll e (65279 :: cs)).take ((M.enc1 e 65279).length + (M.encAll e (cs.take j)).length)) w hT (hB.take _) hg (by omega) (by omega)
    rw [hl2] at c
    refine c.mono ?_
    rintro r w' ⟨h, hb⟩
    rw [hq2, hd2] at h
    simp only [Int.toNat_natCast] at h
    exact ⟨h.ok he hsub (by rw [List.drop_left, hi2]), hb⟩
  · intro w hT
    have c := size_wf e (bA (M.encAll 1 (cs.take j))) (cs.take j) w hT (by omega) ⟨hsub, bA_toList _⟩
    rw [Int.toNat_natCast] at c
    rw [Nat.add_sub_cancel_left]
    exact c

end Go.Proofs.YthlbeoakaebcpaaDoor
