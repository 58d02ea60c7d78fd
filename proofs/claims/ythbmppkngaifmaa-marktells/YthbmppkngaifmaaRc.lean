/- Walk of the document's Well. -/
import Derived.Test.YthbmppkngaifmaaRb
namespace Go.Proofs.Ythbmppkngaifmaa
open Go.RowKit

theorem nx8_inv {l : List UInt8} {c n : Nat} (h : M.nx 1 l = (c, n)) (hn : n ≠ 0) : M.IsScalar c ∧ l = M.utf8 c ++ l.drop n := by
  rw [M.nx_1] at h
  unfold M.nx8 at h
  split at h
  · have := congrArg Prod.snd h; simp only at this; omega
  · rename_i hb
    have hi := M.dN_inv l (fun e => hb (Or.inl e)) (fun e => hb (Or.inr e))
    rw [h] at hi
    refine ⟨hi.1, ?_⟩
    rw [← hi.2.2.1, List.take_append_drop]
theorem steps_wf {l l' : List UInt8} {cs : List Nat} (h : M.Steps 1 l cs l') : (∀ c ∈ cs, M.IsScalar c) ∧ l = M.encAll 1 cs ++ l' := by
  induction cs generalizing l with
  | nil =>
    have h' : l = l' := h
    subst h'
    exact ⟨by simp, by simp [M.encAll]⟩
  | cons c cs ih =>
    obtain ⟨n, h0, hn, t⟩ := h
    obtain ⟨h1, h2⟩ := nx8_inv h0 hn
    have h3 := ih t
    refine ⟨?_, ?_⟩
    · intro x hx
      rcases List.mem_cons.1 hx with e | e
      · rw [e]; exact h1
      · exact h3.1 x e
    · rw [M.encAll_cons, M.enc1_1, List.append_assoc, ← h3.2]; exact h2
theorem not_valid {l rest : List UInt8} {cs : List Nat} (h : M.Steps 1 l cs rest) (hn : (M.nx 1 rest).2 = 0) (hr : rest ≠ []) : Lib.validD l = false := by
  cases hv : Lib.validD l with
  | false => rfl
  | true =>
    obtain ⟨ds, hw⟩ := M.valid_of l hv
    have S := M.Steps.enc 1 (by omega) ds hw.1 []
    rw [List.append_nil, ← hw.2] at S
    exact absurd (h.det hn S (by rw [M.nx_nil])).2 hr

set_option maxRecDepth 100000 in
set_option maxHeartbeats 1000000 in
/-- targumref1.Well: is a text well-formed? -/
theorem well_any (s : ByteArray) (w : World) (hs : s.size ≤ 100000) :
    Calls Try.prog 18 #[.string s] w fun r w' => r = .returned (.bool (Lib.validD s.data.toList)) ∧ w = w' := by
  obtain ⟨V, hV⟩ : ∃ V, Lib.validD s.data.toList = V := ⟨_, rfl⟩
  rw [hV]
  have HV := Lib.hid hV
  clear hV
  have hLl : s.size = s.data.toList.length := sz_list s
  have HLl := Lib.hid hLl
  clear hLl
  go_enter Try.func18, Try.ntmps18
  go_wp2
  go_loop [3] (fun v => ∃ (i : Nat) (cs : List Nat), v = .int .i64 i ∧ i ≤ s.size ∧ Hid (M.Steps 1 s.data.toList cs (s.data.toList.drop i))) (fun v => s.size - (intOf v).toNat)
  case atStart => exact ⟨0, [], rfl, Nat.zero_le _, M.Steps.nil _⟩
  case round =>
    obtain ⟨i, cs, rfl, hi, hst⟩ := hrel
    by_cases hlt : i < s.size
    · have hltd : decide (i < s.size) = true := by simpa using hlt
      have c1 := rnext_any s i w hlt hs
      have hok := M.nx_ok 1 (s.data.toList.drop i)
      rw [List.length_drop, ← HLl.out, M.nx_1] at hok
      obtain ⟨⟨c, n⟩, hcn⟩ : ∃ d, M.nx8 (s.data.toList.drop i) = d := ⟨_, rfl⟩
      rw [hcn] at c1 hok
      have HCN := Lib.hid hcn
      clear hcn
      simp only at c1 hok
      by_cases hn : n = 0
      · subst hn
        have hfin := not_valid hst.out (by rw [M.nx_1, HCN.out]) (by intro h; have := congrArg List.length h; rw [List.length_drop, ← HLl.out] at this; simp at this; omega)
        rw [HV.out] at hfin
        have HF := Lib.hid hfin
        clear hfin hok hlt
        go_wp2_with (go_at_call 23; refine c1.mono ?_; rintro r w' ⟨rfl, rfl⟩)
        go_ret
        exact ⟨by rw [HF.out]; rfl, rfl⟩
      · obtain ⟨_, ok2, ok3⟩ := hok hn
        have hnb : ((n : Int) == 0) = false := by simp; omega
        clear hok
        go_wp2_with (go_at_call 23; refine c1.mono ?_; rintro r w' ⟨rfl, rfl⟩)
        go_round
        case rel => exact ⟨i + n, cs ++ [c], by go_num, by omega, by
          have h := hst.out.snoc (by rw [M.nx_1]; exact HCN.out) hn
          rwa [List.drop_drop] at h⟩
        case measure => simp [intOf]; omega
    · obtain rfl : i = s.size := by omega
      have hltd : decide (s.size < s.size) = false := by simp
      have hfin : V = true := by
        rw [← HV.out]
        have h := steps_wf hst.out
        rw [HLl.out, List.drop_length, List.append_nil] at h
        exact M.valid_wf h
      have HF := Lib.hid hfin
      clear hfin hlt
      go_wp2
      go_ret
      exact ⟨by rw [HF.out]; rfl, rfl⟩

end Go.Proofs.Ythbmppkngaifmaa
