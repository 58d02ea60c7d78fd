/- Walks: the document's Read, any text and place; its Expand. -/
import Derived.Test.YtcahleaaicebbaaRc
import Derived.Test.YtcahleaaicebbaaRd
import Derived.Test.YtcahleaaicebbaaWf
set_option linter.unusedVariables false
namespace Go.Proofs.Ytcahleaaicebbaa
open Go.RowKit

theorem get_of {s : ByteArray} {k : Nat} (h : k < s.size) {c : UInt8} (e : s[k] = c) : s.data.toList[k]? = some c := by rw [get_list s k h, e]
theorem rrd_k (s : ByteArray) (k : Nat) (w : World) (hs : s.size ≤ 100000) (h0 : s.data.toList[k]? = some 33) : Calls Try.prog 10 #[.string s, .int .i64 k] w fun e w' => e = .returned (rdV (M.rd s.data.toList k)) ∧ Below w.heap.size w w' := by
  have hk := (get_l h0).1
  unfold M.rd
  by_cases h6 : s.data.toList[k + 1]? = some 60
  · rw [if_pos h6]
    have hk1 := (get_l h6).1
    have hR2 := M.bh_ge M.isT s.data.toList (k + 2)
    have hR3 := M.bh_le M.isT s.data.toList (k + 2) (by rw [← sz_list]; omega)
    rw [← sz_list] at hR3
    by_cases hE : M.bh M.isT s.data.toList (k + 2) = k + 2
    · rw [if_pos (Or.inl hE), rdV_no]
      exact rrd_vA s k _ w hs hk1 h0 h6 rfl hR2 hR3 hE
    · by_cases hZ : M.bh M.isT s.data.toList (k + 2) = s.size
      · rw [if_pos (Or.inr (by rw [List.getElem?_eq_none (by rw [← sz_list]; omega)]; simp)), rdV_no]
        exact rrd_vB s k _ w hs hk1 h0 h6 rfl hR2 hR3 hE hZ
      · have hlt : M.bh M.isT s.data.toList (k + 2) < s.size := by omega
        by_cases hc : s[M.bh M.isT s.data.toList (k + 2)] = 62
        · rw [if_neg (by rintro (h | h); exact hE h; exact h (get_of hlt hc))]
          exact rrd_vD s k _ w hs hk1 h0 h6 rfl hR2 hR3 hE hlt hc
        · rw [if_pos (Or.inr (by rw [get_list s _ hlt]; simpa using hc)), rdV_no]
          exact rrd_vC s k _ w hs hk1 h0 h6 rfl hR2 hR3 hE hlt hc
  · rw [if_neg h6]
    obtain ⟨n, hn⟩ : ∃ n, M.bh M.isW s.data.toList (k + 1) = k + 1 + n := ⟨_, (Nat.add_sub_cancel' (M.bh_ge M.isW s.data.toList (k + 1))).symm⟩
    have hwle := M.bh_le M.isW s.data.toList (k + 1) (by rw [← sz_list]; omega)
    rw [← sz_list, hn] at hwle
    dsimp only
    rw [hn]
    by_cases hk1 : k + 1 < s.size
    · have h1 : s[k + 1] ≠ 60 := fun e => h6 (get_of hk1 e)
      by_cases hw : k + 1 + n < s.size
      · by_cases h33 : s[k + 1 + n] = 33
        · rw [if_pos (get_of hw h33)]
          have hR2 := M.bh_ge M.isS s.data.toList (k + 1 + n + 1)
          have hR3 := M.bh_le M.isS s.data.toList (k + 1 + n + 1) (by rw [← sz_list]; omega)
          rw [← sz_list] at hR3
          by_cases hE : M.bh M.isS s.data.toList (k + 1 + n + 1) = k + 1 + n + 1
          · rw [if_pos ⟨hE, by omega⟩, rdV_no]
            exact rrd_hA s k n _ w hs h0 hn hwle rfl hR2 hR3 hk1 h1 hw h33 hE
          · rw [if_neg (fun h => hE h.1)]
            exact rrd_hB s k n _ w hs h0 hn hwle rfl hR2 hR3 hk1 h1 hw h33 hE
        · have hno : ¬ s.data.toList[k + 1 + n]? = some 33 := by rw [get_list s _ hw]; simpa using h33
          rw [if_neg hno, if_neg (fun h => by omega)]
          have hR2 := M.bh_ge M.isS s.data.toList (k + 1)
          have hR3 := M.bh_le M.isS s.data.toList (k + 1) (by rw [← sz_list]; omega)
          rw [← sz_list] at hR3
          exact rrd_hD s k n _ w hs h0 hn hwle rfl hR2 hR3 hk1 h1 hw h33
      · have hno : ¬ s.data.toList[k + 1 + n]? = some 33 := by rw [List.getElem?_eq_none (by rw [← sz_list]; omega)]; simp
        rw [if_neg hno, if_neg (fun h => by omega)]
        have hR2 := M.bh_ge M.isS s.data.toList (k + 1)
        have hR3 := M.bh_le M.isS s.data.toList (k + 1) (by rw [← sz_list]; omega)
        rw [← sz_list] at hR3
        exact rrd_hC s k n _ w hs h0 hn hwle rfl hR2 hR3 hk1 h1 hw
    · have hw : ¬ k + 1 + n < s.size := by omega
      have hno : ¬ s.data.toList[k + 1 + n]? = some 33 := by rw [List.getElem?_eq_none (by rw [← sz_list]; omega)]; simp
      rw [if_neg hno, if_neg (fun h => by omega)]
      have hR2 := M.bh_ge M.isS s.data.toList (k + 1)
      have hR3 := M.bh_le M.isS s.data.toList (k + 1) (by rw [← sz_list]; omega)
      rw [← sz_list] at hR3
      exact rrd_hE s k n _ w hs h0 hn hwle rfl hR2 hR3 hk1 hw
theorem rrd_any (s : ByteArray) (i : Int) (w : World) (hs : s.size ≤ 100000) : Calls Try.prog 10 #[.string s, .int .i64 i] w fun e w' => e = .returned (rdV (M.rdI s.data.toList i)) ∧ Below w.heap.size w w' := by
  by_cases h : i < 0 ∨ (s.size : Int) ≤ i
  · rw [M.rdI_no, rdV_no]
    · exact rrd_out s i w hs h
    · rintro ⟨h0, h1⟩
      have := (get_l h1).1
      omega
  · obtain ⟨k, rfl⟩ := Int.eq_ofNat_of_zero_le (show (0 : Int) ≤ i by omega)
    have hk : k < s.size := by omega
    by_cases h3 : s[k] = 33
    · rw [M.rdI_at _ _ (get_of hk h3)]
      exact rrd_k s k w hs (get_of hk h3)
    · rw [M.rdI_no, rdV_no]
      · exact rrd_other s k w hs hk h3
      · rintro ⟨_, h1⟩
        rw [Int.toNat_natCast, get_list s k hk] at h1
        exact h3 (by simpa using h1)
end Go.Proofs.Ytcahleaaicebbaa
