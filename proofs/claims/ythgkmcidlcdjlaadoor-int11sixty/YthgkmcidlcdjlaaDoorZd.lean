/- The law Int11Gaps: its walk, whole. -/
import Derived.Test.YthgkmcidlcdjlaaDoorZc
set_option linter.unusedVariables false
namespace Go.Proofs.YthgkmcidlcdjlaaDoor
open Go.RowKit

theorem fB_head (U : List UInt8) (h : M.fB U ≠ 0) : ∃ d r, U = d :: r ∧ M.dv d < 10 := by
  match U, h with
  | [], h => exact absurd rfl h
  | d :: r, h =>
    refine ⟨d, r, rfl, ?_⟩
    by_cases hd : M.dv d < 10
    · exact hd
    · exact absurd (M.fB_bad d r hd) h
theorem fB_long (U : List UInt8) (h : M.fB U = 1 ∨ M.fB U = 2) : 2 < U.length := by
  have hl := M.gone_len U
  rcases M.isForm U (by omega) with ⟨r, h, hg, hd⟩ | ⟨r, h, hg, hd⟩ | ⟨h, hd⟩ | ⟨h, hu⟩ | ⟨h, hd, h48⟩ | ⟨D, R, h, hg, hd, h48, hR⟩
  · rw [hg] at hl
    have := List.length_pos_iff.2 ((M.okD_iff _ _).1 hd).1
    simp at hl; omega
  · rw [hg] at hl
    have := List.length_pos_iff.2 ((M.okD_iff _ _).1 hd).1
    simp at hl; omega
  · omega
  · omega
  · omega
  · omega
theorem dv_sign {d : UInt8} (h : M.dv d < 10) : d ≠ 43 ∧ d ≠ 45 :=
  ⟨by intro e; rw [e] at h; exact absurd h (by decide), by intro e; rw [e] at h; exact absurd h (by decide)⟩
theorem at_list (s : ByteArray) (i : Nat) (h : i < s.size) {c : UInt8} (hc : s.data.toList[i]? = some c) : s[i] = c := by
  have := get_list s i h
  rw [hc] at this
  exact (Option.some.inj this).symm
theorem gaps_any (s : ByteArray) (A t : Nat) (w : World) (he : Env w) (hs : s.size ≤ maxLen) (hA : A ≤ 255) (ht : t ≤ 255) :
    Calls Tryd.prog 6 #[.string s, .int .u8 A, .int .u8 t] w fun e w' => e = .returned (.bool true) ∧ Below w.heap.size w w' := by
  by_cases h60 : s.size ≤ 60
  · by_cases hn : M.form s.data.toList = 0 ∨ M.form s.data.toList = 4 ∨ M.form s.data.toList = 6
    · exact gaps_none s A t w he h60 hn
    · have h6 : M.form s.data.toList ≤ 6 := M.fB_le6 _
      have hF : M.form s.data.toList = 1 ∨ M.form s.data.toList = 2 ∨ M.form s.data.toList = 3 ∨ M.form s.data.toList = 5 := by omega
      have hlaw := fun K g h => M.gaps s.data.toList K g hF h
      have hsz := sz_list s
      have hne := (M.form_ne (show M.form s.data.toList ≠ 0 by omega)).1
      obtain ⟨l, hl⟩ : ∃ l, s.data.toList = l := ⟨_, rfl⟩
      rw [hl] at hne hsz
      match l, hne, hl, hsz with
      | c :: r, _, hl, hsz =>
        by_cases hsign : c = 43 ∨ c = 45
        · have hpre : M.pre s.data.toList = 1 := by
            unfold M.pre; rw [hl, if_pos (by rcases hsign with h | h <;> rw [h]; exact Or.inl rfl; exact Or.inr rfl)]
          have hbody : M.body s.data.toList = r := by
            rw [hl]
            rcases hsign with h | h
            · exact (head_43 h).2
            · exact (head_45 h).2
          have hfr : M.form s.data.toList = M.fB r := by unfold M.form; rw [hbody]
          obtain ⟨d, q, hr, hd⟩ := fB_head r (by omega)
          obtain ⟨d1, d2⟩ := dv_sign hd
          have h1 : 1 < s.size := by rw [hsz, hr]; simp
          have h0 : s[0] = c := at_list s 0 (by omega) (by rw [hl]; rfl)
          have hs1 : s[1] = d := at_list s 1 h1 (by rw [hl, hr]; rfl)
          rw [hpre] at hlaw
          refine gaps_core s A t 1 (M.form s.data.toList) (t % 5) w he h60 hA ht rfl hF (by omega) h1 ?_ ?_ (by rw [hs1]; exact d1) (by rw [hs1]; exact d2) rfl hlaw
          · intro h3
            have := fB_long r (by omega)
            rw [hsz]; simp; omega
          · intro x hx hx2
            obtain rfl : x = 0 := by omega
            rw [h0]; exact hsign
        · have c1 : c ≠ 43 := fun h => hsign (Or.inl h)
          have c2 : c ≠ 45 := fun h => hsign (Or.inr h)
          have hpre : M.pre s.data.toList = 0 := by
            unfold M.pre; rw [hl, if_neg (by simp [c1, c2])]
          have hbody : M.body s.data.toList = c :: r := by rw [hl]; exact (head_else c1 c2).2
          have hfr : M.form s.data.toList = M.fB (c :: r) := by unfold M.form; rw [hbody]
          have h1 : 0 < s.size := by rw [hsz]; simp
          have h0 : s[0] = c := at_list s 0 h1 (by rw [hl]; rfl)
          rw [hpre] at hlaw
          refine gaps_core s A t 0 (M.form s.data.toList) (t % 5) w he h60 hA ht rfl hF (by omega) h1 ?_ ?_ (by rw [h0]; exact c1) (by rw [h0]; exact c2) rfl hlaw
          · intro h3
            have := fB_long (c :: r) (by omega)
            rw [hsz]; simp at this; simp; omega
          · intro x hx; omega
  · exact gaps_long s A t w he hs (by omega)
end Go.Proofs.YthgkmcidlcdjlaaDoor
