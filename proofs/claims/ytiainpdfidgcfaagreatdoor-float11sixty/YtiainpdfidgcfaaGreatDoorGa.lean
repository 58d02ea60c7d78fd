/- Plain mathematics of what is put on a text; the law Float11Apart: its walk. -/
import Derived.Test.YtiainpdfidgcfaaGreatDoorFr
set_option linter.unusedVariables false
namespace Go.Proofs.YtiainpdfidgcfaaGreatDoor
open Go.RowKit
namespace M
theorem body_cases (c : UInt8) (l : List UInt8) : body (c :: l) = l ∨ body (c :: l) = c :: l := by
  by_cases h1 : c = 43
  · left; exact (head_43 h1).2
  · by_cases h2 : c = 45
    · left; exact (head_45 h2).2
    · right; exact (head_else h1 h2).2
theorem body_append {l : List UInt8} (h : l ≠ []) (m : List UInt8) : body (l ++ m) = body l ++ m := by
  match l, h with
  | c :: r, _ =>
    rw [List.cons_append]
    by_cases h1 : c = 43
    · rw [(head_43 h1).2, (head_43 h1).2]
    · by_cases h2 : c = 45
      · rw [(head_45 h2).2, (head_45 h2).2]
      · rw [(head_else h1 h2).2, (head_else h1 h2).2]; rfl
theorem isNeg_append {l : List UInt8} (h : l ≠ []) (m : List UInt8) : isNeg (l ++ m) = isNeg l := by
  match l, h with
  | c :: r, _ => simp [isNeg]
theorem mem_okD {b : Nat} {l : List UInt8} (h : okD b l = true) (hb : b ≤ 99) : (46 : UInt8) ∉ l := by
  intro hm
  have := (allD_iff _ _).1 ((okD_iff _ _).1 h).2 46 hm
  rw [dv46] at this; omega
theorem form_no46 (U : List UInt8) (h : fB U ≠ 0) : (46 : UInt8) ∉ U := by
  intro hm
  have hg : (46 : UInt8) ∈ gone U := mem_gone.2 ⟨hm, by decide⟩
  rcases isForm U h with ⟨r, _, e, hd⟩ | ⟨r, _, e, hd⟩ | ⟨_, hd⟩ | ⟨_, e⟩ | ⟨_, hd, _⟩ | ⟨D, R, _, e, hd, _, hR⟩
  · rw [e] at hg
    rcases List.mem_cons.1 hg with k | hg
    · exact absurd k (by decide)
    rcases List.mem_cons.1 hg with k | hg
    · exact absurd k (by decide)
    exact mem_okD hd (by omega) hg
  · rw [e] at hg
    rcases List.mem_cons.1 hg with k | hg
    · exact absurd k (by decide)
    rcases List.mem_cons.1 hg with k | hg
    · exact absurd k (by decide)
    exact mem_okD hd (by omega) hg
  · exact mem_okD hd (by omega) hg
  · rw [e] at hm; exact absurd hm (by decide)
  · exact mem_okD hd (by omega) hg
  · rw [e] at hg
    rcases List.mem_append.1 hg with hg | hg
    · exact mem_okD hd (by omega) hg
    · rcases List.mem_cons.1 hg with k | hg
      · exact absurd k (by decide)
      · rcases fS_chars R 1 (by omega) 46 hg with k | k
        · rw [dv46] at k; omega
        · exact absurd k (by decide)
theorem tl_chars {X : List UInt8} {z : Int} (h : tl X = some z) : ∀ c ∈ X, dv c < 10 ∨ c = 101 ∨ c = 69 ∨ c = 43 ∨ c = 45 := by
  cases X with
  | nil => intro c hc; cases hc
  | cons e r =>
    rw [tl] at h
    by_cases he : e = 101 ∨ e = 69
    · rw [if_pos he] at h
      cases r with
      | nil => rw [tlE] at h; cases h
      | cons g ds =>
        rw [tlE] at h
        by_cases hg : (g = 43 ∨ g = 45) ∧ okD 10 ds = true
        · have hall := (allD_iff _ _).1 ((okD_iff _ _).1 hg.2).2
          intro c hc
          rcases List.mem_cons.1 hc with rfl | hc
          · rcases he with k | k
            · exact Or.inr (Or.inl k)
            · exact Or.inr (Or.inr (Or.inl k))
          · rcases List.mem_cons.1 hc with rfl | hc
            · rcases hg.1 with k | k
              · exact Or.inr (Or.inr (Or.inr (Or.inl k)))
              · exact Or.inr (Or.inr (Or.inr (Or.inr k)))
            · exact Or.inl (hall c hc)
        · rw [if_neg hg] at h; cases h
    · rw [if_neg he] at h; cases h
/-- A sign that a decimal may have. -/
def okc (c : UInt8) : Bool := decide (dv c < 10) || [95, 46, 58, 101, 69, 43, 45, 105, 110, 102, 73, 78, 70, 97, 65].contains c
theorem okc_dig {c : UInt8} (h : dv c < 10) : okc c = true := by unfold okc; rw [decide_eq_true h]; rfl
theorem count_none {l : List UInt8} (h : (46 : UInt8) ∉ l) : l.count 46 = 0 := List.count_eq_zero.2 h
theorem count_gone (l : List UInt8) : (gone l).count 46 = l.count 46 := by
  induction l with
  | nil => rfl
  | cons c l ih =>
    by_cases h : c = 95
    · rw [h, gone_eq, ih]; simp
    · rw [gone_ne l h, List.count_cons, List.count_cons, ih]
theorem fl_facts (L : List UInt8) (h : fl L ≠ 0) : L.count 46 = 1 ∧ ∀ c ∈ L, okc c = true := by
  obtain ⟨W, F, z, hp⟩ := isParts L h
  obtain ⟨H, X, hS⟩ := shape hp
  have hF : (46 : UInt8) ∉ F := fun k => by have := (allD_iff _ _).1 hS.digF 46 k; rw [dv46] at this; omega
  have hX : (46 : UInt8) ∉ X := fun k => by
    rcases tl_chars hS.pow 46 k with k | k | k | k | k
    · rw [dv46] at k; omega
    all_goals exact absurd k (by decide)
  have hHo : ∀ c ∈ H, okc c = true := by
    by_cases h3 : fl L = 3
    · obtain ⟨D, R, rfl, hD, hR, _⟩ := hS.six h3
      intro c hc
      rcases List.mem_append.1 hc with hc | hc
      · exact okc_dig ((allD_iff _ _).1 ((okD_iff _ _).1 hD).2 c hc)
      · rcases List.mem_cons.1 hc with rfl | hc
        · decide
        · rcases fS_chars R 1 (by omega) c hc with k | rfl
          · exact okc_dig k
          · decide
    · intro c hc; exact okc_dig ((allD_iff _ _).1 (hS.plain h3).2.1 c hc)
  constructor
  · rw [← count_gone, hS.eq, List.count_append, List.count_append, List.count_cons, count_none hF, count_none hX, count_none (fun k => hS.no46 46 k rfl)]; simp
  · intro c hc
    by_cases h95 : c = 95
    · rw [h95]; decide
    · have hg : c ∈ gone L := mem_gone.2 ⟨hc, h95⟩
      rw [hS.eq] at hg
      rcases List.mem_append.1 hg with hg | hg
      · rcases List.mem_append.1 hg with hg | hg
        · exact hHo c hg
        · rcases List.mem_cons.1 hg with rfl | hg
          · decide
          · exact okc_dig ((allD_iff _ _).1 hS.digF c hg)
      · rcases tl_chars hS.pow c hg with k | rfl | rfl | rfl | rfl
        · exact okc_dig k
        all_goals decide
theorem flo_cases (l : List UInt8) (h : flo l ≠ 0) : l ∈ nans ∨ body l ∈ infs ∨ fl (body l) ≠ 0 := by
  unfold flo at h
  by_cases h1 : l ∈ nans
  · exact Or.inl h1
  · rw [if_neg h1] at h
    by_cases h2 : body l ∈ infs
    · exact Or.inr (Or.inl h2)
    · rw [if_neg h2] at h; exact Or.inr (Or.inr h)
theorem flo_facts (l : List UInt8) (h : flo l ≠ 0) : (body l).count 46 = 1 ∧ ∀ c ∈ body l, okc c = true := by
  rcases flo_cases l h with h | h | h
  · simp only [nans, List.mem_cons, List.not_mem_nil, or_false] at h
    rcases h with rfl | rfl | rfl <;> decide
  · simp only [infs, List.mem_cons, List.not_mem_nil, or_false] at h
    rcases h with h | h | h <;> rw [h] <;> decide
  · exact fl_facts _ h
theorem flo_le5 (l : List UInt8) : flo l ≤ 5 := by
  unfold flo
  split
  · omega
  · split
    · omega
    · by_cases h : fl (body l) = 0
      · omega
      · rcases fl_le3 _ h with h | h | h <;> omega
theorem flo_ne {l : List UInt8} (h : flo l ≠ 0) : l ≠ [] := by intro e; rw [e] at h; exact h (by decide)
theorem flo_zero_mem (l : List UInt8) (c : UInt8) (hc : c ∈ body l) (ho : okc c = false) : flo l = 0 := by
  by_cases h : flo l = 0
  · exact h
  · have := (flo_facts l h).2 c hc
    rw [ho] at this; cases this
theorem flo_app_bad {l : List UInt8} (h : flo l ≠ 0) (c : UInt8) (ho : okc c = false) : flo (l ++ [c]) = 0 :=
  flo_zero_mem _ c (by rw [body_append (flo_ne h)]; simp) ho
theorem flo_cons_bad (l : List UInt8) (c : UInt8) (h1 : c ≠ 43) (h2 : c ≠ 45) (ho : okc c = false) : flo (c :: l) = 0 :=
  flo_zero_mem _ c (by rw [(head_else h1 h2).2]; simp) ho
theorem flo_two {l : List UInt8} (h : flo l ≠ 0) : flo (l ++ [46, 46]) = 0 := by
  by_cases h2 : flo (l ++ [46, 46]) = 0
  · exact h2
  · have h3 := (flo_facts _ h2).1
    rw [body_append (flo_ne h), List.count_append, (flo_facts l h).1] at h3
    exact absurd h3 (by decide)
theorem flo_signs (l : List UInt8) : flo (43 :: 45 :: l) = 0 := by
  by_cases h : flo (43 :: 45 :: l) = 0
  · exact h
  · have hb : body (43 :: 45 :: l) = 45 :: l := (head_43 rfl).2
    rcases flo_cases _ h with h | h | h
    · exact absurd h (by simp [nans])
    · rw [hb] at h; exact absurd h (by simp [infs])
    · rw [hb, fl, if_neg (by decide), if_neg (by decide)] at h; exact absurd rfl h
theorem flo_form {l : List UInt8} (h : flo l ≠ 0) : form l = 0 := by
  by_cases hf : form l = 0
  · exact hf
  · have h1 := form_no46 _ hf
    have h2 := (flo_facts l h).1
    rw [count_none h1] at h2; omega
theorem flo_form_app {l : List UInt8} (h : flo l ≠ 0) (c : UInt8) : form (l ++ [c]) = 0 := by
  by_cases hf : form (l ++ [c]) = 0
  · exact hf
  · have h1 := form_no46 _ hf
    have h2 := (flo_facts l h).1
    have h3 : (46 : UInt8) ∈ body l := by
      have : 0 < (body l).count 46 := by omega
      exact List.count_pos_iff.1 this
    exact absurd (by rw [body_append (flo_ne h)]; exact List.mem_append_left _ h3) h1
end M
theorem cat1 (b : UInt8) (s : ByteArray) : ((⟨#[b]⟩ : ByteArray) ++ s).data.toList = b :: s.data.toList := by rw [append_list]; rfl
theorem cat2 (b : UInt8) (s : ByteArray) : (s ++ (⟨#[b]⟩ : ByteArray)).data.toList = s.data.toList ++ [b] := by rw [append_list]
theorem sz1 (b : UInt8) (s : ByteArray) : ((⟨#[b]⟩ : ByteArray) ++ s).size = 1 + s.size := by rw [append_sz]; rfl
theorem sz2 (b : UInt8) (s : ByteArray) : (s ++ (⟨#[b]⟩ : ByteArray)).size = s.size + 1 := by rw [append_sz]; rfl
theorem fis_bad (s : ByteArray) (W : World) (hs : s.size ≤ 900) (h : M.flo s.data.toList = 0) : Calls Tryz.prog 11 #[.string s] W fun e w' => e = .returned (.bool false) ∧ W = w' := by
  have := fis_any s W (by omega)
  rw [h] at this
  exact this
theorem iis_bad (s : ByteArray) (W : World) (hs : s.size ≤ 900) (h : M.form s.data.toList = 0) : Calls Tryz.prog 17 #[.string s] W fun e w' => e = .returned (.bool false) ∧ W = w' := by
  have := is_any s W (by omega)
  rw [h] at this
  exact this
set_option maxRecDepth 100000 in
theorem apart_long (s : ByteArray) (w : World) (he : Env w) (hs : s.size ≤ maxLen) (h60 : 60 < s.size) :
    Calls Tryz.prog 7 #[.string s] w fun e w' => e = .returned (.bool true) ∧ Below w.heap.size w w' := by
  unfold maxLen at hs
  have hd : decide (60 < s.size) = true := by simpa using h60
  have hd2 : decide ((60 : Int) < (s.size : Int)) = true := by simp; omega
  go_enter Tryz.func7, Tryz.ntmps7
  go_wp2_with fail
  refine (known_any _ he).mono ?_
  rintro r w1 ⟨rfl, hb1⟩
  go_wp2
  go_ret
  exact ⟨rfl, hb1⟩
set_option maxRecDepth 100000 in
set_option maxHeartbeats 1000000 in
theorem apart_none (s : ByteArray) (w : World) (he : Env w) (h60 : s.size ≤ 60) (hf : M.flo s.data.toList = 0) :
    Calls Tryz.prog 7 #[.string s] w fun e w' => e = .returned (.bool true) ∧ Below w.heap.size w w' := by
  have hd : decide (60 < s.size) = false := by simp; omega
  have hd2 : decide ((60 : Int) < (s.size : Int)) = false := by simp; omega
  have cI := fun W => fis_bad s W (by omega) hf
  have cF := fun W => flo_any s W (by omega)
  have cJ := fun W => is_any s W (by omega)
  rw [hf] at cF
  clear hf
  generalize decide (M.form s.data.toList ≠ 0) = J at *
  cases J
  · go_enter Tryz.func7, Tryz.ntmps7
    go_wp2_with fail
    refine (known_any _ he).mono ?_
    rintro r w1 ⟨rfl, hb1⟩
    go_wp2_with fail
    refine (cJ _).mono ?_
    rintro r w' ⟨rfl, rfl⟩
    go_wp2_with fail
    refine (cI _).mono ?_
    rintro r w' ⟨rfl, rfl⟩
    go_wp2_with fail
    refine (cF _).mono ?_
    rintro r w' ⟨rfl, rfl⟩
    go_wp2
    go_ret
    exact ⟨rfl, hb1⟩
  · go_enter Tryz.func7, Tryz.ntmps7
    go_wp2_with fail
    refine (known_any _ he).mono ?_
    rintro r w1 ⟨rfl, hb1⟩
    go_wp2_with fail
    refine (cJ _).mono ?_
    rintro r w' ⟨rfl, rfl⟩
    go_wp2_with fail
    refine (cI _).mono ?_
    rintro r w' ⟨rfl, rfl⟩
    go_wp2_with fail
    refine (cI _).mono ?_
    rintro r w' ⟨rfl, rfl⟩
    go_wp2_with fail
    refine (cF _).mono ?_
    rintro r w' ⟨rfl, rfl⟩
    go_wp2
    go_ret
    exact ⟨rfl, hb1⟩
set_option maxRecDepth 100000 in
set_option maxHeartbeats 2000000 in
theorem apart_form (s : ByteArray) (w : World) (he : Env w) (h60 : s.size ≤ 60) (hf : M.flo s.data.toList ≠ 0) :
    Calls Tryz.prog 7 #[.string s] w fun e w' => e = .returned (.bool true) ∧ Below w.heap.size w w' := by
  have hd : decide (60 < s.size) = false := by simp; omega
  have hd2 : decide ((60 : Int) < (s.size : Int)) = false := by simp; omega
  have cJ := fun W => iis_bad s W (by omega) (M.flo_form hf)
  have cI := fun W => fis_any s W (by omega)
  rw [decide_eq_true hf] at cI
  have cF := fun W => flo_any s W (by omega)
  have q1 := fun W => fis_bad (s ++ ⟨#[32]⟩) W (by rw [sz2]; omega) (by rw [cat2]; exact M.flo_app_bad hf 32 (by decide))
  have q2 := fun W => fis_bad (⟨#[32]⟩ ++ s) W (by rw [sz1]; omega) (by rw [cat1]; exact M.flo_cons_bad _ 32 (by decide) (by decide) (by decide))
  have q3 := fun W => fis_bad (⟨#[43, 45]⟩ ++ s) W (by rw [append_sz]; show 2 + s.size ≤ 900; omega) (by rw [append_list]; exact M.flo_signs s.data.toList)
  have q4 := fun W => fis_bad (s ++ ⟨#[120]⟩) W (by rw [sz2]; omega) (by rw [cat2]; exact M.flo_app_bad hf 120 (by decide))
  have q5 := fun W => fis_bad (s ++ ⟨#[46, 46]⟩) W (by rw [append_sz]; show s.size + 2 ≤ 900; omega) (by rw [append_list]; exact M.flo_two hf)
  have q6 := fun W => iis_bad (s ++ ⟨#[120]⟩) W (by rw [sz2]; omega) (by rw [cat2]; exact M.flo_form_app hf 120)
  have h5 := M.flo_le5 s.data.toList
  have d1 : decide ((1 : Int) ≤ (M.flo s.data.toList : Int)) = true := by simp; omega
  have d2 : decide ((M.flo s.data.toList : Int) ≤ 5) = true := by simp; omega
  generalize M.flo s.data.toList = F at *
  clear hf h5
  go_enter Tryz.func7, Tryz.ntmps7
  go_wp2_with fail
  refine (known_any _ he).mono ?_
  rintro r w1 ⟨rfl, hb1⟩
  go_wp2_with fail
  refine (cJ _).mono ?_
  rintro r w' ⟨rfl, rfl⟩
  go_wp2_with fail
  refine (cI _).mono ?_
  rintro r w' ⟨rfl, rfl⟩
  go_wp2_with fail
  refine (cF _).mono ?_
  rintro r w' ⟨rfl, rfl⟩
  go_wp2_with fail
  refine (q1 _).mono ?_
  rintro r w' ⟨rfl, rfl⟩
  go_wp2_with fail
  refine (q2 _).mono ?_
  rintro r w' ⟨rfl, rfl⟩
  go_wp2_with fail
  refine (q3 _).mono ?_
  rintro r w' ⟨rfl, rfl⟩
  go_wp2_with fail
  refine (q4 _).mono ?_
  rintro r w' ⟨rfl, rfl⟩
  go_wp2_with fail
  refine (q5 _).mono ?_
  rintro r w' ⟨rfl, rfl⟩
  go_wp2_with fail
  refine (q6 _).mono ?_
  rintro r w' ⟨rfl, rfl⟩
  go_wp2
  go_ret
  exact ⟨rfl, hb1⟩
theorem apart_any (s : ByteArray) (w : World) (he : Env w) (hs : s.size ≤ maxLen) :
    Calls Tryz.prog 7 #[.string s] w fun e w' => e = .returned (.bool true) ∧ Below w.heap.size w w' := by
  by_cases h60 : 60 < s.size
  · exact apart_long s w he hs h60
  · by_cases hf : M.flo s.data.toList = 0
    · exact apart_none s w he (by omega) hf
    · exact apart_form s w he (by omega) hf
end Go.Proofs.YtiainpdfidgcfaaGreatDoor
