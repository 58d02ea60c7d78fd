/- Plain mathematics, on: texts that are well-formed are just the scalars so written; what a reader of an encoding comes to. No program in it. -/
import Derived.Test.YthbmppkngaifmaaM
import Derived.Lib.ValidU
set_option linter.unusedVariables false
namespace Go.Proofs.Ythbmppkngaifmaa.M
open Go.Lib

theorem by8_drop (l : List UInt8) (i j : Nat) : by8 (l.drop i) j = by8 l (i + j) := by simp [by8, List.getElem?_drop]
theorem get_by8 (s : ByteArray) (j : Nat) : (s.get! j).toNat = by8 s.data.toList j := by
  have h : ∀ l : List UInt8, ((ByteArray.mk l.toArray).get! j).toNat = by8 l j := by
    intro l; simp [ByteArray.get!, by8]; rfl
  have := h s.data.toList
  simpa using this
/-- The model's decoder at a place. -/
theorem decode_drop (s : ByteArray) (i : Nat) : Utf8.decode s i = dN (s.data.toList.drop i) := by
  rw [decode_at]
  simp only [dN, get_by8, by8_drop, List.length_drop, Nat.add_zero]
  congr 1
theorem decodeL_dN (l : List UInt8) : decodeL l = dN l := by
  unfold decodeL
  rw [decode_drop]; simp

theorem u8_self (x : UInt8) : u8 x.toNat = x := by simp [u8]
theorem u8_by8 (l : List UInt8) (i n : Nat) (h : n = by8 l i) (hi : i < l.length) : u8 n = l[i] := by
  subst h; simp [by8, hi, u8]

theorem take1 (l : List UInt8) (h : 1 ≤ l.length) : l.take 1 = [l[0]] := by
  match l, h with | x :: r, _ => simp
theorem take2 (l : List UInt8) (h : 2 ≤ l.length) : l.take 2 = [l[0], l[1]] := by
  match l, h with | x :: y :: r, _ => simp
theorem take3 (l : List UInt8) (h : 3 ≤ l.length) : l.take 3 = [l[0], l[1], l[2]] := by
  match l, h with | x :: y :: z :: r, _ => simp
theorem take4 (l : List UInt8) (h : 4 ≤ l.length) : l.take 4 = [l[0], l[1], l[2], l[3]] := by
  match l, h with | x :: y :: z :: u :: r, _ => simp

set_option maxHeartbeats 1000000 in
theorem dN_inv (l : List UInt8) (hl : l ≠ []) (h : dN l ≠ (65533, 1)) : IsScalar (dN l).1 ∧ (dN l).2 = (utf8 (dN l).1).length ∧ l.take (dN l).2 = utf8 (dN l).1 ∧ (dN l).2 ≤ l.length := by
  have hlen : 1 ≤ l.length := by cases l <;> simp_all
  have h0 := by8_lt l 0; have h1 := by8_lt l 1; have h2 := by8_lt l 2; have h3 := by8_lt l 3
  revert h
  unfold dN decodeN IsScalar
  split
  · rename_i c
    intro _
    have e : utf8 (by8 l 0) = [u8 (by8 l 0)] := by unfold utf8; rw [if_pos c]
    simp only [e]
    refine ⟨by omega, rfl, ?_, hlen⟩
    rw [take1 l hlen, u8_by8 l 0 _ rfl hlen]
  · rename_i c0
    split
    · rename_i c
      split
      · rename_i d
        intro _
        simp only
        generalize hc : by8 l 0 % 32 * 64 + by8 l 1 % 64 = k at *
        have e : utf8 k = [u8 (192 + k / 64), u8 (128 + k % 64)] := by unfold utf8; rw [if_neg (by omega), if_pos (by omega)]
        rw [e]
        refine ⟨by omega, rfl, ?_, by omega⟩
        rw [take2 l (by omega), u8_by8 l 0 _ (by omega) (by omega), u8_by8 l 1 _ (by omega) (by omega)]
      · intro h; exact absurd rfl h
    · rename_i c1
      split
      · rename_i c
        split
        · rename_i d
          intro _
          simp only
          generalize hc : by8 l 0 % 16 * 4096 + by8 l 1 % 64 * 64 + by8 l 2 % 64 = k at *
          have e : utf8 k = [u8 (224 + k / 4096), u8 (128 + k / 64 % 64), u8 (128 + k % 64)] := by unfold utf8; rw [if_neg (by omega), if_neg (by omega), if_pos (by omega)]
          rw [e]
          refine ⟨by omega, rfl, ?_, by omega⟩
          rw [take3 l (by omega), u8_by8 l 0 _ (by omega) (by omega), u8_by8 l 1 _ (by omega) (by omega), u8_by8 l 2 _ (by omega) (by omega)]
        · intro h; exact absurd rfl h
      · rename_i c2
        split
        · rename_i c
          split
          · rename_i d
            intro _
            simp only
            generalize hc : by8 l 0 % 8 * 262144 + by8 l 1 % 64 * 4096 + by8 l 2 % 64 * 64 + by8 l 3 % 64 = k at *
            have e : utf8 k = [u8 (240 + k / 262144), u8 (128 + k / 4096 % 64), u8 (128 + k / 64 % 64), u8 (128 + k % 64)] := by unfold utf8; rw [if_neg (by omega), if_neg (by omega), if_neg (by omega)]
            rw [e]
            refine ⟨by omega, rfl, ?_, by omega⟩
            rw [take4 l (by omega), u8_by8 l 0 _ (by omega) (by omega), u8_by8 l 1 _ (by omega) (by omega), u8_by8 l 2 _ (by omega) (by omega), u8_by8 l 3 _ (by omega) (by omega)]
          · intro h; exact absurd rfl h
        · intro h; exact absurd rfl h

theorem dN_enc (c : Nat) (r : List UInt8) (hc : IsScalar c) : dN (utf8 c ++ r) = (c, (utf8 c).length) := by
  have h := nx8_enc c r hc
  unfold nx8 at h
  split at h
  · have h2 := congrArg Prod.snd h
    have h3 := utf8_length c
    simp only at h2
    omega
  · exact h
theorem dN_enc_ne (c : Nat) (r : List UInt8) (hc : IsScalar c) : dN (utf8 c ++ r) ≠ (65533, 1) := by
  have h := nx8_enc c r hc
  intro hb
  unfold nx8 at h
  rw [if_pos (Or.inr hb)] at h
  have h2 := congrArg Prod.snd h
  have h3 := utf8_length c
  simp only at h2
  omega

/-- A text that is these scalars, one behind the other. -/
def Wf (l : List UInt8) (cs : List Nat) : Prop := (∀ c ∈ cs, IsScalar c) ∧ l = encAll 1 cs

theorem encAll_nil (e : Nat) : encAll e [] = [] := rfl
theorem encAll_cons (e c : Nat) (cs : List Nat) : encAll e (c :: cs) = enc1 e c ++ encAll e cs := by simp [encAll]
theorem encAll_append (e : Nat) (a b : List Nat) : encAll e (a ++ b) = encAll e a ++ encAll e b := by simp [encAll]
theorem Wf.append {l l' : List UInt8} {a b : List Nat} (h : Wf l a) (h' : Wf l' b) : Wf (l ++ l') (a ++ b) :=
  ⟨fun c hc => (List.mem_append.1 hc).elim (h.1 c) (h'.1 c), by rw [h.2, h'.2, encAll_append]⟩

theorem validGo_of (n : Nat) : ∀ l : List UInt8, l.length ≤ n → validGoD n l = true → ∃ cs, Wf l cs := by
  induction n with
  | zero =>
    intro l hl _
    have : l = [] := by cases l <;> simp_all
    exact ⟨[], by simp, by rw [this]; rfl⟩
  | succ n ih =>
    intro l hl h
    unfold validGoD at h
    by_cases h0 : l = []
    · exact ⟨[], by simp, by rw [h0]; rfl⟩
    · rw [if_neg h0, decodeL_dN] at h
      split at h
      · cases h
      · rename_i hb
        have hi := dN_inv l h0 (fun e => hb (by rw [e]; exact ⟨rfl, rfl⟩))
        have hu := utf8_length (dN l).1
        obtain ⟨cs, hs, he⟩ := ih (l.drop (dN l).2) (by rw [List.length_drop]; omega) h
        refine ⟨(dN l).1 :: cs, ?_, ?_⟩
        · intro c hc
          rcases List.mem_cons.1 hc with h1 | h1
          · rw [h1]; exact hi.1
          · exact hs c h1
        · rw [encAll_cons, ← he, enc1_1, ← hi.2.2.1, List.take_append_drop]
theorem valid_of (l : List UInt8) (h : validD l = true) : ∃ cs, Wf l cs := validGo_of _ l (Nat.le_refl _) h

theorem utf8_ne_nil (c : Nat) (r : List UInt8) : utf8 c ++ r ≠ [] := by
  have := utf8_length c
  intro h
  have h2 := congrArg List.length h
  rw [List.length_append, List.length_nil] at h2
  omega
theorem validGo_wf (n : Nat) : ∀ cs : List Nat, (∀ c ∈ cs, IsScalar c) → validGoD n (encAll 1 cs) = true := by
  induction n with
  | zero => intro cs _; rfl
  | succ n ih =>
    intro cs hs
    unfold validGoD
    cases cs with
    | nil => rw [encAll_nil, if_pos rfl]
    | cons c cs =>
      have hc := hs c (by simp)
      rw [encAll_cons, enc1_1, if_neg (utf8_ne_nil _ _), decodeL_dN, dN_enc c _ hc]
      have hne := dN_enc_ne c (encAll 1 cs) hc
      rw [dN_enc c _ hc] at hne
      rw [if_neg (by intro h; exact hne (Prod.ext h.1 h.2))]
      simp only [List.drop_left]
      exact ih cs (fun x hx => hs x (by simp [hx]))
theorem valid_wf {l : List UInt8} {cs : List Nat} (h : Wf l cs) : validD l = true := by
  rw [h.2]; exact validGo_wf _ cs h.1

theorem wf_len {l : List UInt8} {cs : List Nat} (h : Wf l cs) : cs.length ≤ l.length := by
  rw [h.2]
  have : ∀ cs : List Nat, cs.length ≤ (encAll 1 cs).length := by
    intro cs
    induction cs with
    | nil => simp
    | cons c cs ih =>
      have := utf8_length c
      rw [encAll_cons, enc1_1, List.length_append, List.length_cons]; omega
  exact this cs
theorem enc1_le (e c : Nat) : (enc1 e c).length ≤ 4 := by
  by_cases h : 1 ≤ e ∧ e ≤ 5
  · exact (enc1_length e c h).2
  · unfold enc1; rw [if_neg (by omega), if_neg (by omega), if_neg (by omega), if_neg (by omega), if_neg (by omega)]; simp
theorem encAll_le (e : Nat) (cs : List Nat) : (encAll e cs).length ≤ 4 * cs.length := by
  induction cs with
  | nil => simp [encAll]
  | cons c cs ih =>
    have := enc1_le e c
    rw [encAll_cons, List.length_append, List.length_cons]; omega
theorem encAll_none (e : Nat) (h : ¬ (1 ≤ e ∧ e ≤ 5)) (cs : List Nat) : encAll e cs = [] := by
  induction cs with
  | nil => rfl
  | cons c cs ih =>
    rw [encAll_cons, ih]
    unfold enc1; rw [if_neg (by omega), if_neg (by omega), if_neg (by omega), if_neg (by omega), if_neg (by omega)]; rfl

/-- Where a text stands in the middle of its scalars. -/
theorem encAll_take_succ (e : Nat) (cs : List Nat) (k : Nat) (hk : k < cs.length) : encAll e (cs.take (k + 1)) = encAll e (cs.take k) ++ enc1 e cs[k] := by
  rw [List.take_succ_eq_append_getElem hk, encAll_append]; simp [encAll]
theorem drop_at (cs : List Nat) (k : Nat) (hk : k < cs.length) : (encAll 1 cs).drop (encAll 1 (cs.take k)).length = utf8 cs[k] ++ encAll 1 (cs.drop (k + 1)) := by
  have h : cs = cs.take k ++ cs[k] :: cs.drop (k + 1) := by rw [← List.drop_eq_getElem_cons hk, List.take_append_drop]
  have h2 : encAll 1 cs = encAll 1 (cs.take k) ++ (utf8 cs[k] ++ encAll 1 (cs.drop (k + 1))) := by
    conv => lhs; rw [h]
    rw [encAll_append, encAll_cons, enc1_1]
  rw [h2, List.drop_left]
theorem take_lt (e : Nat) (he : 1 ≤ e ∧ e ≤ 5) (cs : List Nat) (k : Nat) (hk : k < cs.length) : (encAll e (cs.take k)).length + (enc1 e cs[k]).length ≤ (encAll e cs).length := by
  have h : cs = cs.take k ++ cs[k] :: cs.drop (k + 1) := by rw [← List.drop_eq_getElem_cons hk, List.take_append_drop]
  have h2 := congrArg (fun x => (encAll e x).length) h
  simp only [encAll_append, encAll_cons, List.length_append] at h2
  omega

/-- What a reader of an encoding comes to: these scalars, and then this rest. -/
def Steps (e : Nat) : List UInt8 → List Nat → List UInt8 → Prop
  | l, [], l' => l = l'
  | l, c :: cs, l' => ∃ n, nx e l = (c, n) ∧ n ≠ 0 ∧ Steps e (l.drop n) cs l'

theorem Steps.nil {e : Nat} (l : List UInt8) : Steps e l [] l := rfl
theorem Steps.cons {e : Nat} {l : List UInt8} {c n : Nat} {cs : List Nat} {l' : List UInt8} (h : nx e l = (c, n)) (hn : n ≠ 0) (t : Steps e (l.drop n) cs l') : Steps e l (c :: cs) l' := ⟨n, h, hn, t⟩
theorem Steps.snoc {e : Nat} {l l' : List UInt8} {cs : List Nat} (h : Steps e l cs l') {c n : Nat} (hx : nx e l' = (c, n)) (hn : n ≠ 0) : Steps e l (cs ++ [c]) (l'.drop n) := by
  induction cs generalizing l with
  | nil =>
    have h' : l = l' := h
    subst h'
    exact Steps.cons hx hn (Steps.nil _)
  | cons d ds ih =>
    obtain ⟨m, h1, h2, h3⟩ := h
    exact Steps.cons h1 h2 (ih h3)
theorem Steps.det {e : Nat} {l l1 : List UInt8} {cs : List Nat} (h : Steps e l cs l1) (h1 : (nx e l1).2 = 0) : ∀ {ds : List Nat} {l2 : List UInt8}, Steps e l ds l2 → (nx e l2).2 = 0 → cs = ds ∧ l1 = l2 := by
  induction cs generalizing l with
  | nil =>
    have h' : l = l1 := h
    subst h'
    intro ds l2 k h2
    cases ds with
    | nil => exact ⟨rfl, k⟩
    | cons d ds =>
      obtain ⟨m, k1, k2, _⟩ := k
      rw [k1] at h1
      exact absurd h1 k2
  | cons c cs ih =>
    obtain ⟨n, a1, a2, a3⟩ := h
    intro ds l2 k h2
    cases ds with
    | nil =>
      have k' : l = l2 := k
      subst k'
      rw [a1] at h2
      exact absurd h2 a2
    | cons d ds =>
      obtain ⟨m, k1, k2, k3⟩ := k
      rw [a1] at k1
      obtain ⟨rfl, rfl⟩ := Prod.mk.inj k1
      obtain ⟨rfl, rfl⟩ := ih a3 k3 h2
      exact ⟨rfl, rfl⟩
theorem Steps.enc (e : Nat) (he : 1 ≤ e ∧ e ≤ 5) (cs : List Nat) (hs : ∀ c ∈ cs, IsScalar c) (r : List UInt8) : Steps e (encAll e cs ++ r) cs r := by
  induction cs with
  | nil => exact Steps.nil _
  | cons c cs ih =>
    have hx := nx_enc e c (encAll e cs ++ r) he (hs c (by simp))
    have hl := enc1_length e c he
    rw [encAll_cons, List.append_assoc]
    refine Steps.cons hx (by omega) ?_
    rw [List.drop_left]
    exact ih (fun x hx => hs x (by simp [hx]))

theorem nx_nil (e : Nat) : nx e [] = (0, 0) := by
  unfold nx nx8 nx16 nx32
  repeat' split
  all_goals simp_all
theorem nx_ok (e : Nat) (l : List UInt8) (h : (nx e l).2 ≠ 0) : IsScalar (nx e l).1 ∧ (nx e l).2 ≤ l.length ∧ (nx e l).2 ≤ 4 := by
  have key16 : ∀ be, (nx16 be l).2 ≠ 0 → IsScalar (nx16 be l).1 ∧ (nx16 be l).2 ≤ l.length ∧ (nx16 be l).2 ≤ 4 := by
    intro be
    have h0 := rd2_lt be l 0; have h2 := rd2_lt be l 2
    unfold nx16 IsScalar
    repeat' split
    all_goals simp only
    all_goals omega
  have key32 : ∀ be, (nx32 be l).2 ≠ 0 → IsScalar (nx32 be l).1 ∧ (nx32 be l).2 ≤ l.length ∧ (nx32 be l).2 ≤ 4 := by
    intro be
    unfold nx32 IsScalar
    repeat' split
    all_goals simp only
    all_goals omega
  have key8 : (nx8 l).2 ≠ 0 → IsScalar (nx8 l).1 ∧ (nx8 l).2 ≤ l.length ∧ (nx8 l).2 ≤ 4 := by
    unfold nx8
    split
    · intro h; exact absurd rfl h
    · rename_i hb
      intro _
      have hi := dN_inv l (fun e => hb (Or.inl e)) (fun e => hb (Or.inr e))
      have := utf8_length (dN l).1
      exact ⟨hi.1, hi.2.2.2, by omega⟩
  revert h
  unfold nx
  repeat' split
  · exact key8
  · exact key16 _
  · exact key16 _
  · exact key32 _
  · exact key32 _

end Go.Proofs.Ythbmppkngaifmaa.M
