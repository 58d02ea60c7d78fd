/- Plain mathematics: numbers in pieces of seven digits, the lowest piece first. -/
import Derived.Test.YthgkmcidlcdjlaaDoorM
namespace Go.Proofs.YthgkmcidlcdjlaaDoor
namespace M
def pv : List Nat → Nat
  | [] => 0
  | p :: r => p + 10000000 * pv r
def Small (ps : List Nat) : Prop := ∀ p ∈ ps, p < 10000000
theorem pv_append (a b : List Nat) : pv (a ++ b) = pv a + 10000000 ^ a.length * pv b := by
  induction a with
  | nil => simp [pv]
  | cons p r ih =>
    simp only [List.cons_append, pv, ih, List.length_cons, Nat.pow_succ]
    rw [Nat.mul_add, Nat.add_assoc, ← Nat.mul_assoc, Nat.mul_comm 10000000 (10000000 ^ r.length)]
theorem pv_snoc (a : List Nat) (p : Nat) : pv (a ++ [p]) = pv a + 10000000 ^ a.length * p := by rw [pv_append]; simp [pv]
theorem Small.snoc {a : List Nat} {p : Nat} (h : Small a) (hp : p < 10000000) : Small (a ++ [p]) := by
  intro q hq
  rcases List.mem_append.1 hq with h1 | h1
  · exact h q h1
  · rw [List.mem_singleton.1 h1]; exact hp
theorem Small.nil : Small [] := by intro q hq; cases hq
/-- One step of the product. -/
theorem mul_step (done : List Nat) (k m p R T : Nat) (h : pv done + 10000000 ^ done.length * (k + m * (p + 10000000 * R)) = T) :
    pv (done ++ [(k + p * m) % 10000000]) + 10000000 ^ (done ++ [(k + p * m) % 10000000]).length * ((k + p * m) / 10000000 + m * R) = T := by
  rw [pv_snoc, List.length_append, List.length_cons, List.length_nil, Nat.zero_add, Nat.pow_succ, ← h, Nat.add_assoc, Nat.mul_assoc, ← Nat.mul_add]
  congr 2
  rw [Nat.mul_add, Nat.mul_add, ← Nat.add_assoc, ← Nat.add_assoc, Nat.mod_add_div, Nat.mul_comm p m, Nat.mul_left_comm]
theorem carry_step (done : List Nat) (k T : Nat) (h : pv done + 10000000 ^ done.length * k = T) :
    pv (done ++ [k % 10000000]) + 10000000 ^ (done ++ [k % 10000000]).length * (k / 10000000) = T := by
  have := mul_step done k 0 0 0 T (by simpa using h)
  simpa using this
theorem carry_le {k p m : Nat} (hk : k ≤ 1099511627776) (hp : p < 10000000) (hm : m ≤ 1099511627776) : k + p * m ≤ 10995116277760000000 ∧ (k + p * m) / 10000000 ≤ 1099511627776 := by
  have h1 : p * m ≤ 9999999 * 1099511627776 := Nat.mul_le_mul (by omega) hm
  omega
theorem carry_room {e k : Nat} (h : 10000000 ^ e * k ≤ 1099511627776) (hk : 0 < k) : e < 2 ∧ 10000000 ^ (e + 1) * (k / 10000000) ≤ 1099511627776 := by
  constructor
  · have h1 : 10000000 ^ e ≤ 1099511627776 := Nat.le_trans (Nat.le_mul_of_pos_right _ hk) h
    rcases Nat.lt_or_ge e 2 with h2 | h2
    · exact h2
    · have := Nat.pow_le_pow_right (show 0 < 10000000 by omega) h2
      have h3 : (10000000 : Nat) ^ 2 = 100000000000000 := by decide
      omega
  · rw [Nat.pow_succ, Nat.mul_assoc]
    exact Nat.le_trans (Nat.mul_le_mul_left _ (Nat.mul_div_le k 10000000)) h
theorem drop_pv (ps : List Nat) (i : Nat) (h : i < ps.length) : pv (ps.drop i) = ps[i] + 10000000 * pv (ps.drop (i + 1)) := by
  rw [List.drop_eq_getElem_cons h]; rfl

/-- Seven digits of a piece. -/
def lastD : Nat → Nat → List UInt8 → List UInt8
  | 0, _, r => r
  | n + 1, p, r => lastD n (p / 10) (UInt8.ofNat (48 + p % 10) :: r)
theorem lastD_append (n p : Nat) (r : List UInt8) : lastD n p r = lastD n p [] ++ r := by
  induction n generalizing p r with
  | zero => rfl
  | succ n ih => rw [lastD, lastD, ih (p / 10) (_ :: r), ih (p / 10) [_], List.append_assoc]; rfl
theorem lastD_length (n p : Nat) (r : List UInt8) : (lastD n p r).length = n + r.length := by
  induction n generalizing p r with
  | zero => simp [lastD]
  | succ n ih => rw [lastD, ih]; simp; omega
theorem lastD_ok (n p : Nat) (r : List UInt8) (h : allD 10 r = true) : allD 10 (lastD n p r) = true ∧ val 10 (lastD n p r) = p % 10 ^ n * 10 ^ r.length + val 10 r := by
  induction n generalizing p r with
  | zero => simp [lastD, h, Nat.mod_one]
  | succ n ih =>
    have hd : dv (UInt8.ofNat (48 + p % 10)) = p % 10 := dv_dig _ (by omega)
    have h' : allD 10 (UInt8.ofNat (48 + p % 10) :: r) = true := by
      rw [allD_iff] at h ⊢
      intro c hc
      rcases List.mem_cons.1 hc with rfl | hc
      · rw [hd]; omega
      · exact h c hc
    obtain ⟨h1, h2⟩ := ih (p / 10) _ h'
    refine ⟨h1, ?_⟩
    rw [lastD, h2, val_cons, hd, List.length_cons]
    have e1 : p % 10 ^ (n + 1) = p / 10 % 10 ^ n * 10 + p % 10 := by
      have := @Nat.mod_mul 10 (10 ^ n) p
      rw [show (10 : Nat) ^ (n + 1) = 10 * 10 ^ n by rw [Nat.pow_succ, Nat.mul_comm], this]
      omega
    rw [e1, Nat.add_mul, Nat.pow_succ, Nat.mul_comm (10 ^ r.length) 10, ← Nat.mul_assoc, Nat.add_assoc]
/-- The digits that 'written' writes. -/
def wr : List Nat → List UInt8
  | [] => []
  | p :: r => wr r ++ lastD 7 p []
theorem wr_snoc (a : List Nat) (p : Nat) : wr (a ++ [p]) = lastD 7 p [] ++ wr a := by
  induction a with
  | nil => simp [wr]
  | cons q r ih => simp only [List.cons_append, wr, ih, List.append_assoc]
theorem wr_length (a : List Nat) : (wr a).length = 7 * a.length := by
  induction a with
  | nil => rfl
  | cons q r ih => rw [wr, List.length_append, ih, lastD_length, List.length_cons]; simp; omega
theorem wr_ok (a : List Nat) (h : Small a) : allD 10 (wr a) = true ∧ val 10 (wr a) = pv a := by
  induction a with
  | nil => exact ⟨rfl, rfl⟩
  | cons q r ih =>
    obtain ⟨h1, h2⟩ := ih (fun x hx => h x (List.mem_cons_of_mem _ hx))
    obtain ⟨h3, h4⟩ := lastD_ok 7 q [] rfl
    have hq := h q (by simp)
    rw [wr]
    refine ⟨by rw [allD_append, h1, h3]; rfl, ?_⟩
    rw [val_append, h2, h4, lastD_length, pv]
    simp only [List.length_nil, Nat.add_zero, Nat.pow_zero, Nat.mul_one, val_nil]
    rw [show (10 : Nat) ^ 7 = 10000000 by decide, Nat.mod_eq_of_lt hq]
    omega
end M
end Go.Proofs.YthgkmcidlcdjlaaDoor
