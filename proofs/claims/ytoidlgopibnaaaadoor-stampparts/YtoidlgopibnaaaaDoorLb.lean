/- The law StampZones: its walk. -/
import Derived.Test.YtoidlgopibnaaaaDoorLz
set_option linter.unusedVariables false
namespace Go.Proofs.YtoidlgopibnaaaaDoor
open Go.RowKit

theorem ofB (B : ByteArray) (l a : List UInt8) (hl : B.data.toList = l) (ha : M.ofS l = some a) (hs : l.length ≤ 1000) (W : World) (hT : Tab W) : Calls Tryd.prog 10 #[.string B] W fun e w' => e = .returned (.tuple #[.string (bA a), .bool true]) ∧ Below W.heap.size W w' := by
  have := of_any B W hT (by rw [sz_list, hl]; exact hs)
  rw [hl, ha] at this
  exact this
theorem md {a n k : Nat} (h : a % n = k) (hn : 0 < n) : Int.tmod (a : Int) (n : Int) = (k : Int) ∧ (a : Int) % (n : Int) = (k : Int) := by
  subst h
  exact ⟨tm hn, rfl⟩
/-- What the law asks of: a moment, in Z, and in a zone. -/
structure Zs where
  Y : Nat
  Mo : Nat
  D : Nat
  H : Nat
  N : Nat
  S : Nat
  K : Nat
  P : Nat
  b : Bool
def Zs.ok (z : Zs) : Prop := 1 ≤ z.Y ∧ z.Y ≤ 9998 ∧ 1 ≤ z.Mo ∧ z.Mo ≤ 12 ∧ 1 ≤ z.D ∧ z.D ≤ M.days z.Y z.Mo ∧ z.H < 24 ∧ z.N < 60 ∧ z.S < 60 ∧ z.K < 1440 ∧ z.P < 1440 ∧ (z.K : Int) = 60 * (z.H : Int) + (z.N : Int) + (if z.b then -(z.P : Int) else (z.P : Int))
def Zs.dt (z : Zs) : List UInt8 := M.DT z.Y z.Mo z.D
def Zs.at (z : Zs) : List UInt8 := M.AT z.H z.N z.S
def Zs.want (z : Zs) : List UInt8 := z.dt ++ (84 :: (z.at ++ [90]))
theorem Zs.want_is (z : Zs) (h : z.ok) : z.want = M.ttx z.Y z.Mo z.D (60 * z.H + z.N) z.S [] := by
  obtain ⟨_, _, _, _, _, _, h1, h2, _⟩ := h
  rw [M.ttx_bare, show (60 * z.H + z.N) / 60 = z.H by omega, show (60 * z.H + z.N) % 60 = z.N by omega]; rfl
/-- Blanks, one at least. -/
def Bl (g : List UInt8) : Prop := g ≠ [] ∧ (∀ c ∈ g, M.bB c = true) ∧ g.length ≤ 3
theorem Zs.fA (z : Zs) (h : z.ok) {g : List UInt8} (hg : Bl g) : M.ofS (z.dt ++ (g ++ z.at)) = some z.want := by
  rw [z.want_is h]
  obtain ⟨y1, y2, m1, m2, d1, d2, h1, h2, h3, k1, p1, e⟩ := h
  have hd := M.days_le z.Y z.Mo
  refine M.ofS_zone (b := false) (p := 0) (q := 0) ?_ (by omega) d1 d2 h1 h2 h3 (by omega) (by omega) (by simp) (by omega)
  have := M.rd_time (y := z.Y) (m := z.Mo) (d := z.D) (h := z.H) (n := z.N) (s := z.S) (by omega) (by omega) (by omega) (by omega) (by omega) (by omega) g [] (Or.inr (Or.inr ⟨hg.1, hg.2.1⟩))
  rw [List.append_nil] at this
  exact this
theorem Zs.fB (z : Zs) (h : z.ok) {g : List UInt8} (hg : Bl g) : M.ofS (z.dt ++ (116 :: (z.at ++ (g ++ [90])))) = some z.want := by
  rw [z.want_is h]
  obtain ⟨y1, y2, m1, m2, d1, d2, h1, h2, h3, k1, p1, e⟩ := h
  have hd := M.days_le z.Y z.Mo
  refine M.ofS_zone (b := false) (p := 0) (q := 0) ?_ (by omega) d1 d2 h1 h2 h3 (by omega) (by omega) (by simp) (by omega)
  have := M.rd_time (y := z.Y) (m := z.Mo) (d := z.D) (h := z.H) (n := z.N) (s := z.S) (by omega) (by omega) (by omega) (by omega) (by omega) (by omega) [116] (g ++ [90]) (Or.inr (Or.inl rfl))
  rw [M.aRest_zone _ _ _ hg.2.1 (by simp) (by simp), M.cBl_Z] at this
  exact this
theorem Zs.num (z : Zs) (h : z.ok) : ((60 * (z.K / 60) + z.K % 60 : Nat) : Int) - (if z.b then -((60 * (z.P / 60) + z.P % 60 : Nat) : Int) else ((60 * (z.P / 60) + z.P % 60 : Nat) : Int)) = ((60 * z.H + z.N : Nat) : Int) := by
  obtain ⟨y1, y2, m1, m2, d1, d2, h1, h2, h3, k1, p1, e⟩ := h
  rw [show 60 * (z.K / 60) + z.K % 60 = z.K by omega, show 60 * (z.P / 60) + z.P % 60 = z.P by omega]
  cases hb : z.b
  · rw [hb] at e; simp at e ⊢; omega
  · rw [hb] at e; simp at e ⊢; omega
theorem Zs.fC (z : Zs) (h : z.ok) : M.ofS (z.dt ++ (84 :: (M.AT (z.K / 60) (z.K % 60) z.S ++ (M.sgn z.b :: (M.d2 (z.P / 60) ++ (58 :: M.d2 (z.P % 60))))))) = some z.want := by
  have hn := z.num h
  rw [z.want_is h]
  obtain ⟨y1, y2, m1, m2, d1, d2, h1, h2, h3, k1, p1, e⟩ := h
  have hd := M.days_le z.Y z.Mo
  refine M.ofS_zone (b := z.b) (p := z.P / 60) (q := z.P % 60) ?_ (by omega) d1 d2 (show z.K / 60 < 24 by omega) (show z.K % 60 < 60 by omega) h3 (by omega) (by omega) hn (by omega)
  have := M.rd_time (y := z.Y) (m := z.Mo) (d := z.D) (h := z.K / 60) (n := z.K % 60) (s := z.S) (by omega) (by omega) (by omega) (by omega) (by omega) (by omega) [84] (M.sgn z.b :: (M.d2 (z.P / 60) ++ (58 :: M.d2 (z.P % 60)))) (Or.inl rfl)
  have e2 := M.aRest_zone ⟨z.Y, z.Mo, z.D, true, z.K / 60, z.K % 60, z.S, [], false, 0, 0⟩ [] (M.sgn z.b :: (M.d2 (z.P / 60) ++ (58 :: M.d2 (z.P % 60)))) (by intro c hc; cases hc) (M.sgn_no _ _).1 (M.sgn_no _ _).2
  rw [List.nil_append] at e2
  rw [e2, M.cBl_zone (c := M.sgn z.b) _ z.b rfl (by omega) (by omega)] at this
  exact this
theorem Zs.fE (z : Zs) (h : z.ok) {g : List UInt8} (hg : Bl g) : M.ofS (z.dt ++ (84 :: (M.AT (z.K / 60) (z.K % 60) z.S ++ (g ++ (M.sgn z.b :: (T2 (z.P / 60) ++ (58 :: M.d2 (z.P % 60)))))))) = some z.want := by
  have hn := z.num h
  rw [z.want_is h]
  obtain ⟨y1, y2, m1, m2, d1, d2, h1, h2, h3, k1, p1, e⟩ := h
  have hd := M.days_le z.Y z.Mo
  refine M.ofS_zone (b := z.b) (p := z.P / 60) (q := z.P % 60) ?_ (by omega) d1 d2 (show z.K / 60 < 24 by omega) (show z.K % 60 < 60 by omega) h3 (by omega) (by omega) hn (by omega)
  have := M.rd_time (y := z.Y) (m := z.Mo) (d := z.D) (h := z.K / 60) (n := z.K % 60) (s := z.S) (by omega) (by omega) (by omega) (by omega) (by omega) (by omega) [84] (g ++ (M.sgn z.b :: (T2 (z.P / 60) ++ (58 :: M.d2 (z.P % 60))))) (Or.inl rfl)
  rw [M.aRest_zone _ _ _ hg.2.1 (M.sgn_no _ _).1 (M.sgn_no _ _).2, M.cBl_T2 _ (by omega) (by omega)] at this
  exact this
/-- The sign as a text. -/
def SG (b : Bool) : ByteArray := if b then ⟨#[45]⟩ else ⟨#[43]⟩
theorem SG_list (b : Bool) : (SG b).data.toList = [M.sgn b] := by cases b <;> rfl
abbrev Ofs (B A : ByteArray) : Prop := ∀ W, Tab W → Calls Tryd.prog 10 #[.string B] W fun e w' => e = .returned (.tuple #[.string A, .bool true]) ∧ Below W.heap.size W w'
theorem Zs.cA (z : Zs) (h : z.ok) {g : List UInt8} (hg : Bl g) : Ofs (bA z.dt ++ bA g ++ bA z.at) (bA z.want) := fun W hT =>
  ofB _ _ _ (by simp only [append_list, bA_toList, List.append_assoc]) (z.fA h hg) (by have := hg.2.2; simp only [List.length_append, Zs.dt, Zs.at, M.DT_len, M.AT_len]; omega) W hT
theorem Zs.cB (z : Zs) (h : z.ok) {g : List UInt8} (hg : Bl g) : Ofs (bA z.dt ++ ⟨#[116]⟩ ++ bA z.at ++ bA g ++ ⟨#[90]⟩) (bA z.want) := fun W hT =>
  ofB _ _ _ (by simp [bA_toList]) (z.fB h hg) (by have := hg.2.2; simp only [List.length_append, List.length_cons, List.length_nil, Zs.dt, Zs.at, M.DT_len, M.AT_len]; omega) W hT
theorem Zs.cC (z : Zs) (h : z.ok) : Ofs (bA z.dt ++ ⟨#[84]⟩ ++ bA (M.d2 (z.K / 60)) ++ ⟨#[58]⟩ ++ bA (M.d2 (z.K % 60)) ++ ⟨#[58]⟩ ++ bA (M.d2 z.S) ++ SG z.b ++ bA (M.d2 (z.P / 60)) ++ ⟨#[58]⟩ ++ bA (M.d2 (z.P % 60))) (bA z.want) := fun W hT =>
  ofB _ _ _ (by simp [bA_toList, SG_list, M.AT]) (z.fC h) (by simp only [List.length_append, List.length_cons, Zs.dt, M.DT_len, M.AT_len, M.len_d2]; omega) W hT
theorem Zs.cE (z : Zs) (h : z.ok) {g : List UInt8} (hg : Bl g) : Ofs (bA z.dt ++ ⟨#[84]⟩ ++ bA (M.d2 (z.K / 60)) ++ ⟨#[58]⟩ ++ bA (M.d2 (z.K % 60)) ++ ⟨#[58]⟩ ++ bA (M.d2 z.S) ++ bA g ++ SG z.b ++ bA (T2 (z.P / 60)) ++ ⟨#[58]⟩ ++ bA (M.d2 (z.P % 60))) (bA z.want) := fun W hT =>
  ofB _ _ _ (by simp [bA_toList, SG_list, M.AT]) (z.fE h hg) (by have := hg.2.2; have := T2_len (z.P / 60); simp only [List.length_append, List.length_cons, Zs.dt, M.DT_len, M.AT_len, M.len_d2]; omega) W hT
theorem Zs.cA2 (Y Mo D H N S K P : Nat) (b : Bool) (h : Zs.ok ⟨Y, Mo, D, H, N, S, K, P, b⟩) (g : List UInt8) (hg : Bl g) : Ofs (bA (M.DT Y Mo D) ++ bA g ++ bA (M.AT H N S)) (bA (Zs.want ⟨Y, Mo, D, H, N, S, K, P, b⟩)) := Zs.cA ⟨Y, Mo, D, H, N, S, K, P, b⟩ h hg
theorem Zs.cB2 (Y Mo D H N S K P : Nat) (b : Bool) (h : Zs.ok ⟨Y, Mo, D, H, N, S, K, P, b⟩) (g : List UInt8) (hg : Bl g) : Ofs (bA (M.DT Y Mo D) ++ ⟨#[116]⟩ ++ bA (M.AT H N S) ++ bA g ++ ⟨#[90]⟩) (bA (Zs.want ⟨Y, Mo, D, H, N, S, K, P, b⟩)) := Zs.cB ⟨Y, Mo, D, H, N, S, K, P, b⟩ h hg
theorem Zs.cC2 (Y Mo D H N S K P : Nat) (b : Bool) (h : Zs.ok ⟨Y, Mo, D, H, N, S, K, P, b⟩) (sg : ByteArray) (hs : SG b = sg) : Ofs (bA (M.DT Y Mo D) ++ ⟨#[84]⟩ ++ bA (M.d2 (K / 60)) ++ ⟨#[58]⟩ ++ bA (M.d2 (K % 60)) ++ ⟨#[58]⟩ ++ bA (M.d2 S) ++ sg ++ bA (M.d2 (P / 60)) ++ ⟨#[58]⟩ ++ bA (M.d2 (P % 60))) (bA (Zs.want ⟨Y, Mo, D, H, N, S, K, P, b⟩)) := by
  subst hs; exact Zs.cC ⟨Y, Mo, D, H, N, S, K, P, b⟩ h
theorem Zs.cE2 (Y Mo D H N S K P : Nat) (b : Bool) (h : Zs.ok ⟨Y, Mo, D, H, N, S, K, P, b⟩) (sg : ByteArray) (hs : SG b = sg) (g : List UInt8) (hg : Bl g) : Ofs (bA (M.DT Y Mo D) ++ ⟨#[84]⟩ ++ bA (M.d2 (K / 60)) ++ ⟨#[58]⟩ ++ bA (M.d2 (K % 60)) ++ ⟨#[58]⟩ ++ bA (M.d2 S) ++ bA g ++ sg ++ bA (T2 (P / 60)) ++ ⟨#[58]⟩ ++ bA (M.d2 (P % 60))) (bA (Zs.want ⟨Y, Mo, D, H, N, S, K, P, b⟩)) := by
  subst hs; exact Zs.cE ⟨Y, Mo, D, H, N, S, K, P, b⟩ h hg
theorem Zs.w2 (Y Mo D H N S K P : Nat) (b : Bool) : bA (M.DT Y Mo D) ++ ⟨#[84]⟩ ++ bA (M.AT H N S) ++ ⟨#[90]⟩ = bA (Zs.want ⟨Y, Mo, D, H, N, S, K, P, b⟩) := by
  apply eq_bA
  simp [bA_toList, Zs.want, Zs.dt, Zs.at]
set_option maxRecDepth 100000 in
set_option maxHeartbeats 4000000 in
theorem zones_out (y m d h n s : Nat) (zone : Int) (t : Nat) (w : World) (ht : Tab w) (hy : y ≤ 65535) (hm : m ≤ 255) (hd : d ≤ 255) (hh : h ≤ 255) (hn : n ≤ 255) (hs : s ≤ 255) (hz : -32768 ≤ zone ∧ zone ≤ 32767) (htt : t ≤ 255) (hk : 60 * ((h % 24 : Nat) : Int) + ((n % 60 : Nat) : Int) + Int.tmod zone 1440 < 0 ∨ 1440 ≤ 60 * ((h % 24 : Nat) : Int) + ((n % 60 : Nat) : Int) + Int.tmod zone 1440) :
    Calls Tryd.prog 5 #[.int .u16 y, .int .u8 m, .int .u8 d, .int .u8 h, .int .u8 n, .int .u8 s, .int .i16 zone, .int .u8 t] w fun e w' => e = .returned (.bool true) ∧ Below w.heap.size w w' := by
  obtain ⟨z1, z2⟩ := hz
  obtain ⟨YY, hYY⟩ : ∃ x, y % 9998 = x := ⟨_, rfl⟩
  have y1 : Int.tmod (y : Int) 9998 = (YY : Int) := (md hYY (by omega)).1
  have y2 : (y : Int) % 9998 = (YY : Int) := (md hYY (by omega)).2
  obtain ⟨MM, hMM⟩ : ∃ x, m % 12 = x := ⟨_, rfl⟩
  have m1 : Int.tmod (m : Int) 12 = (MM : Int) := (md hMM (by omega)).1
  have m2 : (m : Int) % 12 = (MM : Int) := (md hMM (by omega)).2
  obtain ⟨H, hH⟩ : ∃ x, h % 24 = x := ⟨_, rfl⟩
  have h1 : Int.tmod (h : Int) 24 = (H : Int) := (md hH (by omega)).1
  have h2 : (h : Int) % 24 = (H : Int) := (md hH (by omega)).2
  obtain ⟨NN, hNN⟩ : ∃ x, n % 60 = x := ⟨_, rfl⟩
  have n1 : Int.tmod (n : Int) 60 = (NN : Int) := (md hNN (by omega)).1
  have n2 : (n : Int) % 60 = (NN : Int) := (md hNN (by omega)).2
  obtain ⟨SS, hSS⟩ : ∃ x, s % 60 = x := ⟨_, rfl⟩
  have s1 : Int.tmod (s : Int) 60 = (SS : Int) := (md hSS (by omega)).1
  have s2 : (s : Int) % 60 = (SS : Int) := (md hSS (by omega)).2
  obtain ⟨TT, hTT⟩ : ∃ x, t % 3 = x := ⟨_, rfl⟩
  have t1 : Int.tmod (t : Int) 3 = (TT : Int) := (md hTT (by omega)).1
  have t2 : (t : Int) % 3 = (TT : Int) := (md hTT (by omega)).2
  obtain ⟨Y, hY⟩ : ∃ x, 1 + YY = x := ⟨_, rfl⟩
  obtain ⟨Mo, hMo⟩ : ∃ x, 1 + MM = x := ⟨_, rfl⟩
  have y3 : (1 : Int) + (YY : Int) = (Y : Int) := by omega
  have m3 : (1 : Int) + (MM : Int) = (Mo : Int) := by omega
  have hdp := M.days_pos (y := Y) (m := Mo) (by omega) (by omega)
  have hdl := M.days_le Y Mo
  have cR := fun W => rdays_nat Y Mo W (by omega)
  obtain ⟨N, hN⟩ : ∃ x, M.days Y Mo = x := ⟨_, rfl⟩
  rw [hN] at cR hdp hdl
  obtain ⟨DD, hDD⟩ : ∃ x, d % N = x := ⟨_, rfl⟩
  have hDl := Nat.mod_lt d (show 0 < N by omega)
  rw [hDD] at hDl
  obtain ⟨d1, d2⟩ := md hDD (by omega)
  obtain ⟨D, hD⟩ : ∃ x, 1 + DD = x := ⟨_, rfl⟩
  have d3 : (1 : Int) + (DD : Int) = (D : Int) := by omega
  have n0 : ((N : Int) == 0) = false := beq_eq_false_iff_ne.2 (by omega)
  have n00 : ¬ (N : Int) = 0 := by omega
  obtain ⟨q, hq⟩ : ∃ q, Y / 100 = q := ⟨_, rfl⟩
  have q1 : (Y : Int) / 100 = (q : Int) := by rw [← hq]; rfl
  have cQ := fun W => two2_any q W (by omega)
  have cM := fun W => two2_any Mo W (by omega)
  have cD := fun W => two2_any D W (by omega)
  have cH := fun W => two2_any H W (by omega)
  have cN := fun W => two2_any NN W (by omega)
  have cS := fun W => two2_any SS W (by omega)
  have cY := fun W => two_any Y W (by omega)
  have hDT : bA (M.d2 q) ++ bA (e2 Y) ++ ⟨#[45]⟩ ++ bA (M.d2 Mo) ++ ⟨#[45]⟩ ++ bA (M.d2 D) = bA (M.DT Y Mo D) := by
    apply eq_bA
    unfold M.DT
    rw [← e2_year Y (by omega), hq, e2_small (n := q) (by omega)]
    simp [bA_toList]
  have hAT : bA (M.d2 H) ++ ⟨#[58]⟩ ++ bA (M.d2 NN) ++ ⟨#[58]⟩ ++ bA (M.d2 SS) = bA (M.AT H NN SS) := by
    apply eq_bA
    simp [bA_toList, M.AT]
  have zDA : (bA (M.DT Y Mo D)).size = 10 := by rw [bA_size, M.DT_len]
  have zTA : (bA (M.AT H NN SS)).size = 8 := by rw [bA_size, M.AT_len]
  have zQ : (bA (M.d2 q)).size = 2 := d2_size _
  have zY : (bA (e2 Y)).size = 2 := e2_size _
  have zM : (bA (M.d2 Mo)).size = 2 := d2_size _
  have zD : (bA (M.d2 D)).size = 2 := d2_size _
  have zH : (bA (M.d2 H)).size = 2 := d2_size _
  have zN : (bA (M.d2 NN)).size = 2 := d2_size _
  have zS : (bA (M.d2 SS)).size = 2 := d2_size _
  obtain ⟨z, hzt⟩ : ∃ z, Int.tmod zone 1440 = z := ⟨_, rfl⟩
  have hzb := Int.tmod_lt_of_pos zone (show (0 : Int) < 1440 by omega)
  have hzb2 : -1440 < z := by have := Int.lt_tmod_of_pos zone (show (0 : Int) < 1440 by omega); omega
  rw [hzt] at hzb
  obtain ⟨kk, hkk⟩ : ∃ kk, 60 * (H : Int) + (NN : Int) + z = kk := ⟨_, rfl⟩
  have hko : kk < 0 ∨ 1440 ≤ kk := by rw [hzt, hH, hNN] at hk; rw [← hkk]; exact hk
  clear hk
  have hHl : H < 24 := by omega
  have hNl : NN < 60 := by omega
  have hMl : Mo ≤ 12 := by omega
  obtain ⟨AQ, eAQ⟩ : ∃ x, bA (M.d2 q) = x := ⟨_, rfl⟩
  obtain ⟨AY, eAY⟩ : ∃ x, bA (e2 Y) = x := ⟨_, rfl⟩
  obtain ⟨AM, eAM⟩ : ∃ x, bA (M.d2 Mo) = x := ⟨_, rfl⟩
  obtain ⟨AD, eAD⟩ : ∃ x, bA (M.d2 D) = x := ⟨_, rfl⟩
  obtain ⟨AH, eAH⟩ : ∃ x, bA (M.d2 H) = x := ⟨_, rfl⟩
  obtain ⟨AN, eAN⟩ : ∃ x, bA (M.d2 NN) = x := ⟨_, rfl⟩
  obtain ⟨AS, eAS⟩ : ∃ x, bA (M.d2 SS) = x := ⟨_, rfl⟩
  obtain ⟨DA, eDA⟩ : ∃ x, bA (M.DT Y Mo D) = x := ⟨_, rfl⟩
  obtain ⟨TA, eTA⟩ : ∃ x, bA (M.AT H NN SS) = x := ⟨_, rfl⟩
  rw [eAQ, eAY, eAM, eAD, eDA] at hDT
  rw [eAH, eAN, eAS, eTA] at hAT
  rw [eDA] at zDA
  rw [eTA] at zTA
  rw [eAQ] at zQ cQ
  rw [eAY] at zY cY
  rw [eAM] at zM cM
  rw [eAD] at zD cD
  rw [eAH] at zH cH
  rw [eAN] at zN cN
  rw [eAS] at zS cS
  clear eAQ eAY eAM eAD eAH eAN eAS eDA eTA
  have a1 : ∀ W, (Op.stringOp .add (AQ) (AY)).run Tryd.prog W = .ok (.string ((AQ) ++ AY)) W := fun W => run_string_add_sum _ _ _ (by have z2 : (⟨#[45]⟩ : ByteArray).size = 1 := rfl; have z4 : (⟨#[45]⟩ : ByteArray).size = 1 := rfl; first | omega | (simp only [append_sz]; omega))
  have a2 : ∀ W, (Op.stringOp .add (AQ ++ AY) (⟨#[45]⟩)).run Tryd.prog W = .ok (.string ((AQ ++ AY) ++ ⟨#[45]⟩)) W := fun W => run_string_add_sum _ _ _ (by have z2 : (⟨#[45]⟩ : ByteArray).size = 1 := rfl; have z4 : (⟨#[45]⟩ : ByteArray).size = 1 := rfl; first | omega | (simp only [append_sz]; omega))
  have a3 : ∀ W, (Op.stringOp .add (AQ ++ AY ++ ⟨#[45]⟩) (AM)).run Tryd.prog W = .ok (.string ((AQ ++ AY ++ ⟨#[45]⟩) ++ AM)) W := fun W => run_string_add_sum _ _ _ (by have z2 : (⟨#[45]⟩ : ByteArray).size = 1 := rfl; have z4 : (⟨#[45]⟩ : ByteArray).size = 1 := rfl; first | omega | (simp only [append_sz]; omega))
  have a4 : ∀ W, (Op.stringOp .add (AQ ++ AY ++ ⟨#[45]⟩ ++ AM) (⟨#[45]⟩)).run Tryd.prog W = .ok (.string ((AQ ++ AY ++ ⟨#[45]⟩ ++ AM) ++ ⟨#[45]⟩)) W := fun W => run_string_add_sum _ _ _ (by have z2 : (⟨#[45]⟩ : ByteArray).size = 1 := rfl; have z4 : (⟨#[45]⟩ : ByteArray).size = 1 := rfl; first | omega | (simp only [append_sz]; omega))
  have a5 : ∀ W, (Op.stringOp .add (AQ ++ AY ++ ⟨#[45]⟩ ++ AM ++ ⟨#[45]⟩) (AD)).run Tryd.prog W = .ok (.string ((AQ ++ AY ++ ⟨#[45]⟩ ++ AM ++ ⟨#[45]⟩) ++ AD)) W := fun W => run_string_add_sum _ _ _ (by have z2 : (⟨#[45]⟩ : ByteArray).size = 1 := rfl; have z4 : (⟨#[45]⟩ : ByteArray).size = 1 := rfl; first | omega | (simp only [append_sz]; omega))
  have a6 : ∀ W, (Op.stringOp .add (AH) (⟨#[58]⟩)).run Tryd.prog W = .ok (.string ((AH) ++ ⟨#[58]⟩)) W := fun W => run_string_add_sum _ _ _ (by have z1 : (⟨#[58]⟩ : ByteArray).size = 1 := rfl; have z3 : (⟨#[58]⟩ : ByteArray).size = 1 := rfl; first | omega | (simp only [append_sz]; omega))
  have a7 : ∀ W, (Op.stringOp .add (AH ++ ⟨#[58]⟩) (AN)).run Tryd.prog W = .ok (.string ((AH ++ ⟨#[58]⟩) ++ AN)) W := fun W => run_string_add_sum _ _ _ (by have z1 : (⟨#[58]⟩ : ByteArray).size = 1 := rfl; have z3 : (⟨#[58]⟩ : ByteArray).size = 1 := rfl; first | omega | (simp only [append_sz]; omega))
  have a8 : ∀ W, (Op.stringOp .add (AH ++ ⟨#[58]⟩ ++ AN) (⟨#[58]⟩)).run Tryd.prog W = .ok (.string ((AH ++ ⟨#[58]⟩ ++ AN) ++ ⟨#[58]⟩)) W := fun W => run_string_add_sum _ _ _ (by have z1 : (⟨#[58]⟩ : ByteArray).size = 1 := rfl; have z3 : (⟨#[58]⟩ : ByteArray).size = 1 := rfl; first | omega | (simp only [append_sz]; omega))
  have a9 : ∀ W, (Op.stringOp .add (AH ++ ⟨#[58]⟩ ++ AN ++ ⟨#[58]⟩) (AS)).run Tryd.prog W = .ok (.string ((AH ++ ⟨#[58]⟩ ++ AN ++ ⟨#[58]⟩) ++ AS)) W := fun W => run_string_add_sum _ _ _ (by have z1 : (⟨#[58]⟩ : ByteArray).size = 1 := rfl; have z3 : (⟨#[58]⟩ : ByteArray).size = 1 := rfl; first | omega | (simp only [append_sz]; omega))
  have a10 : ∀ W, (Op.stringOp .add (DA) (⟨#[84]⟩)).run Tryd.prog W = .ok (.string ((DA) ++ ⟨#[84]⟩)) W := fun W => run_string_add_sum _ _ _ (by have z1 : (⟨#[84]⟩ : ByteArray).size = 1 := rfl; have z3 : (⟨#[90]⟩ : ByteArray).size = 1 := rfl; first | omega | (simp only [append_sz]; omega))
  have a11 : ∀ W, (Op.stringOp .add (DA ++ ⟨#[84]⟩) (TA)).run Tryd.prog W = .ok (.string ((DA ++ ⟨#[84]⟩) ++ TA)) W := fun W => run_string_add_sum _ _ _ (by have z1 : (⟨#[84]⟩ : ByteArray).size = 1 := rfl; have z3 : (⟨#[90]⟩ : ByteArray).size = 1 := rfl; first | omega | (simp only [append_sz]; omega))
  have a12 : ∀ W, (Op.stringOp .add (DA ++ ⟨#[84]⟩ ++ TA) (⟨#[90]⟩)).run Tryd.prog W = .ok (.string ((DA ++ ⟨#[84]⟩ ++ TA) ++ ⟨#[90]⟩)) W := fun W => run_string_add_sum _ _ _ (by have z1 : (⟨#[84]⟩ : ByteArray).size = 1 := rfl; have z3 : (⟨#[90]⟩ : ByteArray).size = 1 := rfl; first | omega | (simp only [append_sz]; omega))
  clear zQ zY zM zD zH zN zS
  have hYl : Y ≤ 9998 := by omega
  have hDl2 : D ≤ 31 := by omega
  have hSl : SS < 60 := by omega
  have hql : q < 100 := by omega
  clear hN hDD hDl hD hY hMo hYY hMM hH hNN hSS hTT hq
  go_enter Tryd.func5, Tryd.ntmps5
  go_wp2_with fail
  refine (known_any _ ht).mono ?_
  rintro r w1 ⟨rfl, hb⟩
  have B1 : Below w.heap.size w w1 := hb
  have T1 : Tab w1 := ht.next B1
  clear hb
  go_wp2_with fail
  refine (cR _).mono ?_
  rintro r w' ⟨rfl, rfl⟩
  go_wp2_with fail
  refine (cQ _).mono ?_
  rintro r w2 ⟨rfl, hb⟩
  have B2 : Below w.heap.size w w2 := B1.trans (hb.mono B1.size)
  have T2 : Tab w2 := ht.next B2
  clear hb B1 T1
  go_wp2_with fail
  refine (cY _).mono ?_
  rintro r w3 ⟨rfl, hb⟩
  have B3 : Below w.heap.size w w3 := B2.trans (hb.mono B2.size)
  have T3 : Tab w3 := ht.next B3
  clear hb B2 T2
  go_wp2_with fail
  refine (cM _).mono ?_
  rintro r w4 ⟨rfl, hb⟩
  have B4 : Below w.heap.size w w4 := B3.trans (hb.mono B3.size)
  have T4 : Tab w4 := ht.next B4
  clear hb B3 T3
  go_wp2_with fail
  refine (cD _).mono ?_
  rintro r w5 ⟨rfl, hb⟩
  have B5 : Below w.heap.size w w5 := B4.trans (hb.mono B4.size)
  have T5 : Tab w5 := ht.next B5
  clear hb B4 T4
  go_wp2_with fail
  refine (cH _).mono ?_
  rintro r w6 ⟨rfl, hb⟩
  have B6 : Below w.heap.size w w6 := B5.trans (hb.mono B5.size)
  have T6 : Tab w6 := ht.next B6
  clear hb B5 T5
  go_wp2_with fail
  refine (cN _).mono ?_
  rintro r w7 ⟨rfl, hb⟩
  have B7 : Below w.heap.size w w7 := B6.trans (hb.mono B6.size)
  have T7 : Tab w7 := ht.next B7
  clear hb B6 T6
  go_wp2_with fail
  refine (cS _).mono ?_
  rintro r w8 ⟨rfl, hb⟩
  have B8 : Below w.heap.size w w8 := B7.trans (hb.mono B7.size)
  have T8 : Tab w8 := ht.next B8
  clear hb B7 T7
  rcases hko with hko | hko
  · have g1 : decide (kk < 0) = true := decide_eq_true (by omega)
    clear hko
    go_wp2
    go_ret
    exact ⟨rfl, B8⟩
  · have g1 : decide (kk < 0) = false := decide_eq_false (by omega)
    have g2 : decide ((1440 : Int) ≤ kk) = true := decide_eq_true hko
    clear hko
    go_wp2
    go_ret
    exact ⟨rfl, B8⟩
end Go.Proofs.YtoidlgopibnaaaaDoor
