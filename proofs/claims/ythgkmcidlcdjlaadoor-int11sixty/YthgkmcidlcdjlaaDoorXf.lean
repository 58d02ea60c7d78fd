/- Walks: ReplaceAll and Cut off the shelf; worth, sixties. -/
import Derived.Test.YthgkmcidlcdjlaaDoorXo
import Derived.Test.YthgkmcidlcdjlaaDoorShelf
set_option linter.unusedVariables false
namespace Go.Proofs.YthgkmcidlcdjlaaDoor
open Go.RowKit

/-- What the walks ask of the world: that the library's variable MaxLen holds some number. -/
def Env (w : World) : Prop := ∃ m, w.cell? ⟨0, 0, none⟩ = some (.int .i64 m)
theorem cell_lt {w : World} {v : Value} (h : w.cell? ⟨0, 0, none⟩ = some v) : 0 < w.heap.size := by
  rcases Nat.eq_zero_or_pos w.heap.size with h0 | h0
  · have : w.heap[0]? = none := Array.getElem?_eq_none (by omega)
    simp [World.cell?, this] at h
  · exact h0
theorem Env.next {w w' : World} (h : Env w) (hb : Below w.heap.size w w') : Env w' := by
  obtain ⟨m, hm⟩ := h
  exact ⟨m, (hb.cell (p := ⟨0, 0, none⟩) (cell_lt hm)).trans hm⟩
theorem env_new {w : World} (h : Env w) (o : Obj) : Env (w.alloc o) := h.next ((Below.refl w.heap.size w).alloc (Nat.le_refl _) o)

theorem Tryd.extra155 : Builder.Extra Tryd.prog Tryd.lays155_ren := {
  sizeBuilder := by kernel_rfl
  liesBuilder := by kernel_rfl
  t5 := Tryd.underlying5
  a5 := Tryd.isAgg5
  z5 := Tryd.sizeOf5
  v5 := Tryd.zeroValue5
  infoByte := by kernel_rfl
  cellsByte := by kernel_rfl
  sizeByte := by kernel_rfl
  neB5 := by decide }
theorem rep_any (s : ByteArray) (w : World) (he : Env w) (hs : s.size ≤ 1000) :
    Calls Tryd.prog 19 #[.string s, .string ⟨#[95]⟩, .string ⟨#[]⟩] w fun e w' => e = .returned (.string (bA (M.gone s.data.toList))) ∧ Below w.heap.size w w' := by
  obtain ⟨m, hm⟩ := he
  have h := Any.strings_ReplaceAll Tryd.lays155 Tryd.extra155 s ⟨#[95]⟩ ⟨#[]⟩ m w (by omega) hm (by decide) (by show s.size + _ * 0 ≤ _; omega)
  refine h.mono ?_
  rintro e w' ⟨rfl, hb⟩
  refine ⟨ret_str ?_, hb⟩
  show bA (Lib.replaceAll s.data.toList [95] []) = _
  rw [M.replace_gone]
theorem cut58_any (l P r : List UInt8) (b : Bool) (w : World) (he : Env w) (hs : l.length ≤ 1000) (hc : Lib.cut l [58] = (P, r, b)) :
    Calls Tryd.prog 46 #[.string (bA l), .string ⟨#[58]⟩] w fun e w' => e = .returned (.tuple #[.string (bA P), .string (bA r), .bool b]) ∧ Below w.heap.size w w' := by
  obtain ⟨m, hm⟩ := he
  have h := Any.strings_Cut Tryd.lays145 (bA l) ⟨#[58]⟩ m w (by rw [bA_size]; omega) hm
  refine h.mono ?_
  rintro e w' ⟨rfl, n, rfl⟩
  refine ⟨?_, below_dN (Below.refl _ _) n⟩
  rw [bA_toList]
  show Ending.returned (.tuple #[.string (bA (Lib.cut l [58]).1), .string (bA (Lib.cut l [58]).2.1), .bool (Lib.cut l [58]).2.2]) = _
  rw [hc]

set_option maxRecDepth 100000 in
set_option maxHeartbeats 1000000 in
theorem worth_any (s : ByteArray) (w : World) (h : M.pr s.data.toList = true) :
    Calls Tryd.prog 47 #[.string s] w fun e w' => e = .returned (.int .i64 (M.val 10 s.data.toList : Nat)) ∧ w = w' := by
  obtain ⟨h1, h2, h3, h4, h5⟩ := M.pr_facts h
  have hd := ((M.okD_iff _ _).1 h1).2
  rw [← sz_list] at h2
  obtain ⟨R, hR⟩ : ∃ R, M.val 10 s.data.toList = R := ⟨_, rfl⟩
  rw [hR]
  have HR := Lib.hid hR
  have HD := Lib.hid hd
  clear hR h h1 h3 h4 h5 hd
  go_enter Tryd.func47, Tryd.ntmps47
  go_wp2
  go_loop [3, 7] (fun nv iv => ∃ k n : Nat, iv = .int .i64 k ∧ nv = .int .i64 n ∧ k ≤ s.size ∧ n < 1000 ∧ Hid (M.val 10 (s.data.toList.take k) = n)) (fun _ iv => s.size - (intOf iv).toNat)
  case atStart => exact ⟨0, 0, rfl, rfl, Nat.zero_le _, by omega, rfl⟩
  case round =>
    obtain ⟨k, n, rfl, rfl, hk, hn, hst⟩ := hrel
    by_cases hlt : k < s.size
    · have hltd : decide (k < s.size) = true := by simpa using hlt
      have hdv : M.dv s[k] < 10 := (M.allD_iff _ _).1 HD.out _ (List.mem_of_getElem? (get_list s k hlt))
      obtain ⟨g1, g2, g3⟩ := M.dv_lt10 hdv
      have hvs := M.val_snoc 10 (s.data.toList.take k) s[k]
      rw [← take_snoc s k hlt, hst.out, g3] at hvs
      have hal : M.allD 10 (s.data.toList.take (k + 1)) = true := by
        rw [M.allD_iff]; intro c hc; exact (M.allD_iff _ _).1 HD.out c (List.mem_of_mem_take hc)
      have hvl := M.val_lt 10 _ hal
      have hle : (s.data.toList.take (k + 1)).length ≤ 2 := by rw [List.length_take]; omega
      have hvl2 : M.val 10 (s.data.toList.take (k + 1)) < 100 := Nat.lt_of_lt_of_le hvl (Nat.pow_le_pow_right (by omega) hle)
      rw [hvs] at hvl2
      have HS := Lib.hid hvs
      clear hvs hvl hdv g3 hst hal hle
      obtain ⟨m, hm⟩ : ∃ m, s[k].toNat = 48 + m := ⟨s[k].toNat - 48, by omega⟩
      rw [hm, Nat.add_sub_cancel_left] at hvl2 HS
      rw [hm] at g1 g2
      go_wp2
      go_round
      case rel => exact ⟨k + 1, n * 10 + m, by go_num, by go_num, by omega, by omega, HS.out⟩
      case measure => simp [intOf]; omega
    · obtain rfl : k = s.size := by omega
      have hltd : decide (s.size < s.size) = false := by simp
      have h1 := hst.out
      rw [take_all, HR.out] at h1
      subst h1
      clear hst
      go_wp2
      go_ret
      exact ⟨rfl, rfl⟩
end Go.Proofs.YthgkmcidlcdjlaaDoor
