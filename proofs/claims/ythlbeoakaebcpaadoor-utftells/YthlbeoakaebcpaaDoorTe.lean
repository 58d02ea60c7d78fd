/- Walks of the document's answers (targumref1), on: Utf8, units. -/
import Derived.Test.YthlbeoakaebcpaaDoorLe
namespace Go.Proofs.YthlbeoakaebcpaaDoor
open Go.RowKit

/-- New memory that holds these bytes. -/
def NewB (L : List UInt8) (w : World) (r : Ending) (w' : World) : Prop :=
  ∃ g, r = .returned (.slice (some ⟨g, 0, none⟩) L.length L.length) ∧ w.heap.size ≤ g ∧ g < w'.heap.size ∧ HasBytes w' g 0 L ∧ Below w.heap.size w w'

theorem newB_lit (w : World) (L : List UInt8) (cells : Array Value) (h : cells = (L.map bcell).toArray) (r : Ending) (hr : r = .returned (.slice (some ⟨w.heap.size, 0, none⟩) L.length L.length)) : NewB L w r (w.alloc (.cells cells 5)) := by
  subst h hr
  exact ⟨w.heap.size, rfl, Nat.le_refl _, by simp, HasBytes.lit w L, (Below.refl _ _).alloc (Nat.le_refl _) _⟩

theorem cells1 {a : Int} {x : Nat} (h : a = ((x % 256 : Nat) : Int)) : #[Value.int .u8 a] = ([M.u8 x].map bcell).toArray := by rw [int_u8 h]; rfl
theorem cells2 {a b : Int} {x y : Nat} (h : a = ((x % 256 : Nat) : Int)) (k : b = ((y % 256 : Nat) : Int)) : #[Value.int .u8 a, Value.int .u8 b] = ([M.u8 x, M.u8 y].map bcell).toArray := by rw [int_u8 h, int_u8 k]; rfl
theorem cells3 {a b c : Int} {x y z : Nat} (h : a = ((x % 256 : Nat) : Int)) (k : b = ((y % 256 : Nat) : Int)) (m : c = ((z % 256 : Nat) : Int)) : #[Value.int .u8 a, Value.int .u8 b, Value.int .u8 c] = ([M.u8 x, M.u8 y, M.u8 z].map bcell).toArray := by rw [int_u8 h, int_u8 k, int_u8 m]; rfl
theorem cells4 {a b c d : Int} {x y z u : Nat} (h : a = ((x % 256 : Nat) : Int)) (k : b = ((y % 256 : Nat) : Int)) (m : c = ((z % 256 : Nat) : Int)) (q : d = ((u % 256 : Nat) : Int)) : #[Value.int .u8 a, Value.int .u8 b, Value.int .u8 c, Value.int .u8 d] = ([M.u8 x, M.u8 y, M.u8 z, M.u8 u].map bcell).toArray := by rw [int_u8 h, int_u8 k, int_u8 m, int_u8 q]; rfl

set_option maxRecDepth 100000 in
set_option maxHeartbeats 2000000 in
theorem rutf8_any (c : Nat) (w : World) (hc : c ≤ 1114111) :
    Calls Tryd.prog 29 #[.int .i64 c] w fun r w' => NewB (M.utf8 c) w r w' := by
  have hcz : (c : Int) ≤ 1114111 := by omega
  unfold M.utf8
  by_cases h1 : c < 128
  · rw [if_pos h1]
    have d1 : decide ((c : Int) < 128) = true := by simp; omega
    have h1z : (c : Int) < 128 := by omega
    clear h1 hc hcz
    go_enter Tryd.func29, Tryd.ntmps29
    go_wp2
    go_ret
    exact newB_lit w _ _ (cells1 (by omega)) _ rfl
  rw [if_neg h1]
  have d1 : decide ((c : Int) < 128) = false := by simp; omega
  clear h1
  by_cases h2 : c < 2048
  · rw [if_pos h2]
    have d2 : decide ((c : Int) < 2048) = true := by simp; omega
    have h1z : (c : Int) < 2048 := by omega
    clear h2 hc hcz
    go_enter Tryd.func29, Tryd.ntmps29
    go_wp2
    go_ret
    exact newB_lit w _ _ (cells2 (by omega) (by omega)) _ rfl
  rw [if_neg h2]
  have d2 : decide ((c : Int) < 2048) = false := by simp; omega
  clear h2
  by_cases h3 : c < 65536
  · rw [if_pos h3]
    have d3 : decide ((c : Int) < 65536) = true := by simp; omega
    have h1z : (c : Int) < 65536 := by omega
    clear h3 hc hcz
    go_enter Tryd.func29, Tryd.ntmps29
    go_wp2
    go_ret
    exact newB_lit w _ _ (cells3 (by omega) (by omega) (by omega)) _ rfl
  rw [if_neg h3]
  have d3 : decide ((c : Int) < 65536) = false := by simp; omega
  clear h3
  go_enter Tryd.func29, Tryd.ntmps29
  go_wp2
  go_ret
  exact newB_lit w _ _ (cells4 (by omega) (by omega) (by omega) (by omega)) _ rfl

end Go.Proofs.YthlbeoakaebcpaaDoor
