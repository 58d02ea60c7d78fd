/- The law Num12Parts, put together. -/
import Derived.Test.YtocegiffbgnogaaDoorQd
import Derived.Test.YtocegiffbgnogaaDoorQe
import Derived.Test.YtocegiffbgnogaaDoorQf
set_option linter.unusedVariables false
namespace Go.Proofs.YtocegiffbgnogaaDoor
open Go.RowKit

theorem headB (neg : Bool) : ∃ HB : ByteArray, (neg = true ∧ HB = ⟨#[45]⟩) ∨ (neg = false ∧ HB = ⟨#[]⟩) := by
  cases neg
  · exact ⟨_, Or.inr ⟨rfl, rfl⟩⟩
  · exact ⟨_, Or.inl ⟨rfl, rfl⟩⟩
theorem parts_core (s f e : ByteArray) (neg Dn PT PW U : Bool) (w : World) (he : Env w) (h1 : s.size ≤ 30) (h2 : f.size ≤ 30) (h3 : 1 ≤ e.size) (h4 : e.size ≤ 30) (h5 : 1 ≤ s.size + f.size) (h6 : PT = false → 1 ≤ s.size) (h7 : PT = false → PW = true) :
    Calls Tryd.prog 6 #[.string s, .string f, .string e, .bool neg, .bool Dn, .bool PT, .bool PW, .bool U] w fun e w' => e = .returned (.bool true) ∧ Below w.heap.size w w' := by
  have cW := fun W => digits_any s W (by omega)
  have cF := fun W => digits_any f W (by omega)
  have cE := fun W => digits_any e W (by omega)
  have lW : (digs s.data.toList).length = s.size := by rw [digs_length, ← sz_list]
  have lF : (digs f.data.toList).length = f.size := by rw [digs_length, ← sz_list]
  have lE : (digs e.data.toList).length = e.size := by rw [digs_length, ← sz_list]
  have aW := digs_all s.data.toList
  have aF := digs_all f.data.toList
  have aE := digs_all e.data.toList
  generalize digs s.data.toList = Wl at *
  generalize digs f.data.toList = Fl at *
  generalize digs e.data.toList = El at *
  have zW : (bA Wl).size ≤ 30 := by rw [bA_size]; omega
  have zF : (bA Fl).size ≤ 30 := by rw [bA_size]; omega
  have zE : (bA El).size ≤ 30 := by rw [bA_size]; omega
  have hEok : M.okD 10 El = true := (M.okD_iff _ _).2 ⟨fun k => by rw [k] at lE; simp at lE; omega, aE⟩
  have hne : Wl ++ Fl ≠ [] := by
    intro k
    have := congrArg List.length k
    rw [List.length_append, List.length_nil] at this
    omega
  obtain ⟨HB, hH⟩ := headB neg
  obtain ⟨SG, hSG, hpw, hSGs⟩ := pow_say Dn U El hEok
  have cN := fun W => rnorm_list Dn El W hEok (by omega)
  have hSGl : SG.data.toList.length ≤ 1 := by rw [← sz_list]; exact hSGs
  cases PT
  · obtain rfl := h7 rfl
    have hWn : Wl ≠ [] := by intro k; have := h6 rfl; rw [k] at lW; simp at lW; omega
    have hSS : (bA Wl ++ ⟨#[101]⟩ ++ SG ++ bA El).data.toList = Wl ++ 101 :: (SG.data.toList ++ El) := by
      rw [append_list, append_list, append_list, bA_toList, bA_toList]; simp
    obtain ⟨k, n, D, E, cM, cO, cI, cG⟩ := parts_say neg HB _ _ Wl [] (101 :: (SG.data.toList ++ El)) _ hH hSS (Or.inr ⟨rfl, rfl, by simp, hWn⟩) aW rfl (by simpa using hWn) hpw (by simp only [append_sz]; show _ + 1 + _ + _ ≤ 100; omega) (by omega) (by decide) (by simp; omega)
    exact parts_e s f e neg Dn U w he h1 h2 h3 h4 (h6 rfl) (bA Wl) (bA Fl) (bA El) _ SG HB k n D E zW zF zE hH hSG cW cF cE cN cM cO cI cG
  · cases PW
    · have hSS : (bA Wl ++ ⟨#[46]⟩ ++ bA Fl).data.toList = Wl ++ 46 :: (Fl ++ []) := by
        rw [append_list, append_list, bA_toList, bA_toList]; simp
      obtain ⟨k, n, D, E, cM, cO, cI, cG⟩ := parts_say neg HB _ _ Wl Fl [] 0 hH hSS (Or.inl rfl) aW aF hne rfl (by simp only [append_sz]; show _ + 1 + _ ≤ 100; omega) (by omega) (by omega) (by decide)
      rw [tx0] at cM
      exact parts_p s f e neg Dn U w he h1 h2 h3 h4 h5 (bA Wl) (bA Fl) (bA El) _ SG HB k n D E zW zF zE hH hSG cW cF cE cN cM cO cI cG
    · have hSS : (bA Wl ++ ⟨#[46]⟩ ++ bA Fl ++ ⟨#[101]⟩ ++ SG ++ bA El).data.toList = Wl ++ 46 :: (Fl ++ 101 :: (SG.data.toList ++ El)) := by
        rw [append_list, append_list, append_list, append_list, append_list, bA_toList, bA_toList, bA_toList]; simp
      obtain ⟨k, n, D, E, cM, cO, cI, cG⟩ := parts_say neg HB _ _ Wl Fl (101 :: (SG.data.toList ++ El)) _ hH hSS (Or.inl rfl) aW aF hne hpw (by simp only [append_sz]; show _ + 1 + _ + 1 + _ + _ ≤ 100; omega) (by omega) (by omega) (by simp; omega)
      exact parts_pp s f e neg Dn U w he h1 h2 h3 h4 h5 (bA Wl) (bA Fl) (bA El) _ SG HB k n D E zW zF zE hH hSG cW cF cE cN cM cO cI cG
theorem partsL_any (s f e : ByteArray) (neg Dn PT PW U : Bool) (w : World) (he : Env w) (hs : s.size ≤ maxLen) (hf : f.size ≤ maxLen) (hee : e.size ≤ maxLen) :
    Calls Tryd.prog 6 #[.string s, .string f, .string e, .bool neg, .bool Dn, .bool PT, .bool PW, .bool U] w fun e w' => e = .returned (.bool true) ∧ Below w.heap.size w w' := by
  by_cases h : 30 < s.size ∨ 30 < f.size ∨ e.size < 1 ∨ 30 < e.size ∨ (PT = false ∧ s.size = 0) ∨ s.size + f.size = 0 ∨ (PT = false ∧ PW = false)
  · exact parts_short s f e neg Dn PT PW U w he hs hf hee h
  · refine parts_core s f e neg Dn PT PW U w he (by omega) (by omega) (by omega) (by omega) (by omega) (fun k => ?_) (fun k => ?_)
    · have : ¬ (PT = false ∧ s.size = 0) := fun q => h (by simp [q])
      have : s.size ≠ 0 := fun q => this ⟨k, q⟩
      omega
    · cases PW
      · exact absurd (by simp [k]) h
      · rfl
end Go.Proofs.YtocegiffbgnogaaDoor
