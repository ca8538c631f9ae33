/-
  OUR OWN TEXT. The model's StoreValid.
-/
import Derived.Test.YtofmgaebgojonaaSpec3
namespace Go.Proofs.Ytofmgaebgojonaa
open Go.RowKit

theorem sHead_cases (fs : List F) (nx cp : Int) : sHead fs nx cp = false →
    (cp < 0) ∨ (0 ≤ cp ∧ 40 < cp) ∨ (0 ≤ cp ∧ cp ≤ 40 ∧ cp < fs.length) ∨ (0 ≤ cp ∧ cp ≤ 40 ∧ (fs.length : Int) ≤ cp ∧ gFacts fs = false) ∨ (0 ≤ cp ∧ cp ≤ 40 ∧ (fs.length : Int) ≤ cp ∧ gFacts fs = true ∧ nx < 1) ∨ (0 ≤ cp ∧ cp ≤ 40 ∧ (fs.length : Int) ≤ cp ∧ gFacts fs = true ∧ 1 ≤ nx ∧ 1000001 < nx) := by
  intro h
  unfold sHead at h
  cases hg : gFacts fs
  · simp only [hg, Bool.false_and, Bool.and_false] at h
    simp only [Bool.false_eq_true, false_and, and_false, or_false, and_true]
    omega
  · simp only [hg, Bool.true_and, Bool.and_eq_false_iff, decide_eq_false_iff_not] at h
    simp only [true_and]
    omega

set_option maxHeartbeats 1600000 in
theorem sStoreValid_bad (a : Option Addr) (c : Nat) (fs : List F) (nx cp : Int) (sg : Bool) (w : World) (hv : FactsAt w a fs) (hl : fs.length ≤ 1048576) (hs : ∀ f ∈ fs, Sized f) (hh : sHead fs nx cp = false) :
    Calls Try.prog 12 #[.agg #[.slice a fs.length c, .int .i64 nx, .int .i64 cp, .bool sg]] w fun e w' =>
      e = .returned (.bool (sValid fs nx cp sg)) ∧ Below w.heap.size w w' := by
  have HR : Hid (sValid fs nx cp sg = false) := by unfold sValid; rw [hh]; exact rfl
  have B1 : ∀ o, Below w.heap.size w (w.alloc o) := fun o => (Below.refl _ _).alloc (Nat.le_refl _) _
  rcases sHead_cases fs nx cp hh with h1 | ⟨h1, h2⟩ | ⟨h1, h2, h3⟩ | ⟨h1, h2, h3, h4⟩ | ⟨h1, h2, h3, h4, h5⟩ | ⟨h1, h2, h3, h4, h5, h6⟩
  all_goals
    clear hh
    go_enter Try.func12, Try.ntmps12
    go_wp2_with (go_at_call 65; refine (l1GoodFacts_any a c fs _ (hv.below (B1 _)) hl hs).mono ?_; rintro e w' ⟨rfl, hb'⟩; obtain ⟨hc, hf⟩ := bcell hb')
    go_ret
    first
    | exact ⟨ret_bool HR.out.symm, B1 _⟩
    | exact ⟨ret_bool HR.out.symm, (B1 _).trans (hb'.mono (by simp))⟩

end Go.Proofs.Ytofmgaebgojonaa
