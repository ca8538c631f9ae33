/-
  OUR OWN TEXT. The program's Store.valid.
-/
import Derived.Test.YtofmgaebgojonaaUnl
import Derived.Test.YtofmgaebgojonaaImpl1
import Derived.Test.YtofmgaebgojonaaSpec5
import Derived.Deep.RegionHeld3
import Derived.Deep.QuietTactic
import Derived.BigQuiet
import Derived.Deep.DrawnRows
namespace Go.Proofs.Ytofmgaebgojonaa
open Go.RowKit
attribute [local go_sem ↓] Go.wp_at_zero Go.wp_at_succ

/-- Numbers that are read are numbers of their kind. -/
def Read (f : F) : Prop := (Lit.int .i64 f.tag).wf = true ∧ ∀ v ∈ f.slots, VOk v

theorem kok_of {fs : List F} {last : Int} (hs : ∀ f ∈ fs, Sized f) (hr : ∀ f ∈ fs, Read f) (hg : gFrom last fs = true) : ∀ f ∈ fs, KOk f := by
  induction fs generalizing last with
  | nil => intro f hf; simp at hf
  | cons g r ih =>
    intro f hf
    simp only [gFrom, okF, gSlots, Bool.and_eq_true, decide_eq_true_eq] at hg
    rcases List.mem_cons.1 hf with rfl | hm
    · exact ⟨(hs f (by simp)).1, hg.1.2.2.2.1, (hr f (by simp)).2⟩
    · exact ih (fun x hx => hs x (by simp [hx])) (fun x hx => hr x (by simp [hx])) hg.2 f hm

set_option maxHeartbeats 1600000 in
theorem valid_bad (a : Option Addr) (c : Nat) (fs : List F) (nx cp : Int) (sg : Bool) (w : World) (hv : FactsAt w a fs) (hl : fs.length ≤ 1048576) (hs : ∀ f ∈ fs, Sized f) (hh : sHead fs nx cp = false) :
    Calls Try.prog 67 #[.agg #[.slice a fs.length c, .int .i64 nx, .int .i64 cp, .bool sg]] w fun e w' =>
      e = .returned (.bool (iValid fs nx cp sg)) ∧ Below w.heap.size w w' := by
  have HR : Hid (iValid fs nx cp sg = false) := by unfold iValid; rw [hh]; exact rfl
  have B1 : ∀ o, Below w.heap.size w (w.alloc o) := fun o => (Below.refl _ _).alloc (Nat.le_refl _) _
  have hcs : cp < 0 ∨ (0 ≤ cp ∧ 40 < cp) ∨ (0 ≤ cp ∧ cp ≤ 40 ∧ cp < fs.length) ∨ (0 ≤ cp ∧ cp ≤ 40 ∧ (fs.length : Int) ≤ cp ∧ nx < 1) ∨ (0 ≤ cp ∧ cp ≤ 40 ∧ (fs.length : Int) ≤ cp ∧ 1 ≤ nx ∧ 1000001 < nx) ∨ (0 ≤ cp ∧ cp ≤ 40 ∧ (fs.length : Int) ≤ cp ∧ 1 ≤ nx ∧ nx ≤ 1000001 ∧ gFacts fs = false) := by
    rcases sHead_cases fs nx cp hh with h | h | h | ⟨h1, h2, h3, h4⟩ | ⟨h1, h2, h3, _, h5⟩ | ⟨h1, h2, h3, _, h5, h6⟩
    · omega
    · omega
    · omega
    · by_cases h5 : nx < 1
      · omega
      · by_cases h6 : 1000001 < nx
        · omega
        · exact .inr (.inr (.inr (.inr (.inr ⟨h1, h2, h3, by omega, by omega, h4⟩))))
    · omega
    · omega
  clear hh
  rcases hcs with h1 | ⟨h1, h2⟩ | ⟨h1, h2, h3⟩ | ⟨h1, h2, h3, h4⟩ | ⟨h1, h2, h3, h4, h5⟩ | ⟨h1, h2, h3, h4, h5, h6⟩
  all_goals
    go_enter Try.func67, Try.ntmps67
    go_wp2_with (go_at_call 108; refine (goodFacts_any a c fs _ (hv.below (B1 _)) hl hs).mono ?_; rintro e w' ⟨rfl, hb'⟩; obtain ⟨hc, hf⟩ := bcell hb')
    go_ret
    first
    | exact ⟨ret_bool HR.out.symm, B1 _⟩
    | exact ⟨ret_bool HR.out.symm, (B1 _).trans (hb'.mono (by simp))⟩

end Go.Proofs.Ytofmgaebgojonaa
