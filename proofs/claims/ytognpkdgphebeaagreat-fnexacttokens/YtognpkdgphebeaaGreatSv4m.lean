/-
  OUR OWN TEXT. What a law of one rule and facts asks of sizes.
-/
import Derived.Test.YtognpkdgphebeaaGreatUj
import Derived.Test.YtognpkdgphebeaaGreatUk
import Derived.Test.YtognpkdgphebeaaGreatKd
import Derived.Test.YtognpkdgphebeaaGreatKf
import Derived.Test.YtognpkdgphebeaaGreatKe
namespace Go.Proofs.YtognpkdgphebeaaGreat
open Go.RowKit

theorem le_sum {α : Type} (g : α → Nat) (l : List α) (x : α) (h : x ∈ l) : g x ≤ (l.map g).sum := by
  induction l with
  | nil => simp at h
  | cons y r ih =>
    simp only [List.map_cons, List.sum_cons]
    rcases List.mem_cons.1 h with rfl | h
    · omega
    · have := ih h
      omega
theorem szVs_le {vs : List V} {N : Nat} (h : szVs vs ≤ N) : vs.length ≤ N ∧ ∀ v ∈ vs, v.sym.size ≤ N := by
  unfold szVs at h
  refine ⟨by omega, fun v hv => ?_⟩
  have := le_sum szV vs v hv
  have e : szV v = v.sym.size := rfl
  omega
theorem szFs_le {fs : List F} {N : Nat} (h : szFs fs ≤ N) : fs.length ≤ N ∧ ∀ f ∈ fs, f.cls.size ≤ N ∧ f.slots.length ≤ N ∧ ∀ v ∈ f.slots, v.sym.size ≤ N := by
  unfold szFs at h
  refine ⟨by omega, fun f hf => ?_⟩
  have h1 := le_sum szF fs f hf
  have e : szF f = f.cls.size + szVs f.slots := rfl
  exact ⟨by omega, szVs_le (by omega)⟩
theorem sized_of {fs : List F} (h : szFs fs ≤ 1048576) : ∀ f ∈ fs, Sized f := fun f hf => by
  obtain ⟨h1, h2, h3⟩ := (szFs_le h).2 f hf
  refine ⟨by unfold maxLen; omega, h2, fun v hv => ?_⟩
  have := h3 v hv
  unfold maxLen
  omega
/-- Slots of facts that an argument holds. -/
theorem Arg.sizes {fs : List F} (h : Arg fs) : ∀ f ∈ fs, f.cls.size ≤ maxLen ∧ f.slots.length ≤ maxLen ∧ ∀ v ∈ f.slots, v.sym.size ≤ maxLen := fun f hf => ⟨(h.2 f hf).1, (h.2 f hf).2.1, fun v hv => ((h.2 f hf).2.2.2 v hv).2.2⟩
end Go.Proofs.YtognpkdgphebeaaGreat
