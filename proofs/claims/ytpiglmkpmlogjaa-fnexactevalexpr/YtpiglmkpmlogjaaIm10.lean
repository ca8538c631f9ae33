/-
  OUR OWN TEXT. The program's side of Chapter 1: good values.
-/
import Derived.Test.YtpiglmkpmlogjaaSp20
namespace Go.Proofs.Ytpiglmkpmlogjaa
open Go.RowKit

def fGood (f : F) : Bool := decide (1 ≤ f.tag) && (decide (f.tag ≤ 1000000) && (gSym f.cls.data.toList && gSlots f.slots))
theorem fGood_rest {f : F} {x : Bool} (h : 1 ≤ f.tag) (e : fGood f = x) : (decide (f.tag ≤ 1000000) && (gSym f.cls.data.toList && gSlots f.slots)) = x := by
  unfold fGood at e
  rwa [decide_eq_true h, Bool.true_and] at e

set_option maxHeartbeats 800000 in
theorem valGood_any (v : V) (w : World) (hs : v.sym.size ≤ maxLen) :
    Calls Try.prog 207 #[.agg #[.int .i64 v.kind, .int .i64 v.num, .string v.sym]] w fun e w' =>
      e = .returned (.bool (gVal v)) ∧ Below w.heap.size w w' := by
  have B1 : ∀ o, Below w.heap.size w (w.alloc o) := fun o => (Below.refl _ _).alloc (Nat.le_refl _) _
  obtain ⟨G⟩ : Nonempty (Hid (gVal v = ((v.kind == 0 && v.sym.toList.isEmpty) || (v.kind == 1 && (v.num == 0 && gSym v.sym.data.toList))))) := ⟨rfl⟩
  have hg := goodSymbol_any v.sym (w.alloc (.cells #[.int .i64 v.kind, .int .i64 v.num, .string v.sym] 120)) hs
  have hx : Hid ((v.kind == 0) = true → (v.kind == 1) = false) := fun h => by simp at h; simp [h]
  cases h1 : (v.kind == 0) <;> cases h2 : v.sym.toList.isEmpty <;> cases h3 : (v.kind == 1) <;> cases h4 : (v.num == 0)
  all_goals
    first
    | (exfalso; have := hx.out h1; rw [h3] at this; cases this; done)
    | (go_enter Try.func207, Try.ntmps207
       go_wp2_with (go_at_call 189; refine hg.mono ?_; rintro e w' ⟨rfl, rfl⟩)
       go_ret
       exact ⟨ret_bool (by rw [G.out, h1, h2, h3, h4]; simp), B1 _⟩)
end Go.Proofs.Ytpiglmkpmlogjaa
