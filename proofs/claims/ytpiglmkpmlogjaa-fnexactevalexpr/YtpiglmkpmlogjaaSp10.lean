/-
  OUR OWN TEXT. The model's side of Chapter 1: good values.
-/
import Derived.Test.YtpiglmkpmlogjaaSym
import Derived.Test.YtpiglmkpmlogjaaVal
import Derived.Deep.RegionHeld3
import Derived.Deep.DrawnRows
namespace Go.Proofs.Ytpiglmkpmlogjaa
open Go.RowKit
attribute [local go_sem ↓] Go.wp_at_zero Go.wp_at_succ

set_option maxHeartbeats 800000 in
theorem l1GoodVal_any (v : V) (w : World) (hs : v.sym.size ≤ maxLen) :
    Calls Try.prog 146 #[.agg #[.int .i64 v.kind, .int .i64 v.num, .string v.sym]] w fun e w' =>
      e = .returned (.bool (gVal v)) ∧ Below w.heap.size w w' := by
  have B1 : ∀ o, Below w.heap.size w (w.alloc o) := fun o => (Below.refl _ _).alloc (Nat.le_refl _) _
  obtain ⟨G⟩ : Nonempty (Hid (gVal v = ((v.kind == 0 && v.sym.toList.isEmpty) || (v.kind == 1 && (v.num == 0 && gSym v.sym.data.toList))))) := ⟨rfl⟩
  have hg := l1GoodSym_any v.sym (w.alloc (.cells #[.int .i64 v.kind, .int .i64 v.num, .string v.sym] 120)) hs
  cases h1 : (v.kind == 0) <;> cases h2 : v.sym.toList.isEmpty <;> cases h3 : (v.kind == 1) <;> cases h4 : (v.num == 0)
  all_goals
    go_enter Try.func146, Try.ntmps146
    go_wp2_with (go_at_call 86; refine hg.mono ?_; rintro e w' ⟨rfl, rfl⟩)
  all_goals try go_ret
  all_goals exact ⟨ret_bool (by rw [G.out, h1, h2, h3, h4]; simp), B1 _⟩
end Go.Proofs.Ytpiglmkpmlogjaa
