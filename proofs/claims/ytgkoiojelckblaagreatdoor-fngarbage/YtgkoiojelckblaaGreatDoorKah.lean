/-
  OUR OWN TEXT. Sp10, Sp20, one behind the other.
-/
import Derived.Test.YtgkoiojelckblaaGreatDoorSym
import Derived.Test.YtgkoiojelckblaaGreatDoorKae
import Derived.Deep.RegionHeld3
import Derived.Deep.DrawnRows
namespace Go.Proofs.YtgkoiojelckblaaGreatDoor
open Go.RowKit
attribute [local go_sem ↓] Go.wp_at_zero Go.wp_at_succ

set_option maxHeartbeats 800000 in
theorem l1GoodVal_any (v : V) (w : World) (hs : v.sym.size ≤ maxLen) :
    Calls Tryz.prog 152 #[.agg #[.int .i64 v.kind, .int .i64 v.num, .string v.sym]] w fun e w' =>
      e = .returned (.bool (gVal v)) ∧ Below w.heap.size w w' := by
  have B1 : ∀ o, Below w.heap.size w (w.alloc o) := fun o => (Below.refl _ _).alloc (Nat.le_refl _) _
  obtain ⟨G⟩ : Nonempty (Hid (gVal v = ((v.kind == 0 && v.sym.toList.isEmpty) || (v.kind == 1 && (v.num == 0 && gSym v.sym.data.toList))))) := ⟨rfl⟩
  have hg := l1GoodSym_any v.sym (w.alloc (.cells #[.int .i64 v.kind, .int .i64 v.num, .string v.sym] 47)) hs
  cases h1 : (v.kind == 0) <;> cases h2 : v.sym.toList.isEmpty <;> cases h3 : (v.kind == 1) <;> cases h4 : (v.num == 0)
  all_goals
    go_enter Tryz.func152, Tryz.ntmps152
    go_wp2_with (go_at_call 94; refine hg.mono ?_; rintro e w' ⟨rfl, rfl⟩)
  all_goals try go_ret
  all_goals exact ⟨ret_bool (by rw [G.out, h1, h2, h3, h4]; simp), B1 _⟩
end Go.Proofs.YtgkoiojelckblaaGreatDoor

namespace Go.Proofs.YtgkoiojelckblaaGreatDoor
open Go.RowKit
attribute [local go_sem ↓] Go.wp_at_zero Go.wp_at_succ

theorem bytes_beq {a b : ByteArray} : (a.toList == b.toList) = decide (a = b) := by
  rw [← beq_toListBytes]
  by_cases h : a = b
  · subst h
    rw [beq_toListBytes]
    simp
  · rw [decide_eq_false h, beq_toListBytes]
    simp only [beq_eq_false_iff_ne, ne_eq, ByteArray.toList_eq]
    intro e
    exact h (Go.WideShapes.bytes_inj e)

end Go.Proofs.YtgkoiojelckblaaGreatDoor
