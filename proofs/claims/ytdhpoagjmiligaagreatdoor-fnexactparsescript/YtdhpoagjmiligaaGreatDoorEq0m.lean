/-
  OUR OWN TEXT. The laws' own comparisons: one value.
-/
import Derived.Test.YtdhpoagjmiligaaGreatDoorMemm
import Derived.Deep.RegionHeld3
import Derived.Deep.DrawnRows
namespace Go.Proofs.YtdhpoagjmiligaaGreatDoor
open Go.RowKit
attribute [local go_sem ↓] Go.wp_at_zero Go.wp_at_succ

set_option maxHeartbeats 400000 in
theorem eqValue_same (v : V) (w : World) :
    Calls Tryz.prog 113 #[.agg #[.int .i64 v.kind, .int .i64 v.num, .string v.sym], .agg #[.int .i64 v.kind, .int .i64 v.num, .string v.sym]] w fun e w' =>
      e = .returned (.bool true) ∧ Below w.heap.size w w' := by
  go_enter Tryz.func113, Tryz.ntmps113
  go_wp2
  go_ret
  exact ⟨rfl, ((Below.refl _ _).alloc (Nat.le_refl _) _).alloc (by simp) _⟩
end Go.Proofs.YtdhpoagjmiligaaGreatDoor
