/-
  OUR OWN TEXT. The laws' own counts of sizes: one value.
-/
import Derived.Test.YtpiglmkpmlogjaaMem
namespace Go.Proofs.Ytpiglmkpmlogjaa
open Go.RowKit

/-- What the count leaves: -1, or no more than was there less n. -/
def Left (r left : Int) (n : Nat) : Prop := r = -1 ∨ 0 ≤ r ∧ r + n ≤ left

set_option maxHeartbeats 400000 in
theorem szValue_any (v : V) (left : Int) (w : World) (hs : v.sym.size ≤ maxLen) (h0 : 0 ≤ left) (h1 : left ≤ 1048576) :
    Calls Try.prog 85 #[.agg #[.int .i64 v.kind, .int .i64 v.num, .string v.sym], .int .i64 left] w fun e w' =>
      (∃ r : Int, e = .returned (.int .i64 r) ∧ Left r left (szV v)) ∧ Below w.heap.size w w' := by
  unfold maxLen at hs
  go_enter Try.func85, Try.ntmps85
  go_wp2
  all_goals go_ret
  · exact ⟨⟨-1, rfl, .inl rfl⟩, (Below.refl _ _).alloc (Nat.le_refl _) _⟩
  · exact ⟨⟨_, rfl, .inr ⟨by assumption, by unfold szV; omega⟩⟩, (Below.refl _ _).alloc (Nat.le_refl _) _⟩
end Go.Proofs.Ytpiglmkpmlogjaa
