/-
  OUR OWN TEXT. The model's side of the checker: actions.
-/
import Derived.Test.YtkofbgdcgoajeaaSc1
import Derived.Test.YtkofbgdcgoajeaaSc2
import Derived.Deep.RegionHeld3
import Derived.Deep.DrawnRows
import Derived.BigQuiet
namespace Go.Proofs.Ytkofbgdcgoajeaa
open Go.RowKit
attribute [local go_sem ↓] Go.wp_at_zero Go.wp_at_succ

theorem span_first_le {es : List Ex} {S : List Sp} (h : Spans es S) {i : Nat} {s : Sp} (hi : S[i]? = some s) : s.1 ≤ es.length := by
  have := h.first_le i s hi
  have h1 : i < S.length := (List.getElem?_eq_some_iff.1 hi).1
  have := h.1
  omega

theorem below_drewN {B n : Nat} {a w : World} (h : Below B a w) : Below B a (w.drewN n) := ⟨h.os, h.tape, h.output, h.size, h.block⟩

theorem cell_setOther {w : World} {b g o i : Nat} {x : Value} (h : b ≠ g) : (w.setCell ⟨g, i, none⟩ x).cell? ⟨b, o, none⟩ = w.cell? ⟨b, o, none⟩ := by
  unfold World.cell?
  rw [Below.heap_setCell _ _ _ _ h]

/-- The loop over the arguments, by itself. -/
theorem argsGo_cons {S : List Sp} {x : Int} {r : List Int} {nx : Nat} : argsGo S (x :: r) nx = if decide (0 ≤ x) && (decide (x < (S.length : Int)) && decide ((S[x.toNat]?.getD (0, 0)).1 = nx)) then argsGo S r (x.toNat + 1) else none := rfl

end Go.Proofs.Ytkofbgdcgoajeaa
