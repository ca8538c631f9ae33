/-
  OUR OWN TEXT. Marks of one block.
-/
import Derived.Test.YtgkoiojelckblaaGreatDoorKag
namespace Go.Proofs.YtgkoiojelckblaaGreatDoor
open Go.RowKit

/-- w' is w but for block b and new ones. -/
structure MkO (b : Option Nat) (w w' : World) : Prop where
  rest : Below 0 w w'
  block : ∀ g, g < w.heap.size → b ≠ some g → w'.heap[g]? = w.heap[g]?
theorem MkO.refl (b : Option Nat) (w : World) : MkO b w w := ⟨Below.refl _ _, fun _ _ _ => rfl⟩
theorem MkO.trans {b : Option Nat} {u v w : World} (h : MkO b u v) (k : MkO b v w) : MkO b u w :=
  ⟨h.rest.trans k.rest, fun g hg hs => (k.block g (Nat.lt_of_lt_of_le hg h.rest.size) hs).trans (h.block g hg hs)⟩
theorem MkO.of_below {b : Option Nat} {u v : World} (h : Below u.heap.size u v) : MkO b u v := ⟨h.mono (Nat.zero_le _), fun g hg _ => h.block g hg⟩
theorem MkO.set {w : World} {g o : Nat} (x : Value) : MkO (some g) w (w.setCell ⟨g, o, none⟩ x) :=
  ⟨(Below.refl _ _).setCell (Nat.zero_le _) _, fun h _ hs => Below.heap_setCell _ _ _ _ (fun e => hs (by rw [e]))⟩
theorem MkO.below {b : Option Nat} {w w' : World} {B : Nat} (h : MkO b w w') (hB : B ≤ w.heap.size) (hs : ∀ g, b = some g → B ≤ g) : Below B w w' :=
  ⟨h.rest.os, h.rest.tape, h.rest.output, h.rest.size, fun k hk => h.block k (by omega) (fun e => by have := hs k e; omega)⟩
end Go.Proofs.YtgkoiojelckblaaGreatDoor
