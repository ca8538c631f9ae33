/-
  OUR OWN TEXT. What came in, read: a value of the laws' own type.
-/
import Derived.Test.YtjjjagepnnbebaaGreatDoorKae
import Derived.Deep.Slices
import Derived.Deep.Strs
import Derived.Lib.SmallJoins
import Derived.Deep.MidRow
namespace Go.Proofs.YtjjjagepnnbebaaGreatDoor
open Go.RowKit Go.Deep

theorem laidOut : laidOutB Tryz.prog = true := by kernel_rfl
theorem ownK : ownKnob Tryz.prog.godebug = none := by kernel_rfl
theorem cellsS : Tryz.prog.cellsOf 9 = 1 := by kernel_rfl
def VOk (v : V) : Prop := (Lit.int .i64 v.kind).wf = true ∧ (Lit.int .i64 v.num).wf = true ∧ v.sym.size ≤ maxLen
theorem map_range_at {α : Type} {f : Nat → α} {len i : Nat} {x : α} (h : ((List.range len).map f)[i]? = some x) : i < len ∧ f i = x := by
  have hi : i < len := by simpa using (List.getElem?_eq_some_iff.1 h).1
  simp [hi] at h
  exact ⟨hi, h⟩

theorem spot_none {w : World} {b o : Nat} {sp : Option Nat} {n : Nat} {x y : Value} (h0 : w.cell? ((⟨b, o, sp⟩ : Addr).add 0) = some x) (_h : w.cell? ((⟨b, o, sp⟩ : Addr).add n) = some y) : sp = none := by
  have h1 := World.cell?_spot h0
  simpa [Addr.add] using h1

section
variable {H : Type} {enc : TypeId × Value → H} {w : World} {base : Nat} {spare : Nat → Bool} {held : Bool}

end
end Go.Proofs.YtjjjagepnnbebaaGreatDoor
