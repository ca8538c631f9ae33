/-
  OUR OWN TEXT. Steps of a drawn region that is walked by hand, in short.
-/
import Derived.Test.YtgkoiojelckblaaGreatDoorRows
import Derived.Deep.RegionHeld3
namespace Go.Proofs.YtgkoiojelckblaaGreatDoor

theorem tk {P : Program} {l : List Oper} {Q : Exit → Act → World → Prop} {md : Region.Mode} {S : World → Prop} (i : Nat) {oi : Oper} {v : Value} {fuel : Nat} {listed : Array Bool} {a : Act} {w : World} (hS : S w)
    (h : wpAnyH P md l.toArray (NoPanic Q) S fuel (listed.setIfInBounds i true) (a.put oi.dst v) w) (hi : l[i]? = some oi := by rfl)
    (hs : Region.noSelect l.toArray = true := by kernel_rfl) (hf : Region.free md l.toArray listed i = true := by kernel_rfl) (hr : (Region.ready md l.toArray listed).contains i = true := by kernel_rfl)
    (hw : Region.wanted oi (yielded l.toArray a.tmps) = true := by rfl) (hy : ∀ w, S w → (execOp a.eval oi).run P w = .ok (.value v) w := by intro w hSw; (try dsimp only at hSw); go_simp; try with_reducible rfl) : wpAnyH P md l.toArray (NoPanic Q) S (fuel + 1) listed a w :=
  wpAnyH_take (List.getElem?_toArray.trans hi) hs hf hr (fun _ _ _ h => h) (.inl ⟨hw, hy⟩) hS h
theorem tn {P : Program} {l : List Oper} {Q : Exit → Act → World → Prop} {md : Region.Mode} {S : World → Prop} (i : Nat) {oi : Oper} {fuel : Nat} {listed : Array Bool} {a : Act} {w : World} (hS : S w)
    (h : wpAnyH P md l.toArray (NoPanic Q) S fuel (listed.setIfInBounds i true) (a.put oi.dst undef) w) (hi : l[i]? = some oi := by rfl)
    (hs : Region.noSelect l.toArray = true := by kernel_rfl) (hf : Region.free md l.toArray listed i = true := by kernel_rfl) (hr : (Region.ready md l.toArray listed).contains i = true := by kernel_rfl)
    (hw : Region.wanted oi (yielded l.toArray a.tmps) = false := by rfl) : wpAnyH P md l.toArray (NoPanic Q) S (fuel + 1) listed a w :=
  wpAnyH_take (List.getElem?_toArray.trans hi) hs hf hr (fun _ _ _ h => h) (.inr ⟨hw, rfl⟩) hS h
theorem pA (l : List Value) (d : List Deferred) (t : Nat) (v : Value) : ({ tmps := l.toArray, defers := d } : Act).put (some t) v = { tmps := (l.set t v).toArray, defers := d } := by simp [Act.put]
theorem pN (a : Act) (v : Value) : a.put none v = a := rfl
theorem pZ {α : Type} (x v : α) (l : List α) : (x :: l).set 0 v = v :: l := rfl
theorem pS {α : Type} (x v : α) (l : List α) (n : Nat) : (x :: l).set (n + 1) v = x :: l.set n v := rfl
end Go.Proofs.YtgkoiojelckblaaGreatDoor
