/-
  OUR OWN TEXT. Blocks of a stretch; numbers as cells that marks may write.
-/
import Derived.Test.YtajgedhmliekoaaTr
import Derived.Test.YtajgedhmliekoaaLl
namespace Go.Proofs.Ytajgedhmliekoaa
open Go.RowKit

/-- Blocks from B on, below H. -/
def Seg (B H : Nat) (g : Nat) : Prop := B ≤ g ∧ g < H
theorem free_of {w : World} {b i : Nat} {c : Array Value} {t : TypeId} (h : w.heap[b]? = some (.cells c t (0, 0))) : w.frozen? ⟨b, i, none⟩ = false := by simp [World.frozen?, h]
theorem IntsAt.flat {B H : Nat} {w : World} {a : Option Addr} {xs : List Int} (h : IntsAt (some B) w a xs) (hH : w.heap.size ≤ H) : Flat (Seg B H) w a xs.length 1 := by
  intro j hj
  obtain ⟨x, hx⟩ : ∃ x, xs[j]? = some x := ⟨xs[j], by simp [hj]⟩
  obtain ⟨b, o, e, hq, d0⟩ := h.get hx
  obtain ⟨hB0, cs, hb⟩ := hq B rfl
  have hB : Seg B H b := ⟨hB0, Nat.lt_of_lt_of_le (World.block_lt_of_cell? w ⟨b, _, none⟩ d0) hH⟩
  refine ⟨b, o, e, fun q hq => ?_⟩
  obtain rfl : q = 0 := by omega
  exact ⟨hB, free_of hb, _, by simpa using d0, rfl⟩
theorem hidR {p : Prop} (h : p) : Hid p := h
end Go.Proofs.Ytajgedhmliekoaa
