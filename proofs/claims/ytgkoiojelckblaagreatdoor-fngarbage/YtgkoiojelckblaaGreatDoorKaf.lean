/-
  OUR OWN TEXT. Copy, Blk, one behind the other.
-/
import Derived.Test.YtgkoiojelckblaaGreatDoorOwnm
import Derived.Laws.CopyOwn
import Derived.Deep.MidRow
import Derived.Deep.RegionLaw
namespace Go.Proofs.YtgkoiojelckblaaGreatDoor
open Go.RowKit

end Go.Proofs.YtgkoiojelckblaaGreatDoor

namespace Go.Proofs.YtgkoiojelckblaaGreatDoor
open Go.RowKit

/-- w' is w but for block b, whose kind and size stand. -/
structure Turned (w w' : World) (b : Nat) : Prop where
  os : w'.os = w.os
  tape : w'.tape = w.tape
  output : w'.output = w.output
  size : w'.heap.size = w.heap.size
  block : ∀ k, k ≠ b → w'.heap[k]? = w.heap[k]?

theorem Turned.setCells : ∀ (vs : List Value) (o : Nat) (w : World) (b : Nat), Turned w (w.setCells b o vs) b
  | [], _, _, _ => ⟨rfl, rfl, rfl, rfl, fun _ _ => rfl⟩
  | v :: r, o, w, b => by
    have h := Turned.setCells r (o + 1) (w.setCell ⟨b, o, none⟩ v) b
    exact ⟨h.os, h.tape, h.output, h.size.trans (by simp [World.setCell]), fun k hk => (h.block k hk).trans (Below.heap_setCell _ _ _ _ hk)⟩

theorem Turned.below {w w' : World} {b B : Nat} (h : Turned w w' b) (hB : B ≤ b) : Below B w w' :=
  ⟨h.os, h.tape, h.output, Nat.le_of_eq h.size.symm, fun k hk => h.block k (by omega)⟩

theorem Turned.cell {w w' : World} {b : Nat} (h : Turned w w' b) {p : Addr} (hp : p.block ≠ b) : w'.cell? p = w.cell? p := World.cell?_of_block (w := w) (h.block _ hp)

theorem heap_setCells_splice {w : World} {g o : Nat} {c : Array Value} {t : TypeId} {fr : Nat × Nat} (h : w.heap[g]? = some (.cells c t fr)) (vs : List Value) (hfit : o + vs.length ≤ c.size) :
    (w.setCells g o vs).heap[g]? = some (.cells (c.toList.take o ++ (vs ++ c.toList.drop (o + vs.length))).toArray t fr) := by
  obtain ⟨c', h1, h2, h3, h4⟩ := heap_setCells_same vs o w g c t fr h
  rw [h1]
  congr 2
  apply Array.ext'
  apply List.ext_getElem?
  intro i
  rw [Array.getElem?_toList]
  by_cases hi : i < o
  · rw [h4 i (Or.inl hi)]
    simp only [List.getElem?_append, List.length_take, Array.length_toList, List.getElem?_take]
    rw [if_pos (by omega), if_pos hi, Array.getElem?_toList]
  · by_cases hj : i < o + vs.length
    · have hx : vs[i - o]? = some (vs[i - o]'(by omega)) := List.getElem?_eq_getElem _
      have := h3 (i - o) _ hx (by omega)
      rw [show o + (i - o) = i by omega] at this
      rw [this]
      simp only [List.getElem?_append, List.length_take, Array.length_toList]
      rw [if_neg (by omega), if_pos (by omega), show i - min o c.size = i - o by omega, hx]
    · rw [h4 i (Or.inr (by omega))]
      simp only [List.getElem?_append, List.length_take, Array.length_toList, List.getElem?_drop]
      rw [if_neg (by omega), if_neg (by omega), show o + vs.length + (i - min o c.size - vs.length) = i by omega, Array.getElem?_toList]

theorem there_blk {w : World} {b : Nat} {c : Array Value} {t : TypeId} (h : w.heap[b]? = some (.cells c t (0, 0))) {o n : Nat} (hn : o + n ≤ c.size) : w.there b o n := fun j hj => by
  have hlt : o + j < c.size := by omega
  simp [World.cell?, World.frozen?, h, hlt]

theorem range_blk {w : World} {b : Nat} {c : List Value} {t : TypeId} {fr : Nat × Nat} (h : w.heap[b]? = some (.cells c.toArray t fr)) : w.rangeAt b 0 c := fun j v hv => by
  simp [World.cell?, h, hv]

/-- A whole block is written anew. -/
theorem wpList_store_blk {P : Program} {ops : Array Oper} {rest : List Oper} {op : Oper} {a : Act} {w : World} {Q : Exit → Act → World → Prop} (hgd : op.guard = none) (ty : TypeId) (x y : Operand) (ho : op.op = .store ty x y)
    (b : Nat) (L : List Value) (hx : a.eval x = .pointer (some ⟨b, 0, none⟩)) (hy : a.eval y = .agg L.toArray) (c : Array Value) (t : TypeId) (hb : w.heap[b]? = some (.cells c t (0, 0)))
    (hs : c.size = L.length) (hi : (P.info? ty).map (·.size) = some L.length) (h1 : ∀ v ∈ L, v.oneCell' = true)
    (h : ∀ w', Hid (w'.heap[b]? = some (.cells L.toArray t (0, 0))) → Hid (Turned w w' b) → wpList P ops Q rest (a.put op.dst undef) w') : wpList P ops Q (op :: rest) a w := by
  refine wpList_store_mid hgd ty x y ho b 0 L.toArray hx hy (there_blk hb (by simp; omega)) (by simpa using hi) (all_oneCell_toArray h1) (h _ ?_ (Turned.setCells _ _ _ _))
  show _ = _
  have := heap_setCells_splice hb (o := 0) L (by omega)
  rw [this]
  simp [List.drop_eq_nil_of_le (show c.toList.length ≤ L.length by simp; omega)]

/-- A whole block is read. -/
theorem wpList_load_blk {P : Program} {ops : Array Oper} {rest : List Oper} {op : Oper} {a : Act} {w : World} {Q : Exit → Act → World → Prop} (hgd : op.guard = none) (ty : TypeId) (x : Operand) (ho : op.op = .load ty x)
    (b : Nat) (L : List Value) (hx : a.eval x = .pointer (some ⟨b, 0, none⟩)) (t : TypeId) (fr : Nat × Nat) (hb : w.heap[b]? = some (.cells L.toArray t fr)) (d : TypeDesc)
    (hu : P.underlying ty = some d) (hd : d.isRow = true) (hi : (P.info? ty).map (·.size) = some L.length)
    (h : wpList P ops Q rest (a.put op.dst (.agg L.toArray)) w) : wpList P ops Q (op :: rest) a w :=
  wpList_load_mid hgd ty x ho b 0 hx L d (range_blk hb) hu hd hi h

end Go.Proofs.YtgkoiojelckblaaGreatDoor
