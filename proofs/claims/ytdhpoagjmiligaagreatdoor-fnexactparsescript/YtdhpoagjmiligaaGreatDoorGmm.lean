/-
  OUR OWN TEXT. Rows of cells that stand for data, whatever the data: reading them, keeping them, making them.
-/
import Derived.Test.YtdhpoagjmiligaaGreatDoorOwnm
import Derived.Test.YtdhpoagjmiligaaGreatDoorMemm
namespace Go.Proofs.YtdhpoagjmiligaaGreatDoor
open Go.RowKit

/-- What a block must be: nothing is asked, or it is of this type, none of it frozen, and no older than B. -/
def Qb (q : Option Nat) (w : World) (t : TypeId) (b : Nat) : Prop := ∀ B, q = some B → B ≤ b ∧ ∃ c, w.heap[b]? = some (.cells c t (0, 0))

/-- All blocks from B on are as they were. -/
def Low (B : Nat) (w w' : World) : Prop := ∀ b, B ≤ b → w'.heap[b]? = w.heap[b]?

theorem Low.refl (B : Nat) (w : World) : Low B w w := fun _ _ => rfl
theorem Low.trans {B : Nat} {w w' w'' : World} (h : Low B w w') (h' : Low B w' w'') : Low B w w'' := fun b hb => (h' b hb).trans (h b hb)
theorem Low.setCell {B g i : Nat} {w : World} (hg : g < B) (x : Value) : Low B w (w.setCell ⟨g, i, none⟩ x) := fun b hb => Below.heap_setCell _ _ _ _ (by simp; omega)
theorem Low.setCells {B g : Nat} (hg : g < B) : ∀ (vs : List Value) (o : Nat) (w : World), Low B w (w.setCells g o vs)
  | [], _, _ => Low.refl _ _
  | v :: r, o, _ => (Low.setCell hg v).trans (Low.setCells hg r (o + 1) _)

theorem Qb.bare (w : World) (t : TypeId) (b : Nat) : Qb none w t b := fun B h => by cases h
section
variable {α : Type}

/-- The data xs lie from address a on, each in a row of m cells (nothing is said of the address of no data). -/
def RowsAt (R : World → List Value → α → Prop) (q : Option Nat) (t : TypeId) (m : Nat) (w : World) (a : Option Addr) (xs : List α) : Prop :=
  ∀ (i : Nat) (x : α), xs[i]? = some x → ∃ b o r, a = some ⟨b, o, none⟩ ∧ Qb q w t b ∧ r.length = m ∧ (∀ j v, r[j]? = some v → w.cell? ⟨b, o + i * m + j, none⟩ = some v) ∧ R w r x

variable {R R' : World → List Value → α → Prop} {q q' : Option Nat} {t : TypeId} {m : Nat} {w w' : World} {a : Option Addr} {xs : List α}

theorem RowsAt.nil : RowsAt R q t m w a ([] : List α) := fun i x h => by simp at h

theorem RowsAt.weak (h : RowsAt R q t m w a xs) (hq : ∀ b, Qb q w t b → Qb q' w t b) (hR : ∀ r x, x ∈ xs → R w r x → R' w r x) : RowsAt R' q' t m w a xs := by
  intro i x hx
  obtain ⟨b, o, r, h1, h2, h3, h4, h5⟩ := h i x hx
  exact ⟨b, o, r, h1, hq b h2, h3, h4, hR r x (List.mem_of_getElem? hx) h5⟩

/-- A part of what lies there. -/
theorem RowsAt.drop (h : RowsAt R q t m w a xs) {b o k : Nat} (ha : a = some ⟨b, o, none⟩) : RowsAt R q t m w (some ⟨b, o + k * m, none⟩) (xs.drop k) := by
  intro i x hx
  rw [List.getElem?_drop] at hx
  obtain ⟨b', o', r, h1, h2, h3, h4, h5⟩ := h (k + i) x hx
  rw [ha] at h1
  injection h1 with h1
  injection h1 with e1 e2 _
  subst e1 e2
  refine ⟨b, o + k * m, r, rfl, h2, h3, fun j v hj => ?_, h5⟩
  have := h4 j v hj
  rwa [show o + (k + i) * m + j = o + k * m + i * m + j by rw [Nat.add_mul]; omega] at this
theorem RowsAt.take (h : RowsAt R q t m w a xs) (k : Nat) : RowsAt R q t m w a (xs.take k) := by
  intro i x hx
  rw [List.getElem?_take] at hx
  split at hx
  · exact h i x hx
  · cases hx

/-- The data xs are the first rows of block g, which is the call's own. -/
def RowsOwn (R : World → List Value → α → Prop) (t : TypeId) (m : Nat) (w : World) (g N : Nat) (xs : List α) : Prop :=
  ∃ rows, OwnB w g t m N rows ∧ rows.length = xs.length ∧ ∀ (i : Nat) (x : α) (r : List Value), xs[i]? = some x → rows[i]? = some r → R w r x

theorem RowsOwn.lt {g N : Nat} (h : RowsOwn R t m w g N xs) : g < w.heap.size := by
  obtain ⟨_, h, _⟩ := h
  exact h.lt

theorem RowsOwn.at {g N B : Nat} (h : RowsOwn R t m w g N xs) (hB : B ≤ g) : RowsAt R (some B) t m w (some ⟨g, 0, none⟩) xs := by
  obtain ⟨rows, ho, hl, hR⟩ := h
  intro i x hx
  have hi : i < rows.length := by rw [hl]; exact (List.getElem?_eq_some_iff.1 hx).1
  have hr : rows[i]? = some rows[i] := List.getElem?_eq_getElem hi
  obtain ⟨c, h1, h2, h3, h4⟩ := ho
  refine ⟨g, 0, rows[i], rfl, ?_, (h4 i _ hr).1, ?_, hR i x _ hx hr⟩
  · intro B' e
    injection e with e
    subst e
    exact ⟨hB, c, h1⟩
  · intro j v hj
    rw [Nat.zero_add]
    exact OwnB.cell ⟨c, h1, h2, h3, h4⟩ hr hj

theorem RowsOwn.start (z : Array Value) (N : Nat) : RowsOwn R t m (w.alloc (.cells (madeCells z (N * m)) t)) w.heap.size N ([] : List α) :=
  ⟨[], OwnB.made _ _ _ _ _, rfl, fun i x r hx => by simp at hx⟩

/-- Cells of one row that is to be written. -/
theorem RowsOwn.room {g N k : Nat} (h : RowsOwn R t m w g N xs) (hk : k < N) (j : Nat) (hj : j < m) : ∃ x, w.cell? ⟨g, k * m + j, none⟩ = some x := by
  obtain ⟨rows, ho, _⟩ := h
  exact ho.there hk hj
/-- One row more. -/
theorem RowsOwn.put {g N k : Nat} {x : α} {r : List Value} (h : RowsOwn R t m w g N xs) (hk : xs.length = k) (hN : k < N) (hr : r.length = m) (hx : R w r x)
    (hR : ∀ s y, (y ∈ xs ∨ y = x) → R w s y → R (w.setCells g (k * m) r) s y) : RowsOwn R t m (w.setCells g (k * m) r) g N (xs ++ [x]) := by
  obtain ⟨rows, ho, hl, h⟩ := h
  refine ⟨rows ++ [r], ?_, by simp [hl], ?_⟩
  · have := ho.put r hr (by omega)
    rwa [show rows.length = k by omega] at this
  · intro i y s hy hs
    by_cases hi : i < xs.length
    · rw [List.getElem?_append_left hi] at hy
      rw [List.getElem?_append_left (by omega)] at hs
      exact hR _ _ (.inl (List.mem_of_getElem? hy)) (h i y s hy hs)
    · have hil : i < (xs ++ [x]).length := (List.getElem?_eq_some_iff.1 hy).1
      simp at hil
      obtain rfl : i = xs.length := by omega
      simp at hy
      rw [List.getElem?_append_right (by omega)] at hs
      simp [hl] at hs
      subst hy hs
      exact hR _ _ (.inr rfl) hx
end

end Go.Proofs.YtdhpoagjmiligaaGreatDoor
