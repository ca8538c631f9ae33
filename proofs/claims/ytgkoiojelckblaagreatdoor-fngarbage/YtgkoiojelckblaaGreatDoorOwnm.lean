/-
  OUR OWN TEXT. Blocks of rows that a call itself has made: what lies in them, what a store does to them.
-/
import Derived.WalkKit
import Derived.WalkSpells
import Derived.WalkLawsBesides
import Derived.Laws.IdiomCopy
namespace Go.Proofs.YtgkoiojelckblaaGreatDoor
open Go.RowKit

theorem take_succ' {α : Type} (l : List α) (k : Nat) (x : α) (h : l[k]? = some x) : l.take (k + 1) = l.take k ++ [x] := by
  obtain ⟨hk, rfl⟩ := List.getElem?_eq_some_iff.1 h
  exact List.take_succ_eq_append_getElem hk

theorem drop_cons {α : Type} {l : List α} {k : Nat} {x : α} (h : l[k]? = some x) : l.drop k = x :: l.drop (k + 1) := by
  obtain ⟨hk, rfl⟩ := List.getElem?_eq_some_iff.1 h
  exact List.drop_eq_getElem_cons hk

theorem lt_of_block' {w : World} {g : Nat} {o : Obj} (h : w.heap[g]? = some o) : g < w.heap.size := (Array.getElem?_eq_some_iff.1 h).1

theorem heap_setCell_same {w : World} {g i : Nat} {c : Array Value} {t : TypeId} {fr : Nat × Nat} (h : w.heap[g]? = some (.cells c t fr)) (x : Value) :
    (w.setCell ⟨g, i, none⟩ x).heap[g]? = some (.cells (c.setIfInBounds i x) t fr) := by
  simp [World.setCell, Array.getElem?_modify, h]

theorem heap_setCells_same : ∀ (vs : List Value) (o : Nat) (w : World) (g : Nat) (c : Array Value) (t : TypeId) (fr : Nat × Nat), w.heap[g]? = some (.cells c t fr) →
    ∃ c', (w.setCells g o vs).heap[g]? = some (.cells c' t fr) ∧ c'.size = c.size ∧ (∀ j x, vs[j]? = some x → o + j < c.size → c'[o + j]? = some x) ∧ (∀ i, i < o ∨ o + vs.length ≤ i → c'[i]? = c[i]?)
  | [], o, w, g, c, t, fr, h => ⟨c, h, rfl, fun j x hj => by simp at hj, fun _ _ => rfl⟩
  | v :: r, o, w, g, c, t, fr, h => by
    obtain ⟨c', h1, h2, h3, h4⟩ := heap_setCells_same r (o + 1) _ g _ t fr (heap_setCell_same (i := o) h v)
    refine ⟨c', h1, by rw [h2]; simp, ?_, ?_⟩
    · intro j x hj hlt
      cases j with
      | zero =>
        simp at hj
        subst hj
        rw [Nat.add_zero, h4 o (Or.inl (Nat.lt_succ_self o)), Array.getElem?_setIfInBounds]
        simp at hlt
        simp [hlt]
      | succ j =>
        have := h3 j x (by simpa using hj) (by simp; omega)
        rwa [show o + 1 + j = o + (j + 1) by omega] at this
    · intro i hi
      rw [h4 i (by simp at hi; omega), Array.getElem?_setIfInBounds, if_neg (by simp at hi; omega)]

theorem Below.setCells {B : Nat} {a : World} : ∀ (vs : List Value) (o : Nat) (w : World) (g : Nat), Below B a w → B ≤ g → Below B a (w.setCells g o vs)
  | [], _, _, _, h, _ => h
  | v :: r, o, _, g, h, hg => Below.setCells r (o + 1) _ g (h.setCell (p := ⟨g, o, none⟩) hg v) hg

/-- All old cells and all old marks read as before. -/
theorem bcell {W w1 : World} (hb : Below W.heap.size W w1) : (∀ b o, b < W.heap.size → w1.cell? ⟨b, o, none⟩ = W.cell? ⟨b, o, none⟩) ∧ (∀ b o, b < W.heap.size → w1.frozen? ⟨b, o, none⟩ = W.frozen? ⟨b, o, none⟩) :=
  ⟨fun b o h => hb.cell (p := ⟨b, o, none⟩) h, fun b o h => hb.frozen (p := ⟨b, o, none⟩) h⟩

/-- Block g is of cells of type t, none frozen; it has room for N rows of m cells; its first rows are rs. -/
def OwnB (w : World) (g : Nat) (t : TypeId) (m N : Nat) (rs : List (List Value)) : Prop :=
  ∃ c : Array Value, w.heap[g]? = some (.cells c t (0, 0)) ∧ c.size = N * m ∧ rs.length ≤ N ∧ ∀ i r, rs[i]? = some r → r.length = m ∧ ∀ j x, r[j]? = some x → c[i * m + j]? = some x

theorem OwnB.lt {w : World} {g : Nat} {t : TypeId} {m N : Nat} {rs : List (List Value)} (h : OwnB w g t m N rs) : g < w.heap.size := by
  obtain ⟨c, h1, _⟩ := h
  exact lt_of_block' h1

theorem OwnB.of_block {w w' : World} {g : Nat} {t : TypeId} {m N : Nat} {rs : List (List Value)} (h : OwnB w g t m N rs) (e : w'.heap[g]? = w.heap[g]?) : OwnB w' g t m N rs := by
  obtain ⟨c, h1, h2⟩ := h
  exact ⟨c, e.trans h1, h2⟩

theorem OwnB.below {w w' : World} {g B : Nat} {t : TypeId} {m N : Nat} {rs : List (List Value)} (h : OwnB w g t m N rs) (hb : Below B w w') (hg : g < B) : OwnB w' g t m N rs :=
  h.of_block (hb.block g hg)

theorem OwnB.cell {w : World} {g : Nat} {t : TypeId} {m N : Nat} {rs : List (List Value)} (h : OwnB w g t m N rs) {i j : Nat} {r : List Value} {x : Value} (hi : rs[i]? = some r) (hj : r[j]? = some x) :
    w.cell? ⟨g, i * m + j, none⟩ = some x := by
  obtain ⟨c, h1, _, _, h3⟩ := h
  simp [World.cell?, h1, (h3 i r hi).2 j x hj]

theorem OwnB.there {w : World} {g : Nat} {t : TypeId} {m N : Nat} {rs : List (List Value)} (h : OwnB w g t m N rs) {i j : Nat} (hi : i < N) (hj : j < m) : ∃ x, w.cell? ⟨g, i * m + j, none⟩ = some x := by
  obtain ⟨c, h1, h2, _, _⟩ := h
  have hlt : i * m + j < c.size := by
    rw [h2]
    have : (i + 1) * m ≤ N * m := Nat.mul_le_mul_right m hi
    rw [Nat.succ_mul] at this
    omega
  exact ⟨c[i * m + j], by simp [World.cell?, h1, hlt]⟩

/-- One row more. -/
theorem OwnB.put {w : World} {g : Nat} {t : TypeId} {m N : Nat} {rs : List (List Value)} (h : OwnB w g t m N rs) (r : List Value) (hr : r.length = m) (hN : rs.length < N) : OwnB (w.setCells g (rs.length * m) r) g t m N (rs ++ [r]) := by
  obtain ⟨c, h1, h2, h3, h4⟩ := h
  obtain ⟨c', k1, k2, k3, k4⟩ := heap_setCells_same r (rs.length * m) w g c t (0, 0) h1
  refine ⟨c', k1, by rw [k2, h2], by simp; omega, ?_⟩
  intro i q hi
  by_cases hlt : i < rs.length
  · rw [List.getElem?_append_left hlt] at hi
    obtain ⟨hq, hc⟩ := h4 i q hi
    refine ⟨hq, fun j x hj => ?_⟩
    have hjm : j < q.length := (List.getElem?_eq_some_iff.1 hj).1
    rw [k4 _ (Or.inl ?_)]
    · exact hc j x hj
    · have : (i + 1) * m ≤ rs.length * m := Nat.mul_le_mul_right m hlt
      rw [Nat.succ_mul] at this
      omega
  · have hil : i < (rs ++ [r]).length := (List.getElem?_eq_some_iff.1 hi).1
    simp at hil
    obtain rfl : i = rs.length := by omega
    simp at hi
    subst hi
    refine ⟨hr, fun j x hj => k3 j x hj ?_⟩
    have hjm : j < r.length := (List.getElem?_eq_some_iff.1 hj).1
    rw [h2]
    have : (rs.length + 1) * m ≤ N * m := Nat.mul_le_mul_right m hN
    rw [Nat.succ_mul] at this
    omega

theorem OwnB.made (w : World) (z : Array Value) (t : TypeId) (m N : Nat) : OwnB (w.alloc (.cells (madeCells z (N * m)) t)) w.heap.size t m N [] :=
  ⟨_, heap_alloc_new _ _, size_madeCells _ _, Nat.zero_le _, fun i r h => by simp at h⟩

theorem OwnB.alloc {w : World} {g : Nat} {t : TypeId} {m N : Nat} {rs : List (List Value)} (h : OwnB w g t m N rs) (o : Obj) : OwnB (w.alloc o) g t m N rs :=
  h.of_block (Below.heap_alloc _ _ _ h.lt)

end Go.Proofs.YtgkoiojelckblaaGreatDoor
