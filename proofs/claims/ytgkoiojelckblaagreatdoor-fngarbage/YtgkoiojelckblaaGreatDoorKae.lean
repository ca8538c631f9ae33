/-
  OUR OWN TEXT. Mem, Val, Gm, one behind the other.
-/
import Derived.Test.YtgkoiojelckblaaGreatDoorRows
import Derived.Test.YtgkoiojelckblaaGreatDoorPlain
import Derived.Test.YtgkoiojelckblaaGreatDoorOwnm
namespace Go.Proofs.YtgkoiojelckblaaGreatDoor
open Go.RowKit

/-- A value of the language, as plain data: its kind, its number, its symbol. -/
abbrev V := Int × Int × ByteArray
def V.kind (v : V) : Int := v.1
def V.num (v : V) : Int := v.2.1
def V.sym (v : V) : ByteArray := v.2.2
theorem V.same {v u : V} (h1 : v.kind = u.kind) (h2 : v.num = u.num) (h3 : v.sym = u.sym) : v = u := Prod.ext h1 (Prod.ext h2 h3)

/-- A fact, as plain data. -/
structure F where
  tag : Int
  cls : ByteArray
  slots : List V

/-- The values of vs lie from address a on (nothing is said of the address of no values). -/
def ValsAt (w : World) (a : Option Addr) (vs : List V) : Prop :=
  ∀ (i : Nat) (v : V), vs[i]? = some v → ∃ b o, a = some ⟨b, o, none⟩ ∧ w.cell? ⟨b, o + i * 3, none⟩ = some (.int .i64 v.kind) ∧
    w.cell? ⟨b, o + i * 3 + 1, none⟩ = some (.int .i64 v.num) ∧ w.cell? ⟨b, o + i * 3 + 2, none⟩ = some (.string v.sym)

/-- The facts of fs lie from address a on, each with its slots. -/
def FactsAt (w : World) (a : Option Addr) (fs : List F) : Prop :=
  ∀ (i : Nat) (f : F), fs[i]? = some f → ∃ b o, a = some ⟨b, o, none⟩ ∧ w.cell? ⟨b, o + i * 3, none⟩ = some (.int .i64 f.tag) ∧
    w.cell? ⟨b, o + i * 3 + 1, none⟩ = some (.string f.cls) ∧ ∃ a' c, w.cell? ⟨b, o + i * 3 + 2, none⟩ = some (.slice a' f.slots.length c) ∧ ValsAt w a' f.slots

theorem cell_below {w w' : World} {p : Addr} {x : Value} (hb : Below w.heap.size w w') (h : w.cell? p = some x) : w'.cell? p = some x := by
  rw [hb.cell (p := p) ?_]
  · exact h
  · unfold World.cell? at h
    by_cases hp : p.block < w.heap.size
    · exact hp
    · rw [Array.getElem?_eq_none (by omega)] at h
      simp at h

theorem ValsAt.below {w w' : World} {a : Option Addr} {vs : List V} (h : ValsAt w a vs) (hb : Below w.heap.size w w') : ValsAt w' a vs := by
  intro i v hv
  obtain ⟨b, o, rfl, h1, h2, h3⟩ := h i v hv
  exact ⟨b, o, rfl, cell_below hb h1, cell_below hb h2, cell_below hb h3⟩

theorem FactsAt.below {w w' : World} {a : Option Addr} {fs : List F} (h : FactsAt w a fs) (hb : Below w.heap.size w w') : FactsAt w' a fs := by
  intro i f hf
  obtain ⟨b, o, rfl, h1, h2, a', c, h3, h4⟩ := h i f hf
  exact ⟨b, o, rfl, cell_below hb h1, cell_below hb h2, a', c, cell_below hb h3, h4.below hb⟩

/-- A value's, a fact's cells. -/
def V.cells (v : V) : List Value := [.int .i64 v.kind, .int .i64 v.num, .string v.sym]
theorem ValsAt.own {w : World} {g : Nat} {t : TypeId} {N : Nat} {vs : List V} (h : OwnB w g t 3 N (vs.map V.cells)) : ValsAt w (some ⟨g, 0, none⟩) vs := by
  intro i v hv
  have hi : (vs.map V.cells)[i]? = some v.cells := by simp [hv]
  refine ⟨g, 0, rfl, ?_, ?_, ?_⟩
  · simpa using h.cell hi (j := 0) rfl
  · simpa using h.cell hi (j := 1) rfl
  · simpa using h.cell hi (j := 2) rfl

theorem ret_int {k : IntKind} {a b : Int} (h : a = b) : Ending.returned (.int k a) = .returned (.int k b) := by rw [h]

end Go.Proofs.YtgkoiojelckblaaGreatDoor

namespace Go.Proofs.YtgkoiojelckblaaGreatDoor

def gVal (v : V) : Bool := (v.kind == 0 && v.sym.toList.isEmpty) || (v.kind == 1 && (v.num == 0 && gSym v.sym.data.toList))
/-- What makes two facts alike. -/
abbrev Lk := ByteArray × List V
def like (f : F) : Lk := (f.cls, f.slots)
end Go.Proofs.YtgkoiojelckblaaGreatDoor

namespace Go.Proofs.YtgkoiojelckblaaGreatDoor
open Go.RowKit

/-- What a block must be: nothing is asked, or it is of this type, none of it frozen, and no older than B. -/
def Qb (q : Option Nat) (w : World) (t : TypeId) (b : Nat) : Prop := ∀ B, q = some B → B ≤ b ∧ ∃ c, w.heap[b]? = some (.cells c t (0, 0))

/-- All blocks from B on are as they were. -/
def Low (B : Nat) (w w' : World) : Prop := ∀ b, B ≤ b → w'.heap[b]? = w.heap[b]?

theorem Low.refl (B : Nat) (w : World) : Low B w w := fun _ _ => rfl
theorem Low.trans {B : Nat} {w w' w'' : World} (h : Low B w w') (h' : Low B w' w'') : Low B w w'' := fun b hb => (h' b hb).trans (h b hb)
theorem Low.setCell {B g i : Nat} {w : World} (hg : g < B) (x : Value) : Low B w (w.setCell ⟨g, i, none⟩ x) := fun b hb => Below.heap_setCell _ _ _ _ (by simp; omega)
theorem Low.setCells {B g : Nat} (hg : g < B) : ∀ (vs : List Value) (o : Nat) (w : World), Low B w (w.setCells g o vs)
  | [], _, _ => Low.refl _ _
  | v :: r, o, _ => (Low.setCell hg v).trans (Low.setCells hg r (o + 1) _)

theorem Qb.bare (w : World) (t : TypeId) (b : Nat) : Qb none w t b := fun B h => by cases h
theorem Qb.below {q : Option Nat} {w w' : World} {t : TypeId} {b : Nat} (h : Qb q w t b) (hb : Below w.heap.size w w') : Qb q w' t b := by
  cases q with
  | none => exact Qb.bare _ _ _
  | some B =>
    intro B' e
    obtain ⟨h1, c, h2⟩ := h B' e
    exact ⟨h1, c, (hb.block b (lt_of_block' h2)).trans h2⟩

section
variable {α : Type}

/-- The data xs lie from address a on, each in a row of m cells (nothing is said of the address of no data). -/
def RowsAt (R : World → List Value → α → Prop) (q : Option Nat) (t : TypeId) (m : Nat) (w : World) (a : Option Addr) (xs : List α) : Prop :=
  ∀ (i : Nat) (x : α), xs[i]? = some x → ∃ b o r, a = some ⟨b, o, none⟩ ∧ Qb q w t b ∧ r.length = m ∧ (∀ j v, r[j]? = some v → w.cell? ⟨b, o + i * m + j, none⟩ = some v) ∧ R w r x

variable {R R' : World → List Value → α → Prop} {q q' : Option Nat} {t : TypeId} {m : Nat} {w w' : World} {a : Option Addr} {xs : List α}

theorem RowsAt.nil : RowsAt R q t m w a ([] : List α) := fun i x h => by simp at h

theorem RowsAt.below (h : RowsAt R q t m w a xs) (hR : ∀ r x, x ∈ xs → R w r x → R w' r x) (hb : Below w.heap.size w w') : RowsAt R q t m w' a xs := by
  intro i x hx
  obtain ⟨b, o, r, h1, h2, h3, h4, h5⟩ := h i x hx
  exact ⟨b, o, r, h1, h2.below hb, h3, fun j v hj => cell_below hb (h4 j v hj), hR r x (List.mem_of_getElem? hx) h5⟩

theorem RowsAt.weak (h : RowsAt R q t m w a xs) (hq : ∀ b, Qb q w t b → Qb q' w t b) (hR : ∀ r x, x ∈ xs → R w r x → R' w r x) : RowsAt R' q' t m w a xs := by
  intro i x hx
  obtain ⟨b, o, r, h1, h2, h3, h4, h5⟩ := h i x hx
  exact ⟨b, o, r, h1, hq b h2, h3, h4, hR r x (List.mem_of_getElem? hx) h5⟩

theorem RowsAt.take (h : RowsAt R q t m w a xs) (k : Nat) : RowsAt R q t m w a (xs.take k) := by
  intro i x hx
  rw [List.getElem?_take] at hx
  split at hx
  · exact h i x hx
  · cases hx

/-- The data xs are the first rows of block g, which is the call's own. -/
def RowsOwn (R : World → List Value → α → Prop) (t : TypeId) (m : Nat) (w : World) (g N : Nat) (xs : List α) : Prop :=
  ∃ rows, OwnB w g t m N rows ∧ rows.length = xs.length ∧ ∀ (i : Nat) (x : α) (r : List Value), xs[i]? = some x → rows[i]? = some r → R w r x

theorem RowsOwn.lt {g N : Nat} (h : RowsOwn R t m w g N xs) : g < w.heap.size := by
  obtain ⟨_, h, _⟩ := h
  exact h.lt

theorem RowsOwn.at {g N B : Nat} (h : RowsOwn R t m w g N xs) (hB : B ≤ g) : RowsAt R (some B) t m w (some ⟨g, 0, none⟩) xs := by
  obtain ⟨rows, ho, hl, hR⟩ := h
  intro i x hx
  have hi : i < rows.length := by rw [hl]; exact (List.getElem?_eq_some_iff.1 hx).1
  have hr : rows[i]? = some rows[i] := List.getElem?_eq_getElem hi
  obtain ⟨c, h1, h2, h3, h4⟩ := ho
  refine ⟨g, 0, rows[i], rfl, ?_, (h4 i _ hr).1, ?_, hR i x _ hx hr⟩
  · intro B' e
    injection e with e
    subst e
    exact ⟨hB, c, h1⟩
  · intro j v hj
    rw [Nat.zero_add]
    exact OwnB.cell ⟨c, h1, h2, h3, h4⟩ hr hj

theorem RowsOwn.start (z : Array Value) (N : Nat) : RowsOwn R t m (w.alloc (.cells (madeCells z (N * m)) t)) w.heap.size N ([] : List α) :=
  ⟨[], OwnB.made _ _ _ _ _, rfl, fun i x r hx => by simp at hx⟩

theorem RowsOwn.below {g N : Nat} (h : RowsOwn R t m w g N xs) (hR : ∀ r x, x ∈ xs → R w r x → R w' r x) (hb : Below w.heap.size w w') : RowsOwn R t m w' g N xs := by
  obtain ⟨rows, ho, hl, h⟩ := h
  exact ⟨rows, ho.below hb ho.lt, hl, fun i x r hx hr => hR r x (List.mem_of_getElem? hx) (h i x r hx hr)⟩

/-- Cells of one row that is to be written. -/
theorem RowsOwn.room {g N k : Nat} (h : RowsOwn R t m w g N xs) (hk : k < N) (j : Nat) (hj : j < m) : ∃ x, w.cell? ⟨g, k * m + j, none⟩ = some x := by
  obtain ⟨rows, ho, _⟩ := h
  exact ho.there hk hj
/-- One row more. -/
theorem RowsOwn.put {g N k : Nat} {x : α} {r : List Value} (h : RowsOwn R t m w g N xs) (hk : xs.length = k) (hN : k < N) (hr : r.length = m) (hx : R w r x)
    (hR : ∀ s y, (y ∈ xs ∨ y = x) → R w s y → R (w.setCells g (k * m) r) s y) : RowsOwn R t m (w.setCells g (k * m) r) g N (xs ++ [x]) := by
  obtain ⟨rows, ho, hl, h⟩ := h
  refine ⟨rows ++ [r], ?_, by simp [hl], ?_⟩
  · have := ho.put r hr (by omega)
    rwa [show rows.length = k by omega] at this
  · intro i y s hy hs
    by_cases hi : i < xs.length
    · rw [List.getElem?_append_left hi] at hy
      rw [List.getElem?_append_left (by omega)] at hs
      exact hR _ _ (.inl (List.mem_of_getElem? hy)) (h i y s hy hs)
    · have hil : i < (xs ++ [x]).length := (List.getElem?_eq_some_iff.1 hy).1
      simp at hil
      obtain rfl : i = xs.length := by omega
      simp at hy
      rw [List.getElem?_append_right (by omega)] at hs
      simp [hl] at hs
      subst hy hs
      exact hR _ _ (.inr rfl) hx
end

def ListLe {α : Type} (le : Nat → α → Prop) (N : Nat) (xs : List α) : Prop := xs.length ≤ N ∧ ∀ x ∈ xs, le N x
end Go.Proofs.YtgkoiojelckblaaGreatDoor
