/-
  OUR OWN TEXT. Plain, Own, Mem, Val, Gm, Copy, Blk, Sym, Eq0, one behind the other.
-/
import Derived.WalkKit
import Derived.WalkSpells
import Derived.WalkLawsBesides
import Derived.Laws.IdiomCopy
import Derived.Test.YtdhpoagjmiligaaGreatDoorRows
import Derived.Laws.CopyOwn
import Derived.Deep.MidRow
import Derived.Deep.RegionLaw
import Derived.Deep.RegionHeld3
import Derived.Deep.DrawnRows
namespace Go.Proofs.YtdhpoagjmiligaaGreatDoor

/-- A letter 'a' to 'z'; a digit; a byte of a symbol: of a byte as a number. -/
def isL (c : Int) : Bool := decide (97 ≤ c) && decide (c ≤ 122)
def isD (c : Int) : Bool := decide (48 ≤ c) && decide (c ≤ 57)
def isC (c : Int) : Bool := isL c || isD c || decide (c = 45)
def byteL (c : UInt8) : Bool := isL (c.toNat : Int)
def byteC (c : UInt8) : Bool := isC (c.toNat : Int)

/-- A good symbol. -/
def gSym (s : List UInt8) : Bool := decide (1 ≤ s.length) && decide (s.length ≤ 20) && byteL (s.headD 0) && s.all byteC

theorem isC_of_isL {c : Int} (h : isL c = true) : isC c = true := by simp [isC, h]

theorem gSym_short {s : List UInt8} (h : s.length = 0) : gSym s = false := by simp [gSym, h]
theorem gSym_long {s : List UInt8} (h : 20 < s.length) : gSym s = false := by
  have : decide (s.length ≤ 20) = false := by simpa using h
  simp [gSym, this]
theorem gSym_head {s : List UInt8} (h : byteL (s.headD 0) = false) : gSym s = false := by simp only [gSym, h, Bool.and_false, Bool.false_and]
theorem gSym_bad {s : List UInt8} {k : Nat} (hk : k < s.length) (h : byteC s[k] = false) : gSym s = false := by
  have : s.all byteC = false := by
    rw [List.all_eq_false]
    exact ⟨s[k], List.getElem_mem hk, by simp [h]⟩
  simp [gSym, this]
theorem gSym_good {s : List UInt8} (h1 : 1 ≤ s.length) (h2 : s.length ≤ 20) (h3 : byteL (s.headD 0) = true) (h4 : s.all byteC = true) : gSym s = true := by
  simp only [gSym, h3, h4, Bool.and_true, Bool.and_eq_true, decide_eq_true_eq]
  exact ⟨h1, h2⟩
theorem all_take_succ {s : List UInt8} {k : Nat} (hk : k < s.length) (h : (s.take k).all byteC = true) (hc : byteC s[k] = true) : (s.take (k + 1)).all byteC = true := by
  rw [List.take_succ_eq_append_getElem hk, List.all_append, h]
  simp [hc]

end Go.Proofs.YtdhpoagjmiligaaGreatDoor

namespace Go.Proofs.YtdhpoagjmiligaaGreatDoor
open Go.RowKit

theorem take_succ' {α : Type} (l : List α) (k : Nat) (x : α) (h : l[k]? = some x) : l.take (k + 1) = l.take k ++ [x] := by
  obtain ⟨hk, rfl⟩ := List.getElem?_eq_some_iff.1 h
  exact List.take_succ_eq_append_getElem hk

theorem drop_cons {α : Type} {l : List α} {k : Nat} {x : α} (h : l[k]? = some x) : l.drop k = x :: l.drop (k + 1) := by
  obtain ⟨hk, rfl⟩ := List.getElem?_eq_some_iff.1 h
  exact List.drop_eq_getElem_cons hk

theorem lt_of_block' {w : World} {g : Nat} {o : Obj} (h : w.heap[g]? = some o) : g < w.heap.size := (Array.getElem?_eq_some_iff.1 h).1

theorem heap_setCell_same {w : World} {g i : Nat} {c : Array Value} {t : TypeId} {fr : Nat × Nat} (h : w.heap[g]? = some (.cells c t fr)) (x : Value) :
    (w.setCell ⟨g, i, none⟩ x).heap[g]? = some (.cells (c.setIfInBounds i x) t fr) := by
  simp [World.setCell, Array.getElem?_modify, h]

theorem heap_setCells_same : ∀ (vs : List Value) (o : Nat) (w : World) (g : Nat) (c : Array Value) (t : TypeId) (fr : Nat × Nat), w.heap[g]? = some (.cells c t fr) →
    ∃ c', (w.setCells g o vs).heap[g]? = some (.cells c' t fr) ∧ c'.size = c.size ∧ (∀ j x, vs[j]? = some x → o + j < c.size → c'[o + j]? = some x) ∧ (∀ i, i < o ∨ o + vs.length ≤ i → c'[i]? = c[i]?)
  | [], o, w, g, c, t, fr, h => ⟨c, h, rfl, fun j x hj => by simp at hj, fun _ _ => rfl⟩
  | v :: r, o, w, g, c, t, fr, h => by
    obtain ⟨c', h1, h2, h3, h4⟩ := heap_setCells_same r (o + 1) _ g _ t fr (heap_setCell_same (i := o) h v)
    refine ⟨c', h1, by rw [h2]; simp, ?_, ?_⟩
    · intro j x hj hlt
      cases j with
      | zero =>
        simp at hj
        subst hj
        rw [Nat.add_zero, h4 o (Or.inl (Nat.lt_succ_self o)), Array.getElem?_setIfInBounds]
        simp at hlt
        simp [hlt]
      | succ j =>
        have := h3 j x (by simpa using hj) (by simp; omega)
        rwa [show o + 1 + j = o + (j + 1) by omega] at this
    · intro i hi
      rw [h4 i (by simp at hi; omega), Array.getElem?_setIfInBounds, if_neg (by simp at hi; omega)]

theorem Below.setCells {B : Nat} {a : World} : ∀ (vs : List Value) (o : Nat) (w : World) (g : Nat), Below B a w → B ≤ g → Below B a (w.setCells g o vs)
  | [], _, _, _, h, _ => h
  | v :: r, o, _, g, h, hg => Below.setCells r (o + 1) _ g (h.setCell (p := ⟨g, o, none⟩) hg v) hg

/-- All old cells and all old marks read as before. -/
theorem bcell {W w1 : World} (hb : Below W.heap.size W w1) : (∀ b o, b < W.heap.size → w1.cell? ⟨b, o, none⟩ = W.cell? ⟨b, o, none⟩) ∧ (∀ b o, b < W.heap.size → w1.frozen? ⟨b, o, none⟩ = W.frozen? ⟨b, o, none⟩) :=
  ⟨fun b o h => hb.cell (p := ⟨b, o, none⟩) h, fun b o h => hb.frozen (p := ⟨b, o, none⟩) h⟩

/-- Block g is of cells of type t, none frozen; it has room for N rows of m cells; its first rows are rs. -/
def OwnB (w : World) (g : Nat) (t : TypeId) (m N : Nat) (rs : List (List Value)) : Prop :=
  ∃ c : Array Value, w.heap[g]? = some (.cells c t (0, 0)) ∧ c.size = N * m ∧ rs.length ≤ N ∧ ∀ i r, rs[i]? = some r → r.length = m ∧ ∀ j x, r[j]? = some x → c[i * m + j]? = some x

theorem OwnB.lt {w : World} {g : Nat} {t : TypeId} {m N : Nat} {rs : List (List Value)} (h : OwnB w g t m N rs) : g < w.heap.size := by
  obtain ⟨c, h1, _⟩ := h
  exact lt_of_block' h1

theorem OwnB.of_block {w w' : World} {g : Nat} {t : TypeId} {m N : Nat} {rs : List (List Value)} (h : OwnB w g t m N rs) (e : w'.heap[g]? = w.heap[g]?) : OwnB w' g t m N rs := by
  obtain ⟨c, h1, h2⟩ := h
  exact ⟨c, e.trans h1, h2⟩

theorem OwnB.below {w w' : World} {g B : Nat} {t : TypeId} {m N : Nat} {rs : List (List Value)} (h : OwnB w g t m N rs) (hb : Below B w w') (hg : g < B) : OwnB w' g t m N rs :=
  h.of_block (hb.block g hg)

theorem OwnB.cell {w : World} {g : Nat} {t : TypeId} {m N : Nat} {rs : List (List Value)} (h : OwnB w g t m N rs) {i j : Nat} {r : List Value} {x : Value} (hi : rs[i]? = some r) (hj : r[j]? = some x) :
    w.cell? ⟨g, i * m + j, none⟩ = some x := by
  obtain ⟨c, h1, _, _, h3⟩ := h
  simp [World.cell?, h1, (h3 i r hi).2 j x hj]

theorem OwnB.there {w : World} {g : Nat} {t : TypeId} {m N : Nat} {rs : List (List Value)} (h : OwnB w g t m N rs) {i j : Nat} (hi : i < N) (hj : j < m) : ∃ x, w.cell? ⟨g, i * m + j, none⟩ = some x := by
  obtain ⟨c, h1, h2, _, _⟩ := h
  have hlt : i * m + j < c.size := by
    rw [h2]
    have : (i + 1) * m ≤ N * m := Nat.mul_le_mul_right m hi
    rw [Nat.succ_mul] at this
    omega
  exact ⟨c[i * m + j], by simp [World.cell?, h1, hlt]⟩

theorem OwnB.free {w : World} {g : Nat} {t : TypeId} {m N : Nat} {rs : List (List Value)} (h : OwnB w g t m N rs) (i : Nat) : w.frozen? ⟨g, i, none⟩ = false := by
  obtain ⟨c, h1, _⟩ := h
  simp [World.frozen?, h1]

/-- One row more. -/
theorem OwnB.put {w : World} {g : Nat} {t : TypeId} {m N : Nat} {rs : List (List Value)} (h : OwnB w g t m N rs) (r : List Value) (hr : r.length = m) (hN : rs.length < N) : OwnB (w.setCells g (rs.length * m) r) g t m N (rs ++ [r]) := by
  obtain ⟨c, h1, h2, h3, h4⟩ := h
  obtain ⟨c', k1, k2, k3, k4⟩ := heap_setCells_same r (rs.length * m) w g c t (0, 0) h1
  refine ⟨c', k1, by rw [k2, h2], by simp; omega, ?_⟩
  intro i q hi
  by_cases hlt : i < rs.length
  · rw [List.getElem?_append_left hlt] at hi
    obtain ⟨hq, hc⟩ := h4 i q hi
    refine ⟨hq, fun j x hj => ?_⟩
    have hjm : j < q.length := (List.getElem?_eq_some_iff.1 hj).1
    rw [k4 _ (Or.inl ?_)]
    · exact hc j x hj
    · have : (i + 1) * m ≤ rs.length * m := Nat.mul_le_mul_right m hlt
      rw [Nat.succ_mul] at this
      omega
  · have hil : i < (rs ++ [r]).length := (List.getElem?_eq_some_iff.1 hi).1
    simp at hil
    obtain rfl : i = rs.length := by omega
    simp at hi
    subst hi
    refine ⟨hr, fun j x hj => k3 j x hj ?_⟩
    have hjm : j < r.length := (List.getElem?_eq_some_iff.1 hj).1
    rw [h2]
    have : (rs.length + 1) * m ≤ N * m := Nat.mul_le_mul_right m hN
    rw [Nat.succ_mul] at this
    omega

theorem OwnB.made (w : World) (z : Array Value) (t : TypeId) (m N : Nat) : OwnB (w.alloc (.cells (madeCells z (N * m)) t)) w.heap.size t m N [] :=
  ⟨_, heap_alloc_new _ _, size_madeCells _ _, Nat.zero_le _, fun i r h => by simp at h⟩

theorem OwnB.alloc {w : World} {g : Nat} {t : TypeId} {m N : Nat} {rs : List (List Value)} (h : OwnB w g t m N rs) (o : Obj) : OwnB (w.alloc o) g t m N rs :=
  h.of_block (Below.heap_alloc _ _ _ h.lt)

end Go.Proofs.YtdhpoagjmiligaaGreatDoor

namespace Go.Proofs.YtdhpoagjmiligaaGreatDoor
open Go.RowKit

/-- A value of the language, as plain data: its kind, its number, its symbol. -/
abbrev V := Int × Int × ByteArray
def V.kind (v : V) : Int := v.1
def V.num (v : V) : Int := v.2.1
def V.sym (v : V) : ByteArray := v.2.2
theorem V.same {v u : V} (h1 : v.kind = u.kind) (h2 : v.num = u.num) (h3 : v.sym = u.sym) : v = u := Prod.ext h1 (Prod.ext h2 h3)

/-- A fact, as plain data. -/
structure F where
  tag : Int
  cls : ByteArray
  slots : List V

/-- The values of vs lie from address a on (nothing is said of the address of no values). -/
def ValsAt (w : World) (a : Option Addr) (vs : List V) : Prop :=
  ∀ (i : Nat) (v : V), vs[i]? = some v → ∃ b o, a = some ⟨b, o, none⟩ ∧ w.cell? ⟨b, o + i * 3, none⟩ = some (.int .i64 v.kind) ∧
    w.cell? ⟨b, o + i * 3 + 1, none⟩ = some (.int .i64 v.num) ∧ w.cell? ⟨b, o + i * 3 + 2, none⟩ = some (.string v.sym)

/-- The facts of fs lie from address a on, each with its slots. -/
def FactsAt (w : World) (a : Option Addr) (fs : List F) : Prop :=
  ∀ (i : Nat) (f : F), fs[i]? = some f → ∃ b o, a = some ⟨b, o, none⟩ ∧ w.cell? ⟨b, o + i * 3, none⟩ = some (.int .i64 f.tag) ∧
    w.cell? ⟨b, o + i * 3 + 1, none⟩ = some (.string f.cls) ∧ ∃ a' c, w.cell? ⟨b, o + i * 3 + 2, none⟩ = some (.slice a' f.slots.length c) ∧ ValsAt w a' f.slots

theorem cell_below {w w' : World} {p : Addr} {x : Value} (hb : Below w.heap.size w w') (h : w.cell? p = some x) : w'.cell? p = some x := by
  rw [hb.cell (p := p) ?_]
  · exact h
  · unfold World.cell? at h
    by_cases hp : p.block < w.heap.size
    · exact hp
    · rw [Array.getElem?_eq_none (by omega)] at h
      simp at h

theorem ValsAt.below {w w' : World} {a : Option Addr} {vs : List V} (h : ValsAt w a vs) (hb : Below w.heap.size w w') : ValsAt w' a vs := by
  intro i v hv
  obtain ⟨b, o, rfl, h1, h2, h3⟩ := h i v hv
  exact ⟨b, o, rfl, cell_below hb h1, cell_below hb h2, cell_below hb h3⟩

theorem FactsAt.below {w w' : World} {a : Option Addr} {fs : List F} (h : FactsAt w a fs) (hb : Below w.heap.size w w') : FactsAt w' a fs := by
  intro i f hf
  obtain ⟨b, o, rfl, h1, h2, a', c, h3, h4⟩ := h i f hf
  exact ⟨b, o, rfl, cell_below hb h1, cell_below hb h2, a', c, cell_below hb h3, h4.below hb⟩

/-- A value's, a fact's cells. -/
def V.cells (v : V) : List Value := [.int .i64 v.kind, .int .i64 v.num, .string v.sym]
theorem ValsAt.own {w : World} {g : Nat} {t : TypeId} {N : Nat} {vs : List V} (h : OwnB w g t 3 N (vs.map V.cells)) : ValsAt w (some ⟨g, 0, none⟩) vs := by
  intro i v hv
  have hi : (vs.map V.cells)[i]? = some v.cells := by simp [hv]
  refine ⟨g, 0, rfl, ?_, ?_, ?_⟩
  · simpa using h.cell hi (j := 0) rfl
  · simpa using h.cell hi (j := 1) rfl
  · simpa using h.cell hi (j := 2) rfl

end Go.Proofs.YtdhpoagjmiligaaGreatDoor

namespace Go.Proofs.YtdhpoagjmiligaaGreatDoor

def gVal (v : V) : Bool := (v.kind == 0 && v.sym.toList.isEmpty) || (v.kind == 1 && (v.num == 0 && gSym v.sym.data.toList))
/-- What makes two facts alike. -/
abbrev Lk := ByteArray × List V
def like (f : F) : Lk := (f.cls, f.slots)
end Go.Proofs.YtdhpoagjmiligaaGreatDoor

namespace Go.Proofs.YtdhpoagjmiligaaGreatDoor
open Go.RowKit

/-- What a block must be: nothing is asked, or it is of this type, none of it frozen, and no older than B. -/
def Qb (q : Option Nat) (w : World) (t : TypeId) (b : Nat) : Prop := ∀ B, q = some B → B ≤ b ∧ ∃ c, w.heap[b]? = some (.cells c t (0, 0))

/-- All blocks from B on are as they were. -/
def Low (B : Nat) (w w' : World) : Prop := ∀ b, B ≤ b → w'.heap[b]? = w.heap[b]?

theorem Low.refl (B : Nat) (w : World) : Low B w w := fun _ _ => rfl
theorem Low.trans {B : Nat} {w w' w'' : World} (h : Low B w w') (h' : Low B w' w'') : Low B w w'' := fun b hb => (h' b hb).trans (h b hb)
theorem Low.setCell {B g i : Nat} {w : World} (hg : g < B) (x : Value) : Low B w (w.setCell ⟨g, i, none⟩ x) := fun b hb => Below.heap_setCell _ _ _ _ (by simp; omega)
theorem Low.setCells {B g : Nat} (hg : g < B) : ∀ (vs : List Value) (o : Nat) (w : World), Low B w (w.setCells g o vs)
  | [], _, _ => Low.refl _ _
  | v :: r, o, _ => (Low.setCell hg v).trans (Low.setCells hg r (o + 1) _)

theorem Qb.bare (w : World) (t : TypeId) (b : Nat) : Qb none w t b := fun B h => by cases h
theorem Qb.below {q : Option Nat} {w w' : World} {t : TypeId} {b : Nat} (h : Qb q w t b) (hb : Below w.heap.size w w') : Qb q w' t b := by
  cases q with
  | none => exact Qb.bare _ _ _
  | some B =>
    intro B' e
    obtain ⟨h1, c, h2⟩ := h B' e
    exact ⟨h1, c, (hb.block b (lt_of_block' h2)).trans h2⟩

section
variable {α : Type}

/-- The data xs lie from address a on, each in a row of m cells (nothing is said of the address of no data). -/
def RowsAt (R : World → List Value → α → Prop) (q : Option Nat) (t : TypeId) (m : Nat) (w : World) (a : Option Addr) (xs : List α) : Prop :=
  ∀ (i : Nat) (x : α), xs[i]? = some x → ∃ b o r, a = some ⟨b, o, none⟩ ∧ Qb q w t b ∧ r.length = m ∧ (∀ j v, r[j]? = some v → w.cell? ⟨b, o + i * m + j, none⟩ = some v) ∧ R w r x

variable {R R' : World → List Value → α → Prop} {q q' : Option Nat} {t : TypeId} {m : Nat} {w w' : World} {a : Option Addr} {xs : List α}

theorem RowsAt.nil : RowsAt R q t m w a ([] : List α) := fun i x h => by simp at h

theorem RowsAt.below (h : RowsAt R q t m w a xs) (hR : ∀ r x, x ∈ xs → R w r x → R w' r x) (hb : Below w.heap.size w w') : RowsAt R q t m w' a xs := by
  intro i x hx
  obtain ⟨b, o, r, h1, h2, h3, h4, h5⟩ := h i x hx
  exact ⟨b, o, r, h1, h2.below hb, h3, fun j v hj => cell_below hb (h4 j v hj), hR r x (List.mem_of_getElem? hx) h5⟩

theorem RowsAt.weak (h : RowsAt R q t m w a xs) (hq : ∀ b, Qb q w t b → Qb q' w t b) (hR : ∀ r x, x ∈ xs → R w r x → R' w r x) : RowsAt R' q' t m w a xs := by
  intro i x hx
  obtain ⟨b, o, r, h1, h2, h3, h4, h5⟩ := h i x hx
  exact ⟨b, o, r, h1, hq b h2, h3, h4, hR r x (List.mem_of_getElem? hx) h5⟩

/-- A part of what lies there. -/
theorem RowsAt.drop (h : RowsAt R q t m w a xs) {b o k : Nat} (ha : a = some ⟨b, o, none⟩) : RowsAt R q t m w (some ⟨b, o + k * m, none⟩) (xs.drop k) := by
  intro i x hx
  rw [List.getElem?_drop] at hx
  obtain ⟨b', o', r, h1, h2, h3, h4, h5⟩ := h (k + i) x hx
  rw [ha] at h1
  injection h1 with h1
  injection h1 with e1 e2 _
  subst e1 e2
  refine ⟨b, o + k * m, r, rfl, h2, h3, fun j v hj => ?_, h5⟩
  have := h4 j v hj
  rwa [show o + (k + i) * m + j = o + k * m + i * m + j by rw [Nat.add_mul]; omega] at this
theorem RowsAt.take (h : RowsAt R q t m w a xs) (k : Nat) : RowsAt R q t m w a (xs.take k) := by
  intro i x hx
  rw [List.getElem?_take] at hx
  split at hx
  · exact h i x hx
  · cases hx

/-- The data xs are the first rows of block g, which is the call's own. -/
def RowsOwn (R : World → List Value → α → Prop) (t : TypeId) (m : Nat) (w : World) (g N : Nat) (xs : List α) : Prop :=
  ∃ rows, OwnB w g t m N rows ∧ rows.length = xs.length ∧ ∀ (i : Nat) (x : α) (r : List Value), xs[i]? = some x → rows[i]? = some r → R w r x

theorem RowsOwn.lt {g N : Nat} (h : RowsOwn R t m w g N xs) : g < w.heap.size := by
  obtain ⟨_, h, _⟩ := h
  exact h.lt

theorem RowsOwn.at {g N B : Nat} (h : RowsOwn R t m w g N xs) (hB : B ≤ g) : RowsAt R (some B) t m w (some ⟨g, 0, none⟩) xs := by
  obtain ⟨rows, ho, hl, hR⟩ := h
  intro i x hx
  have hi : i < rows.length := by rw [hl]; exact (List.getElem?_eq_some_iff.1 hx).1
  have hr : rows[i]? = some rows[i] := List.getElem?_eq_getElem hi
  obtain ⟨c, h1, h2, h3, h4⟩ := ho
  refine ⟨g, 0, rows[i], rfl, ?_, (h4 i _ hr).1, ?_, hR i x _ hx hr⟩
  · intro B' e
    injection e with e
    subst e
    exact ⟨hB, c, h1⟩
  · intro j v hj
    rw [Nat.zero_add]
    exact OwnB.cell ⟨c, h1, h2, h3, h4⟩ hr hj

theorem RowsOwn.start (z : Array Value) (N : Nat) : RowsOwn R t m (w.alloc (.cells (madeCells z (N * m)) t)) w.heap.size N ([] : List α) :=
  ⟨[], OwnB.made _ _ _ _ _, rfl, fun i x r hx => by simp at hx⟩

theorem RowsOwn.below {g N : Nat} (h : RowsOwn R t m w g N xs) (hR : ∀ r x, x ∈ xs → R w r x → R w' r x) (hb : Below w.heap.size w w') : RowsOwn R t m w' g N xs := by
  obtain ⟨rows, ho, hl, h⟩ := h
  exact ⟨rows, ho.below hb ho.lt, hl, fun i x r hx hr => hR r x (List.mem_of_getElem? hx) (h i x r hx hr)⟩

/-- Cells of one row that is to be written. -/
theorem RowsOwn.room {g N k : Nat} (h : RowsOwn R t m w g N xs) (hk : k < N) (j : Nat) (hj : j < m) : ∃ x, w.cell? ⟨g, k * m + j, none⟩ = some x := by
  obtain ⟨rows, ho, _⟩ := h
  exact ho.there hk hj
theorem RowsOwn.free {g N : Nat} (h : RowsOwn R t m w g N xs) (i : Nat) : w.frozen? ⟨g, i, none⟩ = false := by
  obtain ⟨rows, ho, _⟩ := h
  exact ho.free i

/-- One row more. -/
theorem RowsOwn.put {g N k : Nat} {x : α} {r : List Value} (h : RowsOwn R t m w g N xs) (hk : xs.length = k) (hN : k < N) (hr : r.length = m) (hx : R w r x)
    (hR : ∀ s y, (y ∈ xs ∨ y = x) → R w s y → R (w.setCells g (k * m) r) s y) : RowsOwn R t m (w.setCells g (k * m) r) g N (xs ++ [x]) := by
  obtain ⟨rows, ho, hl, h⟩ := h
  refine ⟨rows ++ [r], ?_, by simp [hl], ?_⟩
  · have := ho.put r hr (by omega)
    rwa [show rows.length = k by omega] at this
  · intro i y s hy hs
    by_cases hi : i < xs.length
    · rw [List.getElem?_append_left hi] at hy
      rw [List.getElem?_append_left (by omega)] at hs
      exact hR _ _ (.inl (List.mem_of_getElem? hy)) (h i y s hy hs)
    · have hil : i < (xs ++ [x]).length := (List.getElem?_eq_some_iff.1 hy).1
      simp at hil
      obtain rfl : i = xs.length := by omega
      simp at hy
      rw [List.getElem?_append_right (by omega)] at hs
      simp [hl] at hs
      subst hy hs
      exact hR _ _ (.inr rfl) hx
end

def ListLe {α : Type} (le : Nat → α → Prop) (N : Nat) (xs : List α) : Prop := xs.length ≤ N ∧ ∀ x ∈ xs, le N x
end Go.Proofs.YtdhpoagjmiligaaGreatDoor

namespace Go.Proofs.YtdhpoagjmiligaaGreatDoor
open Go.RowKit

end Go.Proofs.YtdhpoagjmiligaaGreatDoor

namespace Go.Proofs.YtdhpoagjmiligaaGreatDoor
open Go.RowKit

/-- w' is w but for block b, whose kind and size stand. -/
structure Turned (w w' : World) (b : Nat) : Prop where
  os : w'.os = w.os
  tape : w'.tape = w.tape
  output : w'.output = w.output
  size : w'.heap.size = w.heap.size
  block : ∀ k, k ≠ b → w'.heap[k]? = w.heap[k]?

theorem Turned.setCells : ∀ (vs : List Value) (o : Nat) (w : World) (b : Nat), Turned w (w.setCells b o vs) b
  | [], _, _, _ => ⟨rfl, rfl, rfl, rfl, fun _ _ => rfl⟩
  | v :: r, o, w, b => by
    have h := Turned.setCells r (o + 1) (w.setCell ⟨b, o, none⟩ v) b
    exact ⟨h.os, h.tape, h.output, h.size.trans (by simp [World.setCell]), fun k hk => (h.block k hk).trans (Below.heap_setCell _ _ _ _ hk)⟩

theorem Turned.below {w w' : World} {b B : Nat} (h : Turned w w' b) (hB : B ≤ b) : Below B w w' :=
  ⟨h.os, h.tape, h.output, Nat.le_of_eq h.size.symm, fun k hk => h.block k (by omega)⟩

theorem Turned.cell {w w' : World} {b : Nat} (h : Turned w w' b) {p : Addr} (hp : p.block ≠ b) : w'.cell? p = w.cell? p := World.cell?_of_block (w := w) (h.block _ hp)

theorem heap_setCells_splice {w : World} {g o : Nat} {c : Array Value} {t : TypeId} {fr : Nat × Nat} (h : w.heap[g]? = some (.cells c t fr)) (vs : List Value) (hfit : o + vs.length ≤ c.size) :
    (w.setCells g o vs).heap[g]? = some (.cells (c.toList.take o ++ (vs ++ c.toList.drop (o + vs.length))).toArray t fr) := by
  obtain ⟨c', h1, h2, h3, h4⟩ := heap_setCells_same vs o w g c t fr h
  rw [h1]
  congr 2
  apply Array.ext'
  apply List.ext_getElem?
  intro i
  rw [Array.getElem?_toList]
  by_cases hi : i < o
  · rw [h4 i (Or.inl hi)]
    simp only [List.getElem?_append, List.length_take, Array.length_toList, List.getElem?_take]
    rw [if_pos (by omega), if_pos hi, Array.getElem?_toList]
  · by_cases hj : i < o + vs.length
    · have hx : vs[i - o]? = some (vs[i - o]'(by omega)) := List.getElem?_eq_getElem _
      have := h3 (i - o) _ hx (by omega)
      rw [show o + (i - o) = i by omega] at this
      rw [this]
      simp only [List.getElem?_append, List.length_take, Array.length_toList]
      rw [if_neg (by omega), if_pos (by omega), show i - min o c.size = i - o by omega, hx]
    · rw [h4 i (Or.inr (by omega))]
      simp only [List.getElem?_append, List.length_take, Array.length_toList, List.getElem?_drop]
      rw [if_neg (by omega), if_neg (by omega), show o + vs.length + (i - min o c.size - vs.length) = i by omega, Array.getElem?_toList]

theorem there_blk {w : World} {b : Nat} {c : Array Value} {t : TypeId} (h : w.heap[b]? = some (.cells c t (0, 0))) {o n : Nat} (hn : o + n ≤ c.size) : w.there b o n := fun j hj => by
  have hlt : o + j < c.size := by omega
  simp [World.cell?, World.frozen?, h, hlt]

theorem range_blk {w : World} {b : Nat} {c : List Value} {t : TypeId} {fr : Nat × Nat} (h : w.heap[b]? = some (.cells c.toArray t fr)) : w.rangeAt b 0 c := fun j v hv => by
  simp [World.cell?, h, hv]

/-- A whole block is written anew. -/
theorem wpList_store_blk {P : Program} {ops : Array Oper} {rest : List Oper} {op : Oper} {a : Act} {w : World} {Q : Exit → Act → World → Prop} (hgd : op.guard = none) (ty : TypeId) (x y : Operand) (ho : op.op = .store ty x y)
    (b : Nat) (L : List Value) (hx : a.eval x = .pointer (some ⟨b, 0, none⟩)) (hy : a.eval y = .agg L.toArray) (c : Array Value) (t : TypeId) (hb : w.heap[b]? = some (.cells c t (0, 0)))
    (hs : c.size = L.length) (hi : (P.info? ty).map (·.size) = some L.length) (h1 : ∀ v ∈ L, v.oneCell' = true)
    (h : ∀ w', Hid (w'.heap[b]? = some (.cells L.toArray t (0, 0))) → Hid (Turned w w' b) → wpList P ops Q rest (a.put op.dst undef) w') : wpList P ops Q (op :: rest) a w := by
  refine wpList_store_mid hgd ty x y ho b 0 L.toArray hx hy (there_blk hb (by simp; omega)) (by simpa using hi) (all_oneCell_toArray h1) (h _ ?_ (Turned.setCells _ _ _ _))
  show _ = _
  have := heap_setCells_splice hb (o := 0) L (by omega)
  rw [this]
  simp [List.drop_eq_nil_of_le (show c.toList.length ≤ L.length by simp; omega)]

/-- A whole block is read. -/
theorem wpList_load_blk {P : Program} {ops : Array Oper} {rest : List Oper} {op : Oper} {a : Act} {w : World} {Q : Exit → Act → World → Prop} (hgd : op.guard = none) (ty : TypeId) (x : Operand) (ho : op.op = .load ty x)
    (b : Nat) (L : List Value) (hx : a.eval x = .pointer (some ⟨b, 0, none⟩)) (t : TypeId) (fr : Nat × Nat) (hb : w.heap[b]? = some (.cells L.toArray t fr)) (d : TypeDesc)
    (hu : P.underlying ty = some d) (hd : d.isRow = true) (hi : (P.info? ty).map (·.size) = some L.length)
    (h : wpList P ops Q rest (a.put op.dst (.agg L.toArray)) w) : wpList P ops Q (op :: rest) a w :=
  wpList_load_mid hgd ty x ho b 0 hx L d (range_blk hb) hu hd hi h

end Go.Proofs.YtdhpoagjmiligaaGreatDoor

namespace Go.Proofs.YtdhpoagjmiligaaGreatDoor
open Go.RowKit

set_option maxHeartbeats 400000 in
theorem isLetter_any (c : Int) (w : World) :
    Calls Tryz.prog 133 #[.int .u8 c] w fun e w' => e = .returned (.bool (isL c)) ∧ w' = w := by
  go_enter Tryz.func133, Tryz.ntmps133
  go_wp2
  all_goals (go_ret; exact ⟨by simp [isL]; omega, rfl⟩)

set_option maxHeartbeats 400000 in
theorem isDigit_any (c : Int) (w : World) :
    Calls Tryz.prog 131 #[.int .u8 c] w fun e w' => e = .returned (.bool (isD c)) ∧ w' = w := by
  go_enter Tryz.func131, Tryz.ntmps131
  go_wp2
  all_goals (go_ret; exact ⟨by simp [isD]; omega, rfl⟩)

theorem size_data (s : ByteArray) : s.data.toList.length = s.size := by
  obtain ⟨⟨l⟩⟩ := s
  rfl
theorem head_get (s : ByteArray) (h : 0 < s.size) : s.data.toList.headD 0 = s[0] := by
  obtain ⟨⟨l⟩⟩ := s
  cases l with
  | nil => exact absurd h (Nat.lt_irrefl 0)
  | cons a l => rfl
theorem byte_at (s : ByteArray) (k : Nat) (h : k < s.size) : s.data.toList[k]'(by rw [size_data]; exact h) = s[k] := by
  obtain ⟨⟨l⟩⟩ := s
  rfl

theorem gSym_bad' {s : ByteArray} {k : Nat} (hk : k < s.size) (h : isC (s[k].toNat : Int) = false) : gSym s.data.toList = false :=
  gSym_bad (k := k) (by rw [size_data]; exact hk) (by rw [byte_at s k hk]; exact h)
theorem all_take_succ' {s : ByteArray} {k : Nat} (hk : k < s.size) (h : (s.data.toList.take k).all byteC = true) (hc : isC (s[k].toNat : Int) = true) : (s.data.toList.take (k + 1)).all byteC = true :=
  all_take_succ (by rw [size_data]; exact hk) h (by rw [byte_at s k hk]; exact hc)
theorem gSym_good' {s : ByteArray} {k : Nat} (h1 : 0 < s.size) (h2 : s.size ≤ 20) (h3 : isL (s[0].toNat : Int) = true) (hk : s.size ≤ k) (h4 : (s.data.toList.take k).all byteC = true) : gSym s.data.toList = true := by
  refine gSym_good (by rw [size_data]; omega) (by rw [size_data]; omega) (by rw [head_get s h1]; exact h3) ?_
  rwa [List.take_of_length_le (by rw [size_data]; omega)] at h4
theorem isC_eq (c : Int) : isC c = (isL c || isD c || !(c != 45)) := by
  unfold isC
  congr 1
  by_cases h : c = 45 <;> simp [h]
theorem isC_in {c : Int} (h : (97 ≤ c ∧ c ≤ 122) ∨ (48 ≤ c ∧ c ≤ 57) ∨ (44 < c ∧ c < 46)) : isC c = true := by
  simp [isC, isL, isD]; omega
theorem isC_out {c : Int} (h : ¬ ((97 ≤ c ∧ c ≤ 122) ∨ (48 ≤ c ∧ c ≤ 57) ∨ (44 < c ∧ c < 46))) : isC c = false := by
  simp [isC, isL, isD]; omega
theorem ret_bool {a b : Bool} (h : a = b) : Ending.returned (.bool a) = .returned (.bool b) := by rw [h]

set_option maxHeartbeats 800000 in
theorem goodSymbol_any (s : ByteArray) (w : World) (hs : s.size ≤ maxLen) :
    Calls Tryz.prog 124 #[.string s] w fun e w' => e = .returned (.bool (gSym s.data.toList)) ∧ w' = w := by
  unfold maxLen at hs
  by_cases h0 : s.size < 1
  · have G : Hid (gSym s.data.toList = false) := gSym_short (s := s.data.toList) (by rw [size_data]; omega)
    have t1 : (s.size : Int) < 1 := by omega
    go_enter Tryz.func124, Tryz.ntmps124
    go_wp2
    go_ret
    exact ⟨ret_bool G.out.symm, rfl⟩
  · by_cases h1 : 20 < s.size
    · have G : Hid (gSym s.data.toList = false) := gSym_long (s := s.data.toList) (by rw [size_data]; omega)
      have t1 : (20 : Int) < s.size := by omega
      go_enter Tryz.func124, Tryz.ntmps124
      go_wp2
      go_ret
      exact ⟨ret_bool G.out.symm, rfl⟩
    · have hp : 0 < s.size := by omega
      have d1 : decide ((s.size : Int) < 1) = false := by simp; omega
      have d2 : decide ((20 : Int) < s.size) = false := by simp; omega
      by_cases h2 : isL (s[0].toNat : Int) = true
      · have H2 : Hid (isL (s[0].toNat : Int) = true) := h2
        go_enter Tryz.func124, Tryz.ntmps124
        go_wp2_with (go_at_call 133; refine (isLetter_any _ _).mono ?_; rintro e w' ⟨rfl, rfl⟩)
        clear h2
        go_loop [3] (fun i => ∃ k : Nat, 1 ≤ k ∧ k ≤ s.size ∧ i = .int .i64 k ∧ (s.data.toList.take k).all byteC = true) (fun i => s.size - (intOf i).toNat)
        case atStart => exact ⟨1, by omega, by omega, rfl, all_take_succ' (k := 0) hp (by simp) (isC_of_isL H2.out)⟩
        case round =>
          obtain ⟨k, hk1, hk, rfl, hall⟩ := hrel
          have HA : Hid ((s.data.toList.take k).all byteC = true) := hall
          clear hall
          by_cases hlt : k < s.size
          · obtain ⟨hC⟩ : Nonempty (Hid (isC (s[k].toNat : Int) = (isL (s[k].toNat : Int) || isD (s[k].toNat : Int) || !((s[k].toNat : Int) != 45)))) := ⟨isC_eq _⟩
            cases hL : isL (s[k].toNat : Int) <;> cases hD : isD (s[k].toNat : Int) <;> cases hM : ((s[k].toNat : Int) != 45)
            all_goals
              go_wp2_with (first | (go_at_call 133; refine (isLetter_any _ _).mono ?_; rintro e w' ⟨rfl, rfl⟩) | (go_at_call 131; refine (isDigit_any _ _).mono ?_; rintro e w' ⟨rfl, rfl⟩))
              first
              | (go_round
                 case rel => exact ⟨k + 1, by omega, by omega, by go_num, all_take_succ' hlt HA.out (by rw [hC.out, hL, hD, hM]; rfl)⟩
                 case measure => simp [intOf]; omega)
              | (go_ret
                 exact ⟨ret_bool (gSym_bad' hlt (by rw [hC.out, hL, hD, hM]; rfl)).symm, rfl⟩)
          · go_wp2
            go_ret
            exact ⟨ret_bool (gSym_good' hp (by omega) H2.out (by omega) HA.out).symm, rfl⟩
      · have h2' : isL (s[0].toNat : Int) = false := by simpa using h2
        have G : Hid (gSym s.data.toList = false) := gSym_head (by rw [head_get s hp]; exact h2')
        clear h2
        go_enter Tryz.func124, Tryz.ntmps124
        go_wp2_with (go_at_call 133; refine (isLetter_any _ _).mono ?_; rintro e w' ⟨rfl, rfl⟩)
        go_ret
        exact ⟨ret_bool G.out.symm, rfl⟩

set_option maxHeartbeats 800000 in
theorem l1GoodSym_any (s : ByteArray) (w : World) (hs : s.size ≤ maxLen) :
    Calls Tryz.prog 67 #[.string s] w fun e w' => e = .returned (.bool (gSym s.data.toList)) ∧ w' = w := by
  unfold maxLen at hs
  by_cases h0 : s.size < 1
  · have G : Hid (gSym s.data.toList = false) := gSym_short (s := s.data.toList) (by rw [size_data]; omega)
    have t1 : (s.size : Int) < 1 := by omega
    go_enter Tryz.func67, Tryz.ntmps67
    go_wp2
    go_ret
    exact ⟨ret_bool G.out.symm, rfl⟩
  · by_cases h1 : 20 < s.size
    · have G : Hid (gSym s.data.toList = false) := gSym_long (s := s.data.toList) (by rw [size_data]; omega)
      have t1 : (20 : Int) < s.size := by omega
      go_enter Tryz.func67, Tryz.ntmps67
      go_wp2
      go_ret
      exact ⟨ret_bool G.out.symm, rfl⟩
    · have hp : 0 < s.size := by omega
      have d1 : decide ((s.size : Int) < 1) = false := by simp; omega
      have d2 : decide ((20 : Int) < s.size) = false := by simp; omega
      by_cases h2 : isL (s[0].toNat : Int) = true
      · have H2 : Hid (isL (s[0].toNat : Int) = true) := h2
        simp only [isL, Bool.and_eq_true, decide_eq_true_eq] at h2
        obtain ⟨h2a, h2b⟩ := h2
        have d3 : decide ((s[0].toNat : Int) < 97) = false := by simp; omega
        have d4 : decide ((122 : Int) < (s[0].toNat : Int)) = false := by simp; omega
        go_enter Tryz.func67, Tryz.ntmps67
        go_wp2
        clear h2a h2b d3 d4
        go_loop [3] (fun i => ∃ k : Nat, k ≤ s.size ∧ i = .int .i64 k ∧ (s.data.toList.take k).all byteC = true) (fun i => s.size - (intOf i).toNat)
        case atStart => exact ⟨0, by omega, rfl, by simp⟩
        case round =>
          obtain ⟨k, hk, rfl, hall⟩ := hrel
          have HA : Hid ((s.data.toList.take k).all byteC = true) := hall
          clear hall
          by_cases hlt : k < s.size
          · rcases (show (s[k].toNat : Int) < 45 ∨ (44 < (s[k].toNat : Int) ∧ (s[k].toNat : Int) < 46) ∨ (45 < (s[k].toNat : Int) ∧ (s[k].toNat : Int) < 48) ∨ (48 ≤ (s[k].toNat : Int) ∧ (s[k].toNat : Int) ≤ 57) ∨ (57 < (s[k].toNat : Int) ∧ (s[k].toNat : Int) < 97) ∨ (97 ≤ (s[k].toNat : Int) ∧ (s[k].toNat : Int) ≤ 122) ∨ 122 < (s[k].toNat : Int) from by omega) with hr | ⟨hr, hr'⟩ | ⟨hr, hr'⟩ | ⟨hr, hr'⟩ | ⟨hr, hr'⟩ | ⟨hr, hr'⟩ | hr
            all_goals
              first
              | have he : ((s[k].toNat : Int) == 45) = false := (by simp; omega)
              | have he : ((s[k].toNat : Int) == 45) = true := (by simp; omega)
              first
              | have hf : decide ((s[k].toNat : Int) ≤ 57) = false := (by simp; omega)
              | have hf : decide ((s[k].toNat : Int) ≤ 57) = true := (by simp; omega)
              first
              | have hg : decide ((s[k].toNat : Int) ≤ 122) = false := (by simp; omega)
              | have hg : decide ((s[k].toNat : Int) ≤ 122) = true := (by simp; omega)
              go_wp2
              first
              | (go_round
                 case rel => exact ⟨k + 1, by omega, by go_num, all_take_succ' hlt HA.out (isC_in (by omega))⟩
                 case measure => simp [intOf]; omega)
              | (go_ret
                 exact ⟨ret_bool (gSym_bad' hlt (isC_out (by omega))).symm, rfl⟩)
          · go_wp2
            go_ret
            exact ⟨ret_bool (gSym_good' hp (by omega) H2.out (by omega) HA.out).symm, rfl⟩
      · have h2' : isL (s[0].toNat : Int) = false := by simpa using h2
        have G : Hid (gSym s.data.toList = false) := gSym_head (by rw [head_get s hp]; exact h2')
        clear h2
        have h3 : (s[0].toNat : Int) < 97 ∨ (97 ≤ (s[0].toNat : Int) ∧ 122 < (s[0].toNat : Int)) := by
          simp only [isL, Bool.and_eq_false_iff, decide_eq_false_iff_not] at h2'
          omega
        rcases h3 with h3 | ⟨h3, h4⟩
        all_goals
          clear h2'
          go_enter Tryz.func67, Tryz.ntmps67
          go_wp2
          go_ret
          exact ⟨ret_bool G.out.symm, rfl⟩
end Go.Proofs.YtdhpoagjmiligaaGreatDoor

namespace Go.Proofs.YtdhpoagjmiligaaGreatDoor
open Go.RowKit
attribute [local go_sem ↓] Go.wp_at_zero Go.wp_at_succ

set_option maxHeartbeats 400000 in
theorem eqValue_same (v : V) (w : World) :
    Calls Tryz.prog 113 #[.agg #[.int .i64 v.kind, .int .i64 v.num, .string v.sym], .agg #[.int .i64 v.kind, .int .i64 v.num, .string v.sym]] w fun e w' =>
      e = .returned (.bool true) ∧ Below w.heap.size w w' := by
  go_enter Tryz.func113, Tryz.ntmps113
  go_wp2
  go_ret
  exact ⟨rfl, ((Below.refl _ _).alloc (Nat.le_refl _) _).alloc (by simp) _⟩
end Go.Proofs.YtdhpoagjmiligaaGreatDoor
