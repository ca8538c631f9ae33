/-
  OUR OWN TEXT. Plain, Own, Mem, one behind the other.
-/
import Derived.WalkKit
import Derived.WalkSpells
import Derived.WalkLawsBesides
import Derived.Laws.IdiomCopy
import Derived.Test.YtfgpcjdjbbhdmaaGreatDoorRows
namespace Go.Proofs.YtfgpcjdjbbhdmaaGreatDoor

/-- A letter 'a' to 'z'; a digit; a byte of a symbol: of a byte as a number. -/
def isL (c : Int) : Bool := decide (97 ≤ c) && decide (c ≤ 122)
def isD (c : Int) : Bool := decide (48 ≤ c) && decide (c ≤ 57)
def isC (c : Int) : Bool := isL c || isD c || decide (c = 45)
def byteL (c : UInt8) : Bool := isL (c.toNat : Int)
def byteC (c : UInt8) : Bool := isC (c.toNat : Int)

/-- A good symbol. -/
def gSym (s : List UInt8) : Bool := decide (1 ≤ s.length) && decide (s.length ≤ 20) && byteL (s.headD 0) && s.all byteC

theorem isC_of_isL {c : Int} (h : isL c = true) : isC c = true := by simp [isC, h]

theorem gSym_short {s : List UInt8} (h : s.length = 0) : gSym s = false := by simp [gSym, h]
theorem gSym_long {s : List UInt8} (h : 20 < s.length) : gSym s = false := by
  have : decide (s.length ≤ 20) = false := by simpa using h
  simp [gSym, this]
theorem gSym_head {s : List UInt8} (h : byteL (s.headD 0) = false) : gSym s = false := by simp only [gSym, h, Bool.and_false, Bool.false_and]
theorem gSym_bad {s : List UInt8} {k : Nat} (hk : k < s.length) (h : byteC s[k] = false) : gSym s = false := by
  have : s.all byteC = false := by
    rw [List.all_eq_false]
    exact ⟨s[k], List.getElem_mem hk, by simp [h]⟩
  simp [gSym, this]
theorem gSym_good {s : List UInt8} (h1 : 1 ≤ s.length) (h2 : s.length ≤ 20) (h3 : byteL (s.headD 0) = true) (h4 : s.all byteC = true) : gSym s = true := by
  simp only [gSym, h3, h4, Bool.and_true, Bool.and_eq_true, decide_eq_true_eq]
  exact ⟨h1, h2⟩
theorem all_take_succ {s : List UInt8} {k : Nat} (hk : k < s.length) (h : (s.take k).all byteC = true) (hc : byteC s[k] = true) : (s.take (k + 1)).all byteC = true := by
  rw [List.take_succ_eq_append_getElem hk, List.all_append, h]
  simp [hc]

end Go.Proofs.YtfgpcjdjbbhdmaaGreatDoor

namespace Go.Proofs.YtfgpcjdjbbhdmaaGreatDoor
open Go.RowKit

theorem take_succ' {α : Type} (l : List α) (k : Nat) (x : α) (h : l[k]? = some x) : l.take (k + 1) = l.take k ++ [x] := by
  obtain ⟨hk, rfl⟩ := List.getElem?_eq_some_iff.1 h
  exact List.take_succ_eq_append_getElem hk

theorem map_take_succ {α β : Type} (f : α → β) (l : List α) (k : Nat) (x : α) (h : l[k]? = some x) : (l.take (k + 1)).map f = (l.take k).map f ++ [f x] := by
  obtain ⟨hk, rfl⟩ := List.getElem?_eq_some_iff.1 h
  rw [List.take_succ_eq_append_getElem hk, List.map_append]
  rfl

theorem drop_cons {α : Type} {l : List α} {k : Nat} {x : α} (h : l[k]? = some x) : l.drop k = x :: l.drop (k + 1) := by
  obtain ⟨hk, rfl⟩ := List.getElem?_eq_some_iff.1 h
  exact List.drop_eq_getElem_cons hk

theorem lt_of_block' {w : World} {g : Nat} {o : Obj} (h : w.heap[g]? = some o) : g < w.heap.size := (Array.getElem?_eq_some_iff.1 h).1

theorem heap_setCell_same {w : World} {g i : Nat} {c : Array Value} {t : TypeId} {fr : Nat × Nat} (h : w.heap[g]? = some (.cells c t fr)) (x : Value) :
    (w.setCell ⟨g, i, none⟩ x).heap[g]? = some (.cells (c.setIfInBounds i x) t fr) := by
  simp [World.setCell, Array.getElem?_modify, h]

theorem heap_setCells_same : ∀ (vs : List Value) (o : Nat) (w : World) (g : Nat) (c : Array Value) (t : TypeId) (fr : Nat × Nat), w.heap[g]? = some (.cells c t fr) →
    ∃ c', (w.setCells g o vs).heap[g]? = some (.cells c' t fr) ∧ c'.size = c.size ∧ (∀ j x, vs[j]? = some x → o + j < c.size → c'[o + j]? = some x) ∧ (∀ i, i < o ∨ o + vs.length ≤ i → c'[i]? = c[i]?)
  | [], o, w, g, c, t, fr, h => ⟨c, h, rfl, fun j x hj => by simp at hj, fun _ _ => rfl⟩
  | v :: r, o, w, g, c, t, fr, h => by
    obtain ⟨c', h1, h2, h3, h4⟩ := heap_setCells_same r (o + 1) _ g _ t fr (heap_setCell_same (i := o) h v)
    refine ⟨c', h1, by rw [h2]; simp, ?_, ?_⟩
    · intro j x hj hlt
      cases j with
      | zero =>
        simp at hj
        subst hj
        rw [Nat.add_zero, h4 o (Or.inl (Nat.lt_succ_self o)), Array.getElem?_setIfInBounds]
        simp at hlt
        simp [hlt]
      | succ j =>
        have := h3 j x (by simpa using hj) (by simp; omega)
        rwa [show o + 1 + j = o + (j + 1) by omega] at this
    · intro i hi
      rw [h4 i (by simp at hi; omega), Array.getElem?_setIfInBounds, if_neg (by simp at hi; omega)]

theorem heap_setCells_far : ∀ (vs : List Value) (o : Nat) (w : World) (g k : Nat), k ≠ g → (w.setCells g o vs).heap[k]? = w.heap[k]?
  | [], _, _, _, _, _ => rfl
  | v :: r, o, w, g, k, h => by
    rw [World.setCells, heap_setCells_far r (o + 1) _ g k h]
    exact Below.heap_setCell _ _ _ _ h

theorem size_setCells : ∀ (vs : List Value) (o : Nat) (w : World) (g : Nat), (w.setCells g o vs).heap.size = w.heap.size
  | [], _, _, _ => rfl
  | v :: r, o, w, g => by rw [World.setCells, size_setCells r (o + 1) _ g]; simp [World.setCell]

theorem Below.setCells {B : Nat} {a : World} : ∀ (vs : List Value) (o : Nat) (w : World) (g : Nat), Below B a w → B ≤ g → Below B a (w.setCells g o vs)
  | [], _, _, _, h, _ => h
  | v :: r, o, _, g, h, hg => Below.setCells r (o + 1) _ g (h.setCell (p := ⟨g, o, none⟩) hg v) hg

/-- All old cells and all old marks read as before. -/
theorem bcell {W w1 : World} (hb : Below W.heap.size W w1) : (∀ b o, b < W.heap.size → w1.cell? ⟨b, o, none⟩ = W.cell? ⟨b, o, none⟩) ∧ (∀ b o, b < W.heap.size → w1.frozen? ⟨b, o, none⟩ = W.frozen? ⟨b, o, none⟩) :=
  ⟨fun b o h => hb.cell (p := ⟨b, o, none⟩) h, fun b o h => hb.frozen (p := ⟨b, o, none⟩) h⟩

/-- Block g is of cells of type t, none frozen; it has room for N rows of m cells; its first rows are rs. -/
def OwnB (w : World) (g : Nat) (t : TypeId) (m N : Nat) (rs : List (List Value)) : Prop :=
  ∃ c : Array Value, w.heap[g]? = some (.cells c t (0, 0)) ∧ c.size = N * m ∧ rs.length ≤ N ∧ ∀ i r, rs[i]? = some r → r.length = m ∧ ∀ j x, r[j]? = some x → c[i * m + j]? = some x

theorem OwnB.lt {w : World} {g : Nat} {t : TypeId} {m N : Nat} {rs : List (List Value)} (h : OwnB w g t m N rs) : g < w.heap.size := by
  obtain ⟨c, h1, _⟩ := h
  exact lt_of_block' h1

theorem OwnB.of_block {w w' : World} {g : Nat} {t : TypeId} {m N : Nat} {rs : List (List Value)} (h : OwnB w g t m N rs) (e : w'.heap[g]? = w.heap[g]?) : OwnB w' g t m N rs := by
  obtain ⟨c, h1, h2⟩ := h
  exact ⟨c, e.trans h1, h2⟩

theorem OwnB.below {w w' : World} {g B : Nat} {t : TypeId} {m N : Nat} {rs : List (List Value)} (h : OwnB w g t m N rs) (hb : Below B w w') (hg : g < B) : OwnB w' g t m N rs :=
  h.of_block (hb.block g hg)

theorem OwnB.cell {w : World} {g : Nat} {t : TypeId} {m N : Nat} {rs : List (List Value)} (h : OwnB w g t m N rs) {i j : Nat} {r : List Value} {x : Value} (hi : rs[i]? = some r) (hj : r[j]? = some x) :
    w.cell? ⟨g, i * m + j, none⟩ = some x := by
  obtain ⟨c, h1, _, _, h3⟩ := h
  simp [World.cell?, h1, (h3 i r hi).2 j x hj]

theorem OwnB.there {w : World} {g : Nat} {t : TypeId} {m N : Nat} {rs : List (List Value)} (h : OwnB w g t m N rs) {i j : Nat} (hi : i < N) (hj : j < m) : ∃ x, w.cell? ⟨g, i * m + j, none⟩ = some x := by
  obtain ⟨c, h1, h2, _, _⟩ := h
  have hlt : i * m + j < c.size := by
    rw [h2]
    have : (i + 1) * m ≤ N * m := Nat.mul_le_mul_right m hi
    rw [Nat.succ_mul] at this
    omega
  exact ⟨c[i * m + j], by simp [World.cell?, h1, hlt]⟩

theorem OwnB.free {w : World} {g : Nat} {t : TypeId} {m N : Nat} {rs : List (List Value)} (h : OwnB w g t m N rs) (i : Nat) : w.frozen? ⟨g, i, none⟩ = false := by
  obtain ⟨c, h1, _⟩ := h
  simp [World.frozen?, h1]

theorem OwnB.at3 {w : World} {g : Nat} {t : TypeId} {N : Nat} {rs : List (List Value)} (h : OwnB w g t 3 N rs) {i : Nat} (hi : i < N) :
    (∃ x, w.cell? ⟨g, i * 3, none⟩ = some x) ∧ (∃ x, w.cell? ⟨g, i * 3 + 1, none⟩ = some x) ∧ (∃ x, w.cell? ⟨g, i * 3 + 2, none⟩ = some x) ∧
      w.frozen? ⟨g, i * 3, none⟩ = false ∧ w.frozen? ⟨g, i * 3 + 1, none⟩ = false ∧ w.frozen? ⟨g, i * 3 + 2, none⟩ = false :=
  ⟨h.there (j := 0) hi (by omega), h.there (j := 1) hi (by omega), h.there (j := 2) hi (by omega), h.free _, h.free _, h.free _⟩

/-- One row more. -/
theorem OwnB.put {w : World} {g : Nat} {t : TypeId} {m N : Nat} {rs : List (List Value)} (h : OwnB w g t m N rs) (r : List Value) (hr : r.length = m) (hN : rs.length < N) : OwnB (w.setCells g (rs.length * m) r) g t m N (rs ++ [r]) := by
  obtain ⟨c, h1, h2, h3, h4⟩ := h
  obtain ⟨c', k1, k2, k3, k4⟩ := heap_setCells_same r (rs.length * m) w g c t (0, 0) h1
  refine ⟨c', k1, by rw [k2, h2], by simp; omega, ?_⟩
  intro i q hi
  by_cases hlt : i < rs.length
  · rw [List.getElem?_append_left hlt] at hi
    obtain ⟨hq, hc⟩ := h4 i q hi
    refine ⟨hq, fun j x hj => ?_⟩
    have hjm : j < q.length := (List.getElem?_eq_some_iff.1 hj).1
    rw [k4 _ (Or.inl ?_)]
    · exact hc j x hj
    · have : (i + 1) * m ≤ rs.length * m := Nat.mul_le_mul_right m hlt
      rw [Nat.succ_mul] at this
      omega
  · have hil : i < (rs ++ [r]).length := (List.getElem?_eq_some_iff.1 hi).1
    simp at hil
    obtain rfl : i = rs.length := by omega
    simp at hi
    subst hi
    refine ⟨hr, fun j x hj => k3 j x hj ?_⟩
    have hjm : j < r.length := (List.getElem?_eq_some_iff.1 hj).1
    rw [h2]
    have : (rs.length + 1) * m ≤ N * m := Nat.mul_le_mul_right m hN
    rw [Nat.succ_mul] at this
    omega

theorem OwnB.setOther {w : World} {g : Nat} {t : TypeId} {m N : Nat} {rs : List (List Value)} (h : OwnB w g t m N rs) {p : Addr} (hp : g ≠ p.block) (x : Value) : OwnB (w.setCell p x) g t m N rs :=
  h.of_block (Below.heap_setCell _ _ _ _ hp)

theorem OwnB.put3 {w : World} {g : Nat} {t : TypeId} {N k : Nat} {rs : List (List Value)} (h : OwnB w g t 3 N rs) (hk : rs.length = k) (hN : k < N) (x y z : Value) :
    OwnB (((w.setCell ⟨g, k * 3, none⟩ x).setCell ⟨g, k * 3 + 1, none⟩ y).setCell ⟨g, k * 3 + 2, none⟩ z) g t 3 N (rs ++ [[x, y, z]]) := by
  subst hk
  exact h.put [x, y, z] rfl hN

theorem OwnB.made (w : World) (z : Array Value) (t : TypeId) (m N : Nat) : OwnB (w.alloc (.cells (madeCells z (N * m)) t)) w.heap.size t m N [] :=
  ⟨_, heap_alloc_new _ _, size_madeCells _ _, Nat.zero_le _, fun i r h => by simp at h⟩

theorem OwnB.alloc {w : World} {g : Nat} {t : TypeId} {m N : Nat} {rs : List (List Value)} (h : OwnB w g t m N rs) (o : Obj) : OwnB (w.alloc o) g t m N rs :=
  h.of_block (Below.heap_alloc _ _ _ h.lt)

end Go.Proofs.YtfgpcjdjbbhdmaaGreatDoor

namespace Go.Proofs.YtfgpcjdjbbhdmaaGreatDoor
open Go.RowKit

/-- A value of the language, as plain data: its kind, its number, its symbol. -/
abbrev V := Int × Int × ByteArray
def V.kind (v : V) : Int := v.1
def V.num (v : V) : Int := v.2.1
def V.sym (v : V) : ByteArray := v.2.2
theorem V.same {v u : V} (h1 : v.kind = u.kind) (h2 : v.num = u.num) (h3 : v.sym = u.sym) : v = u := Prod.ext h1 (Prod.ext h2 h3)

/-- A fact, as plain data. -/
structure F where
  tag : Int
  cls : ByteArray
  slots : List V

/-- The values of vs lie from address a on (nothing is said of the address of no values). -/
def ValsAt (w : World) (a : Option Addr) (vs : List V) : Prop :=
  ∀ (i : Nat) (v : V), vs[i]? = some v → ∃ b o, a = some ⟨b, o, none⟩ ∧ w.cell? ⟨b, o + i * 3, none⟩ = some (.int .i64 v.kind) ∧
    w.cell? ⟨b, o + i * 3 + 1, none⟩ = some (.int .i64 v.num) ∧ w.cell? ⟨b, o + i * 3 + 2, none⟩ = some (.string v.sym)

/-- The facts of fs lie from address a on, each with its slots. -/
def FactsAt (w : World) (a : Option Addr) (fs : List F) : Prop :=
  ∀ (i : Nat) (f : F), fs[i]? = some f → ∃ b o, a = some ⟨b, o, none⟩ ∧ w.cell? ⟨b, o + i * 3, none⟩ = some (.int .i64 f.tag) ∧
    w.cell? ⟨b, o + i * 3 + 1, none⟩ = some (.string f.cls) ∧ ∃ a' c, w.cell? ⟨b, o + i * 3 + 2, none⟩ = some (.slice a' f.slots.length c) ∧ ValsAt w a' f.slots

theorem cell_below {w w' : World} {p : Addr} {x : Value} (hb : Below w.heap.size w w') (h : w.cell? p = some x) : w'.cell? p = some x := by
  rw [hb.cell (p := p) ?_]
  · exact h
  · unfold World.cell? at h
    by_cases hp : p.block < w.heap.size
    · exact hp
    · rw [Array.getElem?_eq_none (by omega)] at h
      simp at h

theorem ValsAt.below {w w' : World} {a : Option Addr} {vs : List V} (h : ValsAt w a vs) (hb : Below w.heap.size w w') : ValsAt w' a vs := by
  intro i v hv
  obtain ⟨b, o, rfl, h1, h2, h3⟩ := h i v hv
  exact ⟨b, o, rfl, cell_below hb h1, cell_below hb h2, cell_below hb h3⟩

theorem FactsAt.below {w w' : World} {a : Option Addr} {fs : List F} (h : FactsAt w a fs) (hb : Below w.heap.size w w') : FactsAt w' a fs := by
  intro i f hf
  obtain ⟨b, o, rfl, h1, h2, a', c, h3, h4⟩ := h i f hf
  exact ⟨b, o, rfl, cell_below hb h1, cell_below hb h2, a', c, cell_below hb h3, h4.below hb⟩

/-- A value's, a fact's cells. -/
def V.cells (v : V) : List Value := [.int .i64 v.kind, .int .i64 v.num, .string v.sym]
def fcells (f : F) (x : Value) : List Value := [.int .i64 f.tag, .string f.cls, x]

theorem ValsAt.own {w : World} {g : Nat} {t : TypeId} {N : Nat} {vs : List V} (h : OwnB w g t 3 N (vs.map V.cells)) : ValsAt w (some ⟨g, 0, none⟩) vs := by
  intro i v hv
  have hi : (vs.map V.cells)[i]? = some v.cells := by simp [hv]
  refine ⟨g, 0, rfl, ?_, ?_, ?_⟩
  · simpa using h.cell hi (j := 0) rfl
  · simpa using h.cell hi (j := 1) rfl
  · simpa using h.cell hi (j := 2) rfl

/-- How many values and letters: what the laws count. -/
def szV (v : V) : Nat := v.sym.size
def szVs (vs : List V) : Nat := vs.length + (vs.map szV).sum
def szF (f : F) : Nat := f.cls.size + szVs f.slots
def szFs (fs : List F) : Nat := fs.length + (fs.map szF).sum

theorem sum_take_succ {α : Type} (g : α → Nat) (l : List α) (k : Nat) (x : α) (h : l[k]? = some x) : ((l.take (k + 1)).map g).sum = ((l.take k).map g).sum + g x := by
  obtain ⟨hk, rfl⟩ := List.getElem?_eq_some_iff.1 h
  rw [List.take_succ_eq_append_getElem hk, List.map_append, List.sum_append]
  simp only [List.map_cons, List.map_nil, List.sum_cons, List.sum_nil, Nat.add_zero]

theorem ret_int {k : IntKind} {a b : Int} (h : a = b) : Ending.returned (.int k a) = .returned (.int k b) := by rw [h]

end Go.Proofs.YtfgpcjdjbbhdmaaGreatDoor
