/-
  OUR OWN TEXT. Gm, Ty, Chk, one behind the other.
-/
import Derived.Test.YtfgpcjdjbbhdmaaGreatDoorZa
import Derived.Test.YtfgpcjdjbbhdmaaGreatDoorZb
namespace Go.Proofs.YtfgpcjdjbbhdmaaGreatDoor
open Go.RowKit

/-- What a block must be: nothing is asked, or it is of this type, none of it frozen, and no older than B. -/
def Qb (q : Option Nat) (w : World) (t : TypeId) (b : Nat) : Prop := ∀ B, q = some B → B ≤ b ∧ ∃ c, w.heap[b]? = some (.cells c t (0, 0))

/-- All blocks from B on are as they were. -/
def Low (B : Nat) (w w' : World) : Prop := ∀ b, B ≤ b → w'.heap[b]? = w.heap[b]?

theorem Low.refl (B : Nat) (w : World) : Low B w w := fun _ _ => rfl
theorem Low.trans {B : Nat} {w w' w'' : World} (h : Low B w w') (h' : Low B w' w'') : Low B w w'' := fun b hb => (h' b hb).trans (h b hb)
theorem Low.setCell {B g i : Nat} {w : World} (hg : g < B) (x : Value) : Low B w (w.setCell ⟨g, i, none⟩ x) := fun b hb => Below.heap_setCell _ _ _ _ (by simp; omega)
theorem Low.setCells {B g : Nat} (hg : g < B) : ∀ (vs : List Value) (o : Nat) (w : World), Low B w (w.setCells g o vs)
  | [], _, _ => Low.refl _ _
  | v :: r, o, _ => (Low.setCell hg v).trans (Low.setCells hg r (o + 1) _)

theorem Qb.bare (w : World) (t : TypeId) (b : Nat) : Qb none w t b := fun B h => by cases h
theorem Qb.low {B : Nat} {w w' : World} {t : TypeId} {b : Nat} (h : Qb (some B) w t b) (hs : Low B w w') : Qb (some B) w' t b := by
  intro B' e
  obtain ⟨h1, c, h2⟩ := h B' e
  injection e with e
  subst e
  exact ⟨h1, c, (hs b h1).trans h2⟩
theorem Qb.older {B B' : Nat} (hB : B' ≤ B) {w : World} {t : TypeId} {b : Nat} (h : Qb (some B) w t b) : Qb (some B') w t b := by
  intro B'' e
  injection e with e
  subst e
  obtain ⟨h1, h2⟩ := h B rfl
  exact ⟨by omega, h2⟩
theorem Qb.below {q : Option Nat} {w w' : World} {t : TypeId} {b : Nat} (h : Qb q w t b) (hb : Below w.heap.size w w') : Qb q w' t b := by
  cases q with
  | none => exact Qb.bare _ _ _
  | some B =>
    intro B' e
    obtain ⟨h1, c, h2⟩ := h B' e
    exact ⟨h1, c, (hb.block b (lt_of_block' h2)).trans h2⟩

section
variable {α : Type}

/-- The data xs lie from address a on, each in a row of m cells (nothing is said of the address of no data). -/
def RowsAt (R : World → List Value → α → Prop) (q : Option Nat) (t : TypeId) (m : Nat) (w : World) (a : Option Addr) (xs : List α) : Prop :=
  ∀ (i : Nat) (x : α), xs[i]? = some x → ∃ b o r, a = some ⟨b, o, none⟩ ∧ Qb q w t b ∧ r.length = m ∧ (∀ j v, r[j]? = some v → w.cell? ⟨b, o + i * m + j, none⟩ = some v) ∧ R w r x

variable {R R' : World → List Value → α → Prop} {q q' : Option Nat} {t : TypeId} {m : Nat} {w w' : World} {a : Option Addr} {xs : List α}

theorem RowsAt.nil : RowsAt R q t m w a ([] : List α) := fun i x h => by simp at h

theorem RowsAt.below (h : RowsAt R q t m w a xs) (hR : ∀ r x, x ∈ xs → R w r x → R w' r x) (hb : Below w.heap.size w w') : RowsAt R q t m w' a xs := by
  intro i x hx
  obtain ⟨b, o, r, h1, h2, h3, h4, h5⟩ := h i x hx
  exact ⟨b, o, r, h1, h2.below hb, h3, fun j v hj => cell_below hb (h4 j v hj), hR r x (List.mem_of_getElem? hx) h5⟩

theorem RowsAt.low {B : Nat} (h : RowsAt R (some B) t m w a xs) (hR : ∀ r x, x ∈ xs → R w r x → R w' r x) (hs : Low B w w') : RowsAt R (some B) t m w' a xs := by
  intro i x hx
  obtain ⟨b, o, r, h1, h2, h3, h4, h5⟩ := h i x hx
  refine ⟨b, o, r, h1, h2.low hs, h3, fun j v hj => ?_, hR r x (List.mem_of_getElem? hx) h5⟩
  obtain ⟨hb, _⟩ := h2 B rfl
  have := h4 j v hj
  unfold World.cell? at this ⊢
  rw [hs b hb]
  exact this

theorem RowsAt.weak (h : RowsAt R q t m w a xs) (hq : ∀ b, Qb q w t b → Qb q' w t b) (hR : ∀ r x, x ∈ xs → R w r x → R' w r x) : RowsAt R' q' t m w a xs := by
  intro i x hx
  obtain ⟨b, o, r, h1, h2, h3, h4, h5⟩ := h i x hx
  exact ⟨b, o, r, h1, hq b h2, h3, h4, hR r x (List.mem_of_getElem? hx) h5⟩

/-- A part of what lies there. -/
theorem RowsAt.drop (h : RowsAt R q t m w a xs) {b o k : Nat} (ha : a = some ⟨b, o, none⟩) : RowsAt R q t m w (some ⟨b, o + k * m, none⟩) (xs.drop k) := by
  intro i x hx
  rw [List.getElem?_drop] at hx
  obtain ⟨b', o', r, h1, h2, h3, h4, h5⟩ := h (k + i) x hx
  rw [ha] at h1
  injection h1 with h1
  injection h1 with e1 e2 _
  subst e1 e2
  refine ⟨b, o + k * m, r, rfl, h2, h3, fun j v hj => ?_, h5⟩
  have := h4 j v hj
  rwa [show o + (k + i) * m + j = o + k * m + i * m + j by rw [Nat.add_mul]; omega] at this
theorem RowsAt.take (h : RowsAt R q t m w a xs) (k : Nat) : RowsAt R q t m w a (xs.take k) := by
  intro i x hx
  rw [List.getElem?_take] at hx
  split at hx
  · exact h i x hx
  · cases hx

/-- The data xs are the first rows of block g, which is the call's own. -/
def RowsOwn (R : World → List Value → α → Prop) (t : TypeId) (m : Nat) (w : World) (g N : Nat) (xs : List α) : Prop :=
  ∃ rows, OwnB w g t m N rows ∧ rows.length = xs.length ∧ ∀ (i : Nat) (x : α) (r : List Value), xs[i]? = some x → rows[i]? = some r → R w r x

theorem RowsOwn.lt {g N : Nat} (h : RowsOwn R t m w g N xs) : g < w.heap.size := by
  obtain ⟨_, h, _⟩ := h
  exact h.lt

theorem RowsOwn.at {g N B : Nat} (h : RowsOwn R t m w g N xs) (hB : B ≤ g) : RowsAt R (some B) t m w (some ⟨g, 0, none⟩) xs := by
  obtain ⟨rows, ho, hl, hR⟩ := h
  intro i x hx
  have hi : i < rows.length := by rw [hl]; exact (List.getElem?_eq_some_iff.1 hx).1
  have hr : rows[i]? = some rows[i] := List.getElem?_eq_getElem hi
  obtain ⟨c, h1, h2, h3, h4⟩ := ho
  refine ⟨g, 0, rows[i], rfl, ?_, (h4 i _ hr).1, ?_, hR i x _ hx hr⟩
  · intro B' e
    injection e with e
    subst e
    exact ⟨hB, c, h1⟩
  · intro j v hj
    rw [Nat.zero_add]
    exact OwnB.cell ⟨c, h1, h2, h3, h4⟩ hr hj

theorem RowsOwn.start (z : Array Value) (N : Nat) : RowsOwn R t m (w.alloc (.cells (madeCells z (N * m)) t)) w.heap.size N ([] : List α) :=
  ⟨[], OwnB.made _ _ _ _ _, rfl, fun i x r hx => by simp at hx⟩

theorem RowsOwn.below {g N : Nat} (h : RowsOwn R t m w g N xs) (hR : ∀ r x, x ∈ xs → R w r x → R w' r x) (hb : Below w.heap.size w w') : RowsOwn R t m w' g N xs := by
  obtain ⟨rows, ho, hl, h⟩ := h
  exact ⟨rows, ho.below hb ho.lt, hl, fun i x r hx hr => hR r x (List.mem_of_getElem? hx) (h i x r hx hr)⟩

/-- Cells of one row that is to be written. -/
theorem RowsOwn.room {g N k : Nat} (h : RowsOwn R t m w g N xs) (hk : k < N) (j : Nat) (hj : j < m) : ∃ x, w.cell? ⟨g, k * m + j, none⟩ = some x := by
  obtain ⟨rows, ho, _⟩ := h
  exact ho.there hk hj
theorem RowsOwn.free {g N : Nat} (h : RowsOwn R t m w g N xs) (i : Nat) : w.frozen? ⟨g, i, none⟩ = false := by
  obtain ⟨rows, ho, _⟩ := h
  exact ho.free i

/-- One row more. -/
theorem RowsOwn.put {g N k : Nat} {x : α} {r : List Value} (h : RowsOwn R t m w g N xs) (hk : xs.length = k) (hN : k < N) (hr : r.length = m) (hx : R w r x)
    (hR : ∀ s y, (y ∈ xs ∨ y = x) → R w s y → R (w.setCells g (k * m) r) s y) : RowsOwn R t m (w.setCells g (k * m) r) g N (xs ++ [x]) := by
  obtain ⟨rows, ho, hl, h⟩ := h
  refine ⟨rows ++ [r], ?_, by simp [hl], ?_⟩
  · have := ho.put r hr (by omega)
    rwa [show rows.length = k by omega] at this
  · intro i y s hy hs
    by_cases hi : i < xs.length
    · rw [List.getElem?_append_left hi] at hy
      rw [List.getElem?_append_left (by omega)] at hs
      exact hR _ _ (.inl (List.mem_of_getElem? hy)) (h i y s hy hs)
    · have hil : i < (xs ++ [x]).length := (List.getElem?_eq_some_iff.1 hy).1
      simp at hil
      obtain rfl : i = xs.length := by omega
      simp at hy
      rw [List.getElem?_append_right (by omega)] at hs
      simp [hl] at hs
      subst hy hs
      exact hR _ _ (.inr rfl) hx
end

/-- Sizes: how many, and of each how much. -/
def szL {α : Type} (sz : α → Nat) (xs : List α) : Nat := xs.length + (xs.map sz).sum
def ListLe {α : Type} (le : Nat → α → Prop) (N : Nat) (xs : List α) : Prop := xs.length ≤ N ∧ ∀ x ∈ xs, le N x
theorem le_sumG {α : Type} (g : α → Nat) (l : List α) (x : α) (h : x ∈ l) : g x ≤ (l.map g).sum := by
  induction l with
  | nil => simp at h
  | cons y r ih =>
    simp only [List.map_cons, List.sum_cons]
    rcases List.mem_cons.1 h with rfl | h
    · omega
    · have := ih h
      omega
theorem listLe {α : Type} {sz : α → Nat} {le : Nat → α → Prop} (h : ∀ N x, sz x ≤ N → le N x) {N : Nat} {xs : List α} (hs : szL sz xs ≤ N) : ListLe le N xs := by
  unfold szL at hs
  refine ⟨by omega, fun x hx => h N x ?_⟩
  have := le_sumG sz xs x hx
  omega
end Go.Proofs.YtfgpcjdjbbhdmaaGreatDoor

namespace Go.Proofs.YtfgpcjdjbbhdmaaGreatDoor
open Go.RowKit

/-- Numbers that lie in memory. -/
def intR (_ : World) (r : List Value) (x : Int) : Prop := r = [.int .i64 x]
theorem intR_any {w w' : World} {r : List Value} {x : Int} (h : intR w r x) : intR w' r x := h
abbrev IntsAt (q : Option Nat) (w : World) (a : Option Addr) (xs : List Int) : Prop := RowsAt intR q 3 1 w a xs
theorem IntsAt.below {q : Option Nat} {w w' : World} {a : Option Addr} {xs : List Int} (h : IntsAt q w a xs) (hb : Below w.heap.size w w') : IntsAt q w' a xs := RowsAt.below h (fun _ _ _ h => h) hb
theorem IntsAt.low {B : Nat} {w w' : World} {a : Option Addr} {xs : List Int} (h : IntsAt (some B) w a xs) (hb : Low B w w') : IntsAt (some B) w' a xs := RowsAt.low h (fun _ _ _ h => h) hb
theorem IntsAt.older {B B' : Nat} (hB : B' ≤ B) {w : World} {a : Option Addr} {xs : List Int} (h : IntsAt (some B) w a xs) : IntsAt (some B') w a xs := RowsAt.weak h (fun _ => Qb.older hB) (fun _ _ _ h => h)
theorem IntsAt.bare {q : Option Nat} {w : World} {a : Option Addr} {xs : List Int} (h : IntsAt q w a xs) : IntsAt none w a xs := RowsAt.weak h (fun b _ => Qb.bare _ _ b) (fun _ _ _ h => h)
theorem IntsAt.get {q : Option Nat} {w : World} {a : Option Addr} {xs : List Int} {i : Nat} {x : Int} (h : IntsAt q w a xs) (hi : xs[i]? = some x) : ∃ b o, a = some ⟨b, o, none⟩ ∧ Qb q w 3 b ∧ w.cell? ⟨b, o + i, none⟩ = some (.int .i64 x) := by
  obtain ⟨b, o, r, h1, h2, h3, h4, h5⟩ := h i x hi
  subst h5
  exact ⟨b, o, h1, h2, by simpa using h4 0 _ rfl⟩


structure Tm where
  kind : Int
  op : Int
  var : ByteArray
  val : V
def Tm.R (_ : World) (r : List Value) (x : Tm) : Prop := r = [.int .i64 x.kind, .int .i64 x.op, .string x.var, .int .i64 x.val.kind, .int .i64 x.val.num, .string x.val.sym]
theorem Tm.R_any {w w' : World} {r : List Value} {x : Tm} (h : Tm.R w r x) : Tm.R w' r x := h
abbrev TmsAt (q : Option Nat) (w : World) (a : Option Addr) (xs : List Tm) : Prop := RowsAt Tm.R q 90 6 w a xs
theorem TmsAt.below {q : Option Nat} {w w' : World} {a : Option Addr} {xs : List Tm} (h : TmsAt q w a xs) (hb : Below w.heap.size w w') : TmsAt q w' a xs := RowsAt.below h (fun _ _ _ h => h) hb
theorem TmsAt.low {B : Nat} {w w' : World} {a : Option Addr} {xs : List Tm} (h : TmsAt (some B) w a xs) (hb : Low B w w') : TmsAt (some B) w' a xs := RowsAt.low h (fun _ _ _ h => h) hb
theorem TmsAt.older {B B' : Nat} (hB : B' ≤ B) {w : World} {a : Option Addr} {xs : List Tm} (h : TmsAt (some B) w a xs) : TmsAt (some B') w a xs := RowsAt.weak h (fun _ => Qb.older hB) (fun _ _ _ h => h)
theorem TmsAt.bare {q : Option Nat} {w : World} {a : Option Addr} {xs : List Tm} (h : TmsAt q w a xs) : TmsAt none w a xs := RowsAt.weak h (fun b _ => Qb.bare _ _ b) (fun _ _ _ h => h)
theorem TmsAt.get {q : Option Nat} {w : World} {a : Option Addr} {xs : List Tm} {i : Nat} {x : Tm} (h : TmsAt q w a xs) (hi : xs[i]? = some x) : ∃ b o, a = some ⟨b, o, none⟩ ∧ Qb q w 90 b ∧ w.cell? ⟨b, o + i * 6, none⟩ = some (.int .i64 x.kind) ∧ w.cell? ⟨b, o + i * 6 + 1, none⟩ = some (.int .i64 x.op) ∧ w.cell? ⟨b, o + i * 6 + 2, none⟩ = some (.string x.var) ∧ w.cell? ⟨b, o + i * 6 + 3, none⟩ = some (.int .i64 x.val.kind) ∧ w.cell? ⟨b, o + i * 6 + 4, none⟩ = some (.int .i64 x.val.num) ∧ w.cell? ⟨b, o + i * 6 + 5, none⟩ = some (.string x.val.sym) := by
  obtain ⟨b, o, r, h1, h2, h3, h4, h5⟩ := h i x hi
  subst h5
  exact ⟨b, o, h1, h2, h4 0 _ rfl, h4 1 _ rfl, h4 2 _ rfl, h4 3 _ rfl, h4 4 _ rfl, h4 5 _ rfl⟩
def Tm.sz (x : Tm) : Nat := x.var.size + szV x.val
def Tm.le (N : Nat) (x : Tm) : Prop := x.var.size ≤ N ∧ x.val.sym.size ≤ N
theorem Tm.le_sz (N : Nat) (x : Tm) (h : x.sz ≤ N) : x.le N := by
  unfold Tm.sz at h
  exact ⟨by omega, by unfold szV at h; omega⟩

structure Pt where
  neg : Bool
  cls : ByteArray
  terms : List Tm
def Pt.R (q : Option Nat) (w : World) (r : List Value) (x : Pt) : Prop := ∃ a_terms c_terms, r = [.bool x.neg, .string x.cls, .slice a_terms x.terms.length c_terms] ∧ TmsAt q w a_terms x.terms ∧ x.terms.length ≤ c_terms
abbrev PtsAt (q : Option Nat) (w : World) (a : Option Addr) (xs : List Pt) : Prop := RowsAt (Pt.R q) q 86 3 w a xs
theorem PtsAt.below {q : Option Nat} {w w' : World} {a : Option Addr} {xs : List Pt} (h : PtsAt q w a xs) (hb : Below w.heap.size w w') : PtsAt q w' a xs := RowsAt.below h (fun _ _ _ ⟨a_terms, c_terms, e, h_terms, cp⟩ => ⟨a_terms, c_terms, e, h_terms.below hb, cp⟩) hb
theorem PtsAt.low {B : Nat} {w w' : World} {a : Option Addr} {xs : List Pt} (h : PtsAt (some B) w a xs) (hb : Low B w w') : PtsAt (some B) w' a xs := RowsAt.low h (fun _ _ _ ⟨a_terms, c_terms, e, h_terms, cp⟩ => ⟨a_terms, c_terms, e, h_terms.low hb, cp⟩) hb
theorem PtsAt.older {B B' : Nat} (hB : B' ≤ B) {w : World} {a : Option Addr} {xs : List Pt} (h : PtsAt (some B) w a xs) : PtsAt (some B') w a xs := RowsAt.weak h (fun _ => Qb.older hB) (fun _ _ _ ⟨a_terms, c_terms, e, h_terms, cp⟩ => ⟨a_terms, c_terms, e, h_terms.older hB, cp⟩)
theorem PtsAt.bare {q : Option Nat} {w : World} {a : Option Addr} {xs : List Pt} (h : PtsAt q w a xs) : PtsAt none w a xs := RowsAt.weak h (fun b _ => Qb.bare _ _ b) (fun _ _ _ ⟨a_terms, c_terms, e, h_terms, cp⟩ => ⟨a_terms, c_terms, e, h_terms.bare, cp⟩)
theorem PtsAt.get {q : Option Nat} {w : World} {a : Option Addr} {xs : List Pt} {i : Nat} {x : Pt} (h : PtsAt q w a xs) (hi : xs[i]? = some x) : ∃ b o a_terms c_terms, a = some ⟨b, o, none⟩ ∧ Qb q w 86 b ∧ w.cell? ⟨b, o + i * 3, none⟩ = some (.bool x.neg) ∧ w.cell? ⟨b, o + i * 3 + 1, none⟩ = some (.string x.cls) ∧ w.cell? ⟨b, o + i * 3 + 2, none⟩ = some (.slice a_terms x.terms.length c_terms) ∧ TmsAt q w a_terms x.terms := by
  obtain ⟨b, o, r, h1, h2, h3, h4, h5⟩ := h i x hi
  obtain ⟨a_terms, c_terms, rfl, h_terms, _⟩ := h5
  exact ⟨b, o, a_terms, c_terms, h1, h2, h4 0 _ rfl, h4 1 _ rfl, h4 2 _ rfl, h_terms⟩
theorem PtsAt.getC {q : Option Nat} {w : World} {a : Option Addr} {xs : List Pt} {i : Nat} {x : Pt} (h : PtsAt q w a xs) (hi : xs[i]? = some x) : ∃ b o a_terms c_terms, a = some ⟨b, o, none⟩ ∧ Qb q w 86 b ∧ w.cell? ⟨b, o + i * 3, none⟩ = some (.bool x.neg) ∧ w.cell? ⟨b, o + i * 3 + 1, none⟩ = some (.string x.cls) ∧ w.cell? ⟨b, o + i * 3 + 2, none⟩ = some (.slice a_terms x.terms.length c_terms) ∧ TmsAt q w a_terms x.terms ∧ x.terms.length ≤ c_terms := by
  obtain ⟨b, o, r, h1, h2, h3, h4, h5⟩ := h i x hi
  obtain ⟨a_terms, c_terms, rfl, h_terms, cp⟩ := h5
  exact ⟨b, o, a_terms, c_terms, h1, h2, h4 0 _ rfl, h4 1 _ rfl, h4 2 _ rfl, h_terms, cp⟩
def Pt.sz (x : Pt) : Nat := x.cls.size + szL Tm.sz x.terms
def Pt.le (N : Nat) (x : Pt) : Prop := x.cls.size ≤ N ∧ ListLe Tm.le N x.terms
theorem Pt.le_sz (N : Nat) (x : Pt) (h : x.sz ≤ N) : x.le N := by
  unfold Pt.sz at h
  exact ⟨by omega, listLe Tm.le_sz (by omega)⟩

structure Ex where
  kind : Int
  op : Int
  var : ByteArray
  val : V
  a : Int
  b : Int
def Ex.R (_ : World) (r : List Value) (x : Ex) : Prop := r = [.int .i64 x.kind, .int .u8 x.op, .string x.var, .int .i64 x.val.kind, .int .i64 x.val.num, .string x.val.sym, .int .i64 x.a, .int .i64 x.b]
theorem Ex.R_any {w w' : World} {r : List Value} {x : Ex} (h : Ex.R w r x) : Ex.R w' r x := h
abbrev ExsAt (q : Option Nat) (w : World) (a : Option Addr) (xs : List Ex) : Prop := RowsAt Ex.R q 145 8 w a xs
theorem ExsAt.below {q : Option Nat} {w w' : World} {a : Option Addr} {xs : List Ex} (h : ExsAt q w a xs) (hb : Below w.heap.size w w') : ExsAt q w' a xs := RowsAt.below h (fun _ _ _ h => h) hb
theorem ExsAt.low {B : Nat} {w w' : World} {a : Option Addr} {xs : List Ex} (h : ExsAt (some B) w a xs) (hb : Low B w w') : ExsAt (some B) w' a xs := RowsAt.low h (fun _ _ _ h => h) hb
theorem ExsAt.older {B B' : Nat} (hB : B' ≤ B) {w : World} {a : Option Addr} {xs : List Ex} (h : ExsAt (some B) w a xs) : ExsAt (some B') w a xs := RowsAt.weak h (fun _ => Qb.older hB) (fun _ _ _ h => h)
theorem ExsAt.bare {q : Option Nat} {w : World} {a : Option Addr} {xs : List Ex} (h : ExsAt q w a xs) : ExsAt none w a xs := RowsAt.weak h (fun b _ => Qb.bare _ _ b) (fun _ _ _ h => h)
theorem ExsAt.get {q : Option Nat} {w : World} {a : Option Addr} {xs : List Ex} {i : Nat} {x : Ex} (h : ExsAt q w a xs) (hi : xs[i]? = some x) : ∃ b o, a = some ⟨b, o, none⟩ ∧ Qb q w 145 b ∧ w.cell? ⟨b, o + i * 8, none⟩ = some (.int .i64 x.kind) ∧ w.cell? ⟨b, o + i * 8 + 1, none⟩ = some (.int .u8 x.op) ∧ w.cell? ⟨b, o + i * 8 + 2, none⟩ = some (.string x.var) ∧ w.cell? ⟨b, o + i * 8 + 3, none⟩ = some (.int .i64 x.val.kind) ∧ w.cell? ⟨b, o + i * 8 + 4, none⟩ = some (.int .i64 x.val.num) ∧ w.cell? ⟨b, o + i * 8 + 5, none⟩ = some (.string x.val.sym) ∧ w.cell? ⟨b, o + i * 8 + 6, none⟩ = some (.int .i64 x.a) ∧ w.cell? ⟨b, o + i * 8 + 7, none⟩ = some (.int .i64 x.b) := by
  obtain ⟨b, o, r, h1, h2, h3, h4, h5⟩ := h i x hi
  subst h5
  exact ⟨b, o, h1, h2, h4 0 _ rfl, h4 1 _ rfl, h4 2 _ rfl, h4 3 _ rfl, h4 4 _ rfl, h4 5 _ rfl, h4 6 _ rfl, h4 7 _ rfl⟩
def Ex.sz (x : Ex) : Nat := x.var.size + szV x.val
def Ex.le (N : Nat) (x : Ex) : Prop := x.var.size ≤ N ∧ x.val.sym.size ≤ N
theorem Ex.le_sz (N : Nat) (x : Ex) (h : x.sz ≤ N) : x.le N := by
  unfold Ex.sz at h
  exact ⟨by omega, by unfold szV at h; omega⟩

structure Ac where
  kind : Int
  k : Int
  cls : ByteArray
  args : List Int
def Ac.R (q : Option Nat) (w : World) (r : List Value) (x : Ac) : Prop := ∃ a_args c_args, r = [.int .i64 x.kind, .int .i64 x.k, .string x.cls, .slice a_args x.args.length c_args] ∧ IntsAt q w a_args x.args
abbrev AcsAt (q : Option Nat) (w : World) (a : Option Addr) (xs : List Ac) : Prop := RowsAt (Ac.R q) q 94 4 w a xs
theorem AcsAt.below {q : Option Nat} {w w' : World} {a : Option Addr} {xs : List Ac} (h : AcsAt q w a xs) (hb : Below w.heap.size w w') : AcsAt q w' a xs := RowsAt.below h (fun _ _ _ ⟨a_args, c_args, e, h_args⟩ => ⟨a_args, c_args, e, h_args.below hb⟩) hb
theorem AcsAt.low {B : Nat} {w w' : World} {a : Option Addr} {xs : List Ac} (h : AcsAt (some B) w a xs) (hb : Low B w w') : AcsAt (some B) w' a xs := RowsAt.low h (fun _ _ _ ⟨a_args, c_args, e, h_args⟩ => ⟨a_args, c_args, e, h_args.low hb⟩) hb
theorem AcsAt.older {B B' : Nat} (hB : B' ≤ B) {w : World} {a : Option Addr} {xs : List Ac} (h : AcsAt (some B) w a xs) : AcsAt (some B') w a xs := RowsAt.weak h (fun _ => Qb.older hB) (fun _ _ _ ⟨a_args, c_args, e, h_args⟩ => ⟨a_args, c_args, e, h_args.older hB⟩)
theorem AcsAt.bare {q : Option Nat} {w : World} {a : Option Addr} {xs : List Ac} (h : AcsAt q w a xs) : AcsAt none w a xs := RowsAt.weak h (fun b _ => Qb.bare _ _ b) (fun _ _ _ ⟨a_args, c_args, e, h_args⟩ => ⟨a_args, c_args, e, h_args.bare⟩)
theorem AcsAt.get {q : Option Nat} {w : World} {a : Option Addr} {xs : List Ac} {i : Nat} {x : Ac} (h : AcsAt q w a xs) (hi : xs[i]? = some x) : ∃ b o a_args c_args, a = some ⟨b, o, none⟩ ∧ Qb q w 94 b ∧ w.cell? ⟨b, o + i * 4, none⟩ = some (.int .i64 x.kind) ∧ w.cell? ⟨b, o + i * 4 + 1, none⟩ = some (.int .i64 x.k) ∧ w.cell? ⟨b, o + i * 4 + 2, none⟩ = some (.string x.cls) ∧ w.cell? ⟨b, o + i * 4 + 3, none⟩ = some (.slice a_args x.args.length c_args) ∧ IntsAt q w a_args x.args := by
  obtain ⟨b, o, r, h1, h2, h3, h4, h5⟩ := h i x hi
  obtain ⟨a_args, c_args, rfl, h_args⟩ := h5
  exact ⟨b, o, a_args, c_args, h1, h2, h4 0 _ rfl, h4 1 _ rfl, h4 2 _ rfl, h4 3 _ rfl, h_args⟩
def Ac.sz (x : Ac) : Nat := x.cls.size + x.args.length
def Ac.le (N : Nat) (x : Ac) : Prop := x.cls.size ≤ N ∧ x.args.length ≤ N
theorem Ac.le_sz (N : Nat) (x : Ac) (h : x.sz ≤ N) : x.le N := by
  unfold Ac.sz at h
  exact ⟨by omega, by omega⟩

structure Ru where
  name : ByteArray
  sal : Int
  pats : List Pt
  exprs : List Ex
  acts : List Ac
def Ru.R (q : Option Nat) (w : World) (r : List Value) (x : Ru) : Prop := ∃ a_pats c_pats a_exprs c_exprs a_acts c_acts, r = [.string x.name, .int .i64 x.sal, .slice a_pats x.pats.length c_pats, .slice a_exprs x.exprs.length c_exprs, .slice a_acts x.acts.length c_acts] ∧ PtsAt q w a_pats x.pats ∧ ExsAt q w a_exprs x.exprs ∧ AcsAt q w a_acts x.acts ∧ x.exprs.length ≤ c_exprs
abbrev RusAt (q : Option Nat) (w : World) (a : Option Addr) (xs : List Ru) : Prop := RowsAt (Ru.R q) q 53 5 w a xs
theorem RusAt.below {q : Option Nat} {w w' : World} {a : Option Addr} {xs : List Ru} (h : RusAt q w a xs) (hb : Below w.heap.size w w') : RusAt q w' a xs := RowsAt.below h (fun _ _ _ ⟨a_pats, c_pats, a_exprs, c_exprs, a_acts, c_acts, e, h_pats, h_exprs, h_acts, cap_exprs⟩ => ⟨a_pats, c_pats, a_exprs, c_exprs, a_acts, c_acts, e, h_pats.below hb, h_exprs.below hb, h_acts.below hb, cap_exprs⟩) hb
theorem RusAt.low {B : Nat} {w w' : World} {a : Option Addr} {xs : List Ru} (h : RusAt (some B) w a xs) (hb : Low B w w') : RusAt (some B) w' a xs := RowsAt.low h (fun _ _ _ ⟨a_pats, c_pats, a_exprs, c_exprs, a_acts, c_acts, e, h_pats, h_exprs, h_acts, cap_exprs⟩ => ⟨a_pats, c_pats, a_exprs, c_exprs, a_acts, c_acts, e, h_pats.low hb, h_exprs.low hb, h_acts.low hb, cap_exprs⟩) hb
theorem RusAt.older {B B' : Nat} (hB : B' ≤ B) {w : World} {a : Option Addr} {xs : List Ru} (h : RusAt (some B) w a xs) : RusAt (some B') w a xs := RowsAt.weak h (fun _ => Qb.older hB) (fun _ _ _ ⟨a_pats, c_pats, a_exprs, c_exprs, a_acts, c_acts, e, h_pats, h_exprs, h_acts, cap_exprs⟩ => ⟨a_pats, c_pats, a_exprs, c_exprs, a_acts, c_acts, e, h_pats.older hB, h_exprs.older hB, h_acts.older hB, cap_exprs⟩)
theorem RusAt.bare {q : Option Nat} {w : World} {a : Option Addr} {xs : List Ru} (h : RusAt q w a xs) : RusAt none w a xs := RowsAt.weak h (fun b _ => Qb.bare _ _ b) (fun _ _ _ ⟨a_pats, c_pats, a_exprs, c_exprs, a_acts, c_acts, e, h_pats, h_exprs, h_acts, cap_exprs⟩ => ⟨a_pats, c_pats, a_exprs, c_exprs, a_acts, c_acts, e, h_pats.bare, h_exprs.bare, h_acts.bare, cap_exprs⟩)
theorem RusAt.get {q : Option Nat} {w : World} {a : Option Addr} {xs : List Ru} {i : Nat} {x : Ru} (h : RusAt q w a xs) (hi : xs[i]? = some x) : ∃ b o a_pats c_pats a_exprs c_exprs a_acts c_acts, a = some ⟨b, o, none⟩ ∧ Qb q w 53 b ∧ w.cell? ⟨b, o + i * 5, none⟩ = some (.string x.name) ∧ w.cell? ⟨b, o + i * 5 + 1, none⟩ = some (.int .i64 x.sal) ∧ w.cell? ⟨b, o + i * 5 + 2, none⟩ = some (.slice a_pats x.pats.length c_pats) ∧ w.cell? ⟨b, o + i * 5 + 3, none⟩ = some (.slice a_exprs x.exprs.length c_exprs) ∧ w.cell? ⟨b, o + i * 5 + 4, none⟩ = some (.slice a_acts x.acts.length c_acts) ∧ PtsAt q w a_pats x.pats ∧ ExsAt q w a_exprs x.exprs ∧ AcsAt q w a_acts x.acts ∧ x.exprs.length ≤ c_exprs := by
  obtain ⟨b, o, r, h1, h2, h3, h4, h5⟩ := h i x hi
  obtain ⟨a_pats, c_pats, a_exprs, c_exprs, a_acts, c_acts, rfl, h_pats, h_exprs, h_acts, cap_exprs⟩ := h5
  exact ⟨b, o, a_pats, c_pats, a_exprs, c_exprs, a_acts, c_acts, h1, h2, h4 0 _ rfl, h4 1 _ rfl, h4 2 _ rfl, h4 3 _ rfl, h4 4 _ rfl, h_pats, h_exprs, h_acts, cap_exprs⟩
def Ru.sz (x : Ru) : Nat := x.name.size + szL Pt.sz x.pats + szL Ex.sz x.exprs + szL Ac.sz x.acts
def Ru.le (N : Nat) (x : Ru) : Prop := x.name.size ≤ N ∧ ListLe Pt.le N x.pats ∧ ListLe Ex.le N x.exprs ∧ ListLe Ac.le N x.acts
theorem Ru.le_sz (N : Nat) (x : Ru) (h : x.sz ≤ N) : x.le N := by
  unfold Ru.sz at h
  exact ⟨by omega, listLe Pt.le_sz (by omega), listLe Ex.le_sz (by omega), listLe Ac.le_sz (by omega)⟩
end Go.Proofs.YtfgpcjdjbbhdmaaGreatDoor

namespace Go.Proofs.YtfgpcjdjbbhdmaaGreatDoor

def isE (s : ByteArray) : Bool := s.toList.isEmpty
def zeroV (v : V) : Bool := v.kind == 0 && (v.num == 0 && isE v.sym)
def operandOk (t : Tm) : Bool := (isE t.var && gVal t.val) || (gSym t.var.data.toList && zeroV t.val)
def gTm (t : Tm) : Bool :=
  if t.kind == 0 then t.op == 0 && (isE t.var && zeroV t.val)
  else if t.kind == 1 then t.op == 0 && (isE t.var && gVal t.val)
  else if t.kind == 2 then t.op == 0 && (gSym t.var.data.toList && zeroV t.val)
  else if t.kind == 3 then decide (1 ≤ t.op) && (decide (t.op ≤ 6) && operandOk t)
  else false
def notB : ByteArray := ⟨#[110, 111, 116]⟩
def gCls (s : ByteArray) : Bool := gSym s.data.toList && !(decide (s = notB))
def gPt (p : Pt) : Bool := gCls p.cls && (decide (p.terms.length ≤ 6) && p.terms.all gTm)

/-- The first that is bad, counted from k. -/
def firstBad {α : Type} (f : α → Bool) : List α → Nat → Option Nat
  | [], _ => none
  | x :: r, k => if f x then firstBad f r (k + 1) else some k

/-- What an expr covers: the first of its exprs, and how deep it is. -/
abbrev Sp := Nat × Nat
def isAr (op : Int) : Bool := op == 43 || (op == 45 || (op == 42 || (op == 47 || op == 37)))
def leafOk (e : Ex) : Bool := e.op == 0 && (e.a == 0 && e.b == 0)
def spanAB (S : List Sp) (a b : Int) : Option Sp :=
  match S[b.toNat]?, S[a.toNat]? with
  | some sb, some sa => if decide (a = (sb.1 : Int) - 1) && decide (1 + max sa.2 sb.2 ≤ 20) then some (sa.1, 1 + max sa.2 sb.2) else none
  | _, _ => none
def opOk (S : List Sp) (e : Ex) : Bool := isAr e.op && (isE e.var && (zeroV e.val && (decide (e.b = (S.length : Int) - 1) && (decide (0 ≤ e.b) && decide (0 ≤ e.a)))))
def spanOf (S : List Sp) (e : Ex) : Option Sp :=
  if e.kind == 0 then (if leafOk e && (isE e.var && gVal e.val) then some (S.length, 0) else none)
  else if e.kind == 1 then (if leafOk e && (gSym e.var.data.toList && zeroV e.val) then some (S.length, 0) else none)
  else if e.kind == 2 then (if opOk S e then spanAB S e.a e.b else none)
  else none
def spansGo : List Sp → List Ex → List Sp
  | S, [] => S
  | S, e :: r => match spanOf S e with
    | none => S
    | some s => spansGo (S ++ [s]) r

def argsGo (S : List Sp) : List Int → Nat → Option Nat
  | [], nx => some nx
  | x :: r, nx => if decide (0 ≤ x) && (decide (x < (S.length : Int)) && decide ((S[x.toNat]?.getD (0, 0)).1 = nx)) then argsGo S r (x.toNat + 1) else none
def kOk (k : Int) : Bool := decide (-1000000 ≤ k) && decide (k ≤ 1000000)
def fieldsOk (a : Ac) : Bool :=
  if a.kind == 1 then gCls a.cls && a.k == 0
  else if a.kind == 2 then (isE a.cls && kOk a.k) && a.args.isEmpty
  else if a.kind == 3 then isE a.cls && kOk a.k
  else if a.kind == 4 then isE a.cls && (a.k == 0 && a.args.isEmpty)
  else false
def gAc (S : List Sp) (a : Ac) (nx : Nat) : Option Nat := if fieldsOk a && decide (a.args.length ≤ 6) then argsGo S a.args nx else none
def actsGo (S : List Sp) : List Ac → Nat → Nat → Option Nat
  | [], nx, k => if nx = S.length then none else some k
  | a :: r, nx, k => match gAc S a nx with
    | none => some k
    | some nx' => actsGo S r nx' (k + 1)
def headOk (r : Ru) : Bool := gSym r.name.data.toList && (decide (r.pats.length ≤ 6) && (decide (r.acts.length ≤ 8) && decide (r.exprs.length ≤ 60)))
/-- The item of the first fault of shape. -/
def shape (r : Ru) : Option Nat :=
  if headOk r then
    match firstBad gPt r.pats 1 with
    | some i => some i
    | none => if (spansGo [] r.exprs).length < r.exprs.length then some ((spansGo [] r.exprs).length + 1) else actsGo (spansGo [] r.exprs) r.acts 0 1
  else some 0

def pos1 (p : Pt) : Bool := !p.neg
def positives (ps : List Pt) : Nat := ps.countP pos1

def memB (s : ByteArray) (l : List ByteArray) : Bool := l.any fun x => decide (x = s)
def asks (t : Tm) : Bool := t.kind == 3 && !isE t.var
def termsGo : List Tm → List ByteArray → Option (List ByteArray)
  | [], here => some here
  | t :: r, here => if asks t && !memB t.var here then none else termsGo r (if t.kind == 2 then here ++ [t.var] else here)
/-- Either the item of the first pattern with an unknown variable, or what is known behind all. -/
def patsGo : List Pt → List ByteArray → Nat → Nat ⊕ List ByteArray
  | [], known, _ => .inr known
  | p :: r, known, k => match termsGo p.terms known with
    | none => .inl k
    | some here => patsGo r (if p.neg then known else here) (k + 1)
def knownE (known : List ByteArray) (e : Ex) : Bool := !(e.kind == 1) || memB e.var known
def upTo (a : Ac) : Nat := match a.args.getLast? with | none => 0 | some l => l.toNat + 1
def actVar (es : List Ex) (known : List ByteArray) (a : Ac) : Bool := a.args.isEmpty || (es.take (upTo a)).all (knownE known)
/-- The item of the first variable that is not known. -/
def scope (r : Ru) : Option Nat :=
  match patsGo r.pats [] 1 with
  | .inl i => some i
  | .inr known => firstBad (actVar r.exprs known) r.acts (r.pats.length + 1)
def refOk (most : Nat) (a : Ac) : Bool := !((a.kind == 2 || a.kind == 3) && !(decide (1 ≤ a.k) && decide (a.k ≤ (most : Int))))
def refs (r : Ru) : Option Nat := firstBad (refOk (positives r.pats)) r.acts (r.pats.length + 1)

/-- What is wrong with one rule behind others: a code and an item. -/
def chk1 (pre : List Ru) (r : Ru) : Int × Int :=
  match shape r with
  | some i => (1, i)
  | none => if pre.any (fun o => decide (o.name = r.name)) then (2, 0)
    else if 1 ≤ positives r.pats ∧ positives r.pats ≤ 3 then
      match scope r with
      | some i => (4, i)
      | none => match refs r with
        | some i => (5, i)
        | none => (0, 0)
    else (3, 0)
def chkGo : List Ru → List Ru → Nat → Int × Int × Int
  | _, [], _ => (0, 0, 0)
  | pre, r :: s, k => if (chk1 pre r).1 = 0 then chkGo (pre ++ [r]) s (k + 1) else ((chk1 pre r).1, k, (chk1 pre r).2)
def chk (rs : List Ru) : Int × Int × Int := if rs.length ≤ 16 then chkGo [] rs 0 else (1, 0, 0)

/-- The spans of the first exprs, each right. -/
def Spans (es : List Ex) (S : List Sp) : Prop := S.length ≤ es.length ∧ ∀ (i : Nat) (s : Sp) (e : Ex), S[i]? = some s → es[i]? = some e → spanOf (S.take i) e = some s

theorem Spans.nil (es : List Ex) : Spans es [] := ⟨Nat.zero_le _, fun i s e h => by simp at h⟩
theorem Spans.snoc {es : List Ex} {S : List Sp} {e : Ex} {s : Sp} (h : Spans es S) (he : es[S.length]? = some e) (hs : spanOf S e = some s) : Spans es (S ++ [s]) := by
  refine ⟨by have := (List.getElem?_eq_some_iff.1 he).1; simp; omega, fun i s' e' hi hi' => ?_⟩
  by_cases hlt : i < S.length
  · rw [List.getElem?_append_left hlt] at hi
    rw [List.take_append_of_le_length (by omega)]
    exact h.2 i s' e' hi hi'
  · have hil : i < (S ++ [s]).length := (List.getElem?_eq_some_iff.1 hi).1
    simp at hil
    obtain rfl : i = S.length := by omega
    simp at hi
    subst hi
    rw [he] at hi'
    injection hi' with hi'
    subst hi'
    rw [List.take_append_of_le_length (Nat.le_refl _), List.take_length]
    exact hs

theorem spansGo_spans {es : List Ex} : ∀ {l : List Ex} {S : List Sp}, Spans es S → es.drop S.length = l → Spans es (spansGo S l) ∧ S.length ≤ (spansGo S l).length
  | [], S, h, _ => ⟨h, Nat.le_refl _⟩
  | e :: r, S, h, hd => by
    have he : es[S.length]? = some e := by
      have := List.getElem?_drop (xs := es) (i := S.length) (j := 0)
      rw [hd] at this
      simpa using this.symm
    unfold spansGo
    split
    · exact ⟨h, Nat.le_refl _⟩
    · rename_i s hs
      have hd' : es.drop (S ++ [s]).length = r := by
        rw [List.length_append, ← List.drop_drop, hd]
        rfl
      have := spansGo_spans (h.snoc he hs) hd'
      exact ⟨this.1, by have := this.2; simp at this; omega⟩

/-- What the parts of an operation are. -/
theorem Spans.op {es : List Ex} {S : List Sp} (h : Spans es S) {i : Nat} {s : Sp} {e : Ex} (hi : S[i]? = some s) (he : es[i]? = some e) (hk : e.kind = 2) :
    ∃ (a b : Nat) (sa sb : Sp), e.a = (a : Int) ∧ e.b = (b : Int) ∧ b + 1 = i ∧ a < b + 1 ∧ S[a]? = some sa ∧ S[b]? = some sb ∧ s = (sa.1, 1 + max sa.2 sb.2) := by
  have := h.2 i s e hi he
  unfold spanOf at this
  simp only [hk] at this
  rw [if_neg (by decide), if_neg (by decide), if_pos (by decide)] at this
  split at this
  · rename_i ho
    simp only [opOk, Bool.and_eq_true, decide_eq_true_eq] at ho
    obtain ⟨_, _, _, hb, hb0, ha0⟩ := ho
    have hi' : i < S.length := (List.getElem?_eq_some_iff.1 hi).1
    have hlen : (S.take i).length = i := by simp; omega
    rw [hlen] at hb
    obtain ⟨b, hb'⟩ := Int.eq_ofNat_of_zero_le hb0
    obtain ⟨a, ha'⟩ := Int.eq_ofNat_of_zero_le ha0
    unfold spanAB at this
    rw [hb', ha'] at this
    simp only [Int.toNat_natCast] at this
    split at this
    · rename_i sb sa e1 e2
      rw [List.getElem?_take] at e1 e2
      split at e1
      · split at e2
        · split at this
          · injection this with this
            exact ⟨a, b, sa, sb, ha', hb', by omega, by omega, e2, e1, this.symm⟩
          · cases this
        · cases e2
      · cases e1
    · cases this
  · cases this

theorem Spans.leaf {es : List Ex} {S : List Sp} (h : Spans es S) {i : Nat} {s : Sp} {e : Ex} (hi : S[i]? = some s) (he : es[i]? = some e) (hk : e.kind ≠ 2) : s = (i, 0) := by
  have := h.2 i s e hi he
  have hi' : i < S.length := (List.getElem?_eq_some_iff.1 hi).1
  have hlen : (S.take i).length = i := by simp; omega
  unfold spanOf at this
  have hk2 : (e.kind == 2) = false := by simpa using hk
  rw [hk2, hlen] at this
  split at this
  · split at this
    · injection this with this
      exact this.symm
    · cases this
  · split at this
    · split at this
      · injection this with this
        exact this.symm
      · cases this
    · simp at this

theorem Spans.depth_le {es : List Ex} {S : List Sp} (h : Spans es S) (i : Nat) (s : Sp) (hi : S[i]? = some s) : s.2 ≤ 20 := by
  have hi' : i < S.length := (List.getElem?_eq_some_iff.1 hi).1
  have hes := h.1
  obtain ⟨e, he⟩ : ∃ e, es[i]? = some e := ⟨es[i]'(by omega), by simp⟩
  by_cases hk : e.kind = 2
  · have := h.2 i s e hi he
    unfold spanOf at this
    simp only [hk] at this
    rw [if_neg (by decide), if_neg (by decide), if_pos (by decide)] at this
    split at this
    · unfold spanAB at this
      split at this
      · split at this
        · rename_i hc
          injection this with this
          simp only [Bool.and_eq_true, decide_eq_true_eq] at hc
          rw [← this]
          exact hc.2
        · cases this
      · cases this
    · cases this
  · rw [h.leaf hi he hk]
    exact Nat.zero_le _

/-- An expr covers exprs up to itself. -/
theorem Spans.first_le {es : List Ex} {S : List Sp} (h : Spans es S) : ∀ (i : Nat) (s : Sp), S[i]? = some s → s.1 ≤ i := by
  intro i
  induction i using Nat.strongRecOn with
  | _ i ih =>
    intro s hi
    have hi' : i < S.length := (List.getElem?_eq_some_iff.1 hi).1
    have hes := h.1
    obtain ⟨e, he⟩ : ∃ e, es[i]? = some e := ⟨es[i]'(by omega), by simp⟩
    by_cases hk : e.kind = 2
    · obtain ⟨a, b, sa, sb, _, _, h1, h2, h3, h4, rfl⟩ := h.op hi he hk
      have := ih a (by omega) sa h3
      simp
      omega
    · rw [h.leaf hi he hk]
      exact Nat.le_refl _
end Go.Proofs.YtfgpcjdjbbhdmaaGreatDoor
