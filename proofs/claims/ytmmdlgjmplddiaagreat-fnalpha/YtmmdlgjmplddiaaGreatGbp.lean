/-
  OUR OWN TEXT. Pg1, Pg4, Pg5, Pg6, Pg2, one behind the other.
-/
import Derived.Test.YtmmdlgjmplddiaaGreatGbl
import Derived.Test.YtmmdlgjmplddiaaGreatGaa
import Derived.Deep.RegionHeld3
import Derived.Deep.DeepCutAuto
import Derived.Test.YtmmdlgjmplddiaaGreatGah
import Derived.Test.YtmmdlgjmplddiaaGreatGal
import Derived.Deep.DrawnRows
namespace Go.Proofs.YtmmdlgjmplddiaaGreat
open Go.RowKit
attribute [local go_sem ↓] Go.wp_at_zero Go.wp_at_succ

/-- A pointer to a fact. -/
def FacAt (w : World) (v : Value) (f : F) : Prop :=
  ∃ b o, v = .pointer (some ⟨b, o, none⟩) ∧ w.cell? ⟨b, o, none⟩ = some (.int .i64 f.tag) ∧ w.cell? ⟨b, o + 1, none⟩ = some (.string f.cls) ∧ ∃ a c, w.cell? ⟨b, o + 2, none⟩ = some (.slice a f.slots.length c) ∧ ValsAt w a f.slots
theorem FacAt.below {w w' : World} {v : Value} {f : F} (h : FacAt w v f) (hb : Below w.heap.size w w') : FacAt w' v f := by
  obtain ⟨b, o, e, h0, h1, a, c, h2, h3⟩ := h
  exact ⟨b, o, e, cell_below hb h0, cell_below hb h1, a, c, cell_below hb h2, h3.below hb⟩
/-- A join test: a slot, an operator, a place of a token. -/
structure Jt where
  slot : Nat
  op : Int
  fact : Nat
  at_ : Nat
def jtCells (t : Jt) : List Value := [.int .i64 (t.slot : Int), .int .i64 t.op, .int .i64 (t.fact : Int), .int .i64 (t.at_ : Int)]
/-- Join tests from an address on. -/
def JtsAt (w : World) (a : Option Addr) (ts : List Jt) : Prop :=
  ∀ (i : Nat) (t : Jt), ts[i]? = some t → ∃ b o, a = some ⟨b, o, none⟩ ∧ w.cell? ⟨b, o + i * 4, none⟩ = some (.int .i64 (t.slot : Int)) ∧ w.cell? ⟨b, o + i * 4 + 1, none⟩ = some (.int .i64 t.op) ∧ w.cell? ⟨b, o + i * 4 + 2, none⟩ = some (.int .i64 (t.fact : Int)) ∧ w.cell? ⟨b, o + i * 4 + 3, none⟩ = some (.int .i64 (t.at_ : Int))
theorem JtsAt.below {w w' : World} {a : Option Addr} {ts : List Jt} (h : JtsAt w a ts) (hb : Below w.heap.size w w') : JtsAt w' a ts := by
  intro i t hi
  obtain ⟨b, o, e, h0, h1, h2, h3⟩ := h i t hi
  exact ⟨b, o, e, cell_below hb h0, cell_below hb h1, cell_below hb h2, cell_below hb h3⟩
/-- The token's facts, as far as there are some. -/
def TokAt (w : World) (p0 p1 p2 : Value) (T : List F) : Prop := ∀ (i : Nat) (f : F), T[i]? = some f → ∃ pv, [p0, p1, p2][i]? = some pv ∧ FacAt w pv f
theorem TokAt.below {w w' : World} {p0 p1 p2 : Value} {T : List F} (h : TokAt w p0 p1 p2 T) (hb : Below w.heap.size w w') : TokAt w' p0 p1 p2 T := by
  intro i f hi
  obtain ⟨pv, h1, h2⟩ := h i f hi
  exact ⟨pv, h1, h2.below hb⟩
def jHolds (T : List F) (f : F) (t : Jt) : Bool := meets t.op (f.slots[t.slot]?.getD (0, 0, ⟨#[]⟩)) (((T[t.fact]?.map (·.slots)).getD [])[t.at_]?.getD (0, 0, ⟨#[]⟩))
end Go.Proofs.YtmmdlgjmplddiaaGreat

namespace Go.Proofs.YtmmdlgjmplddiaaGreat
open Go.RowKit
attribute [local go_sem ↓] Go.wp_at_zero Go.wp_at_succ

/-- A variable: its name, the fact and the slot that bind it. -/
structure Vr where
  name : ByteArray
  fact : Nat
  slot : Nat
def vrCells (v : Vr) : List Value := [.string v.name, .int .i64 (v.fact : Int), .int .i64 (v.slot : Int)]
def VrsAt (w : World) (a : Option Addr) (vs : List Vr) : Prop :=
  ∀ (i : Nat) (v : Vr), vs[i]? = some v → ∃ b o, a = some ⟨b, o, none⟩ ∧ w.cell? ⟨b, o + i * 3, none⟩ = some (.string v.name) ∧ w.cell? ⟨b, o + i * 3 + 1, none⟩ = some (.int .i64 (v.fact : Int)) ∧ w.cell? ⟨b, o + i * 3 + 2, none⟩ = some (.int .i64 (v.slot : Int))
theorem VrsAt.below {w w' : World} {a : Option Addr} {vs : List Vr} (h : VrsAt w a vs) (hb : Below w.heap.size w w') : VrsAt w' a vs := by
  intro i v hi
  obtain ⟨b, o, e, h0, h1, h2⟩ := h i v hi
  exact ⟨b, o, e, cell_below hb h0, cell_below hb h1, cell_below hb h2⟩
def lookV : List Vr → ByteArray → Option Vr
  | [], _ => none
  | v :: r, s => if v.name = s then some v else lookV r s
theorem lookV_cons (v : Vr) (r : List Vr) (s : ByteArray) : lookV (v :: r) s = if v.name = s then some v else lookV r s := rfl
end Go.Proofs.YtmmdlgjmplddiaaGreat

namespace Go.Proofs.YtmmdlgjmplddiaaGreat
open Go.RowKit
attribute [local go_sem ↓] Go.wp_at_zero Go.wp_at_succ

def jtOf (vs : List Vr) (ts : List Tm) (i : Nat) (t : Tm) : Option Jt :=
  match lookV vs t.var with
  | none => none
  | some v => (match earlier ts i t.var with | none => some ⟨i, tmOp t, v.fact, v.slot⟩ | some _ => none)
def jtsUpTo (vs : List Vr) (ts : List Tm) : Nat → List Jt
  | 0 => []
  | i + 1 => jtsUpTo vs ts i ++ (match ts[i]? with | none => [] | some t => (jtOf vs ts i t).toList)
theorem cells2P {w : World} {b : Nat} {ty : TypeId} {x0 x1 : Value} (h : w.heap[b]? = some (.cells #[x0, x1] ty (0, 0))) : w.cell? ⟨b, 0, none⟩ = some x0 ∧ w.cell? ⟨b, 1, none⟩ = some x1 := by
  refine ⟨?_, ?_⟩ <;> simp [World.cell?, h]
end Go.Proofs.YtmmdlgjmplddiaaGreat

namespace Go.Proofs.YtmmdlgjmplddiaaGreat
open Go.RowKit
attribute [local go_sem ↓] Go.wp_at_zero Go.wp_at_succ

/-- A plan in its box. -/
def PlB (w : World) (pb : Nat) (v0 v1 : Value) : Prop := w.heap[pb]? = some (.cells #[v0, v1] 71 (0, 0))
theorem PlB.facts {w : World} {b : Nat} {v0 v1 : Value} (h : PlB w b v0 v1) : (w.cell? ⟨b, 0, none⟩ = some v0 ∧ w.cell? ⟨b, 1, none⟩ = some v1) ∧ (∀ j, w.frozen? ⟨b, j, none⟩ = false) ∧ b < w.heap.size := by
  unfold PlB at h
  exact ⟨cells2P h, fun j => by simp [World.frozen?, h], lt_of_block' h⟩
/-- Only the box and one row were written. -/
structure Fp (pb : Nat) (row : Option Nat) (w w' : World) : Prop where
  rest : Below 0 w w'
  block : ∀ k, k < w.heap.size → k ≠ pb → row ≠ some k → w'.heap[k]? = w.heap[k]?
theorem Fp.refl (pb : Nat) (row : Option Nat) (w : World) : Fp pb row w w := ⟨Below.refl _ _, fun _ _ _ _ => rfl⟩
theorem VrsAt.owns {w : World} {base : Nat} {a : Option Addr} {c : Nat} {vs : List Vr} (h : w.ownsRow base 215 3 (.slice a vs.length c) vs.length (vs.flatMap vrCells)) : VrsAt w a vs := by
  intro i v hi
  have key := fun j u (hj : (vrCells v)[j]? = some u) => owns_cell h (flat_gen (cells := vrCells) (m := 3) (fun _ => rfl) vs i v j u hi hj)
  obtain ⟨k, rfl, _, h0, _⟩ := key 0 _ rfl
  obtain ⟨k1, e1, _, h1, _⟩ := key 1 _ rfl
  obtain ⟨k2, e2, _, h2, _⟩ := key 2 _ rfl
  cases e1
  cases e2
  exact ⟨k, 0, rfl, by simpa using h0, by simpa using h1, by simpa using h2⟩
def bindUpTo (vs : List Vr) (ts : List Tm) (n : Nat) : Nat → List Vr
  | 0 => vs
  | i + 1 => (match ts[i]? with | none => bindUpTo vs ts n i | some t => if t.kind = 2 ∧ lookV (bindUpTo vs ts n i) t.var = none then bindUpTo vs ts n i ++ [⟨t.var, n, i⟩] else bindUpTo vs ts n i)
theorem bindUpTo_succ {vs : List Vr} {ts : List Tm} {n i : Nat} {t : Tm} (h : ts[i]? = some t) : bindUpTo vs ts n (i + 1) = if t.kind = 2 ∧ lookV (bindUpTo vs ts n i) t.var = none then bindUpTo vs ts n i ++ [⟨t.var, n, i⟩] else bindUpTo vs ts n i := by simp [bindUpTo, h]
end Go.Proofs.YtmmdlgjmplddiaaGreat

namespace Go.Proofs.YtmmdlgjmplddiaaGreat
open Go.RowKit
attribute [local go_sem ↓] Go.wp_at_zero Go.wp_at_succ

/-- A row of pointers to facts. -/
def FpsAt (w : World) (a : Option Addr) (fs : List F) : Prop := ∀ (i : Nat) (f : F), fs[i]? = some f → ∃ b o pv, a = some ⟨b, o, none⟩ ∧ w.cell? ⟨b, o + i, none⟩ = some pv ∧ FacAt w pv f
theorem FpsAt.below {w w' : World} {a : Option Addr} {fs : List F} (h : FpsAt w a fs) (hb : Below w.heap.size w w') : FpsAt w' a fs := by
  intro i f hi
  obtain ⟨b, o, pv, e, h1, h2⟩ := h i f hi
  exact ⟨b, o, pv, e, cell_below hb h1, h2.below hb⟩
/-- The boxes of a condition and of a token, as a function value keeps them. -/
structure CapAt (w : World) (cb tb : Nat) (ng ct nd p0 p1 p2 : Value) (ta : Option Addr) (n tc : Nat) : Prop where
  c0 : w.cell? ⟨cb, 0, none⟩ = some ng
  c1 : w.cell? ⟨cb, 1, none⟩ = some ct
  c2 : w.cell? ⟨cb, 2, none⟩ = some nd
  c3 : w.cell? ⟨cb, 3, none⟩ = some (.slice ta n tc)
  t0 : w.cell? ⟨tb, 0, none⟩ = some p0
  t1 : w.cell? ⟨tb, 1, none⟩ = some p1
  t2 : w.cell? ⟨tb, 2, none⟩ = some p2
theorem CapAt.below {w w' : World} {cb tb : Nat} {ng ct nd p0 p1 p2 : Value} {ta : Option Addr} {n tc : Nat} (h : CapAt w cb tb ng ct nd p0 p1 p2 ta n tc) (hb : Below w.heap.size w w') : CapAt w' cb tb ng ct nd p0 p1 p2 ta n tc :=
  ⟨cell_below hb h.c0, cell_below hb h.c1, cell_below hb h.c2, cell_below hb h.c3, cell_below hb h.t0, cell_below hb h.t1, cell_below hb h.t2⟩
end Go.Proofs.YtmmdlgjmplddiaaGreat
