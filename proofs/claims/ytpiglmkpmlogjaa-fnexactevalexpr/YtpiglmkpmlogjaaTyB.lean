/-
  OUR OWN TEXT. Binds and values of exprs as plain data, and what it is for them to lie in memory (made by lawgen4.py).
-/
import Derived.Test.YtpiglmkpmlogjaaTy
namespace Go.Proofs.Ytpiglmkpmlogjaa
open Go.RowKit

structure Bd where
  var : ByteArray
  val : V
def Bd.R (_ : World) (r : List Value) (x : Bd) : Prop := r = [.string x.var, .int .i64 x.val.kind, .int .i64 x.val.num, .string x.val.sym]
theorem Bd.R_any {w w' : World} {r : List Value} {x : Bd} (h : Bd.R w r x) : Bd.R w' r x := h
abbrev BdsAt (q : Option Nat) (w : World) (a : Option Addr) (xs : List Bd) : Prop := RowsAt Bd.R q 208 4 w a xs
theorem BdsAt.below {q : Option Nat} {w w' : World} {a : Option Addr} {xs : List Bd} (h : BdsAt q w a xs) (hb : Below w.heap.size w w') : BdsAt q w' a xs := RowsAt.below h (fun _ _ _ h => h) hb
theorem BdsAt.low {B : Nat} {w w' : World} {a : Option Addr} {xs : List Bd} (h : BdsAt (some B) w a xs) (hb : Low B w w') : BdsAt (some B) w' a xs := RowsAt.low h (fun _ _ _ h => h) hb
theorem BdsAt.older {B B' : Nat} (hB : B' ≤ B) {w : World} {a : Option Addr} {xs : List Bd} (h : BdsAt (some B) w a xs) : BdsAt (some B') w a xs := RowsAt.weak h (fun _ => Qb.older hB) (fun _ _ _ h => h)
theorem BdsAt.bare {q : Option Nat} {w : World} {a : Option Addr} {xs : List Bd} (h : BdsAt q w a xs) : BdsAt none w a xs := RowsAt.weak h (fun b _ => Qb.bare _ _ b) (fun _ _ _ h => h)
theorem BdsAt.get {q : Option Nat} {w : World} {a : Option Addr} {xs : List Bd} {i : Nat} {x : Bd} (h : BdsAt q w a xs) (hi : xs[i]? = some x) : ∃ b o, a = some ⟨b, o, none⟩ ∧ Qb q w 208 b ∧ w.cell? ⟨b, o + i * 4, none⟩ = some (.string x.var) ∧ w.cell? ⟨b, o + i * 4 + 1, none⟩ = some (.int .i64 x.val.kind) ∧ w.cell? ⟨b, o + i * 4 + 2, none⟩ = some (.int .i64 x.val.num) ∧ w.cell? ⟨b, o + i * 4 + 3, none⟩ = some (.string x.val.sym) := by
  obtain ⟨b, o, r, h1, h2, h3, h4, h5⟩ := h i x hi
  subst h5
  exact ⟨b, o, h1, h2, h4 0 _ rfl, h4 1 _ rfl, h4 2 _ rfl, h4 3 _ rfl⟩
def Bd.sz (x : Bd) : Nat := x.var.size + szV x.val
def Bd.le (N : Nat) (x : Bd) : Prop := x.var.size ≤ N ∧ x.val.sym.size ≤ N
theorem Bd.le_sz (N : Nat) (x : Bd) (h : x.sz ≤ N) : x.le N := by
  unfold Bd.sz at h
  exact ⟨by omega, by unfold szV at h; omega⟩

structure Ev where
  code : Int
  val : V
def Ev.R (_ : World) (r : List Value) (x : Ev) : Prop := r = [.int .i64 x.code, .int .i64 x.val.kind, .int .i64 x.val.num, .string x.val.sym]
theorem Ev.R_any {w w' : World} {r : List Value} {x : Ev} (h : Ev.R w r x) : Ev.R w' r x := h
abbrev EvsAt (q : Option Nat) (w : World) (a : Option Addr) (xs : List Ev) : Prop := RowsAt Ev.R q 122 4 w a xs
theorem EvsAt.below {q : Option Nat} {w w' : World} {a : Option Addr} {xs : List Ev} (h : EvsAt q w a xs) (hb : Below w.heap.size w w') : EvsAt q w' a xs := RowsAt.below h (fun _ _ _ h => h) hb
theorem EvsAt.low {B : Nat} {w w' : World} {a : Option Addr} {xs : List Ev} (h : EvsAt (some B) w a xs) (hb : Low B w w') : EvsAt (some B) w' a xs := RowsAt.low h (fun _ _ _ h => h) hb
theorem EvsAt.older {B B' : Nat} (hB : B' ≤ B) {w : World} {a : Option Addr} {xs : List Ev} (h : EvsAt (some B) w a xs) : EvsAt (some B') w a xs := RowsAt.weak h (fun _ => Qb.older hB) (fun _ _ _ h => h)
theorem EvsAt.bare {q : Option Nat} {w : World} {a : Option Addr} {xs : List Ev} (h : EvsAt q w a xs) : EvsAt none w a xs := RowsAt.weak h (fun b _ => Qb.bare _ _ b) (fun _ _ _ h => h)
theorem EvsAt.get {q : Option Nat} {w : World} {a : Option Addr} {xs : List Ev} {i : Nat} {x : Ev} (h : EvsAt q w a xs) (hi : xs[i]? = some x) : ∃ b o, a = some ⟨b, o, none⟩ ∧ Qb q w 122 b ∧ w.cell? ⟨b, o + i * 4, none⟩ = some (.int .i64 x.code) ∧ w.cell? ⟨b, o + i * 4 + 1, none⟩ = some (.int .i64 x.val.kind) ∧ w.cell? ⟨b, o + i * 4 + 2, none⟩ = some (.int .i64 x.val.num) ∧ w.cell? ⟨b, o + i * 4 + 3, none⟩ = some (.string x.val.sym) := by
  obtain ⟨b, o, r, h1, h2, h3, h4, h5⟩ := h i x hi
  subst h5
  exact ⟨b, o, h1, h2, h4 0 _ rfl, h4 1 _ rfl, h4 2 _ rfl, h4 3 _ rfl⟩
def Ev.sz (x : Ev) : Nat := szV x.val
def Ev.le (N : Nat) (x : Ev) : Prop := x.val.sym.size ≤ N
theorem Ev.le_sz (N : Nat) (x : Ev) (h : x.sz ≤ N) : x.le N := by
  unfold Ev.sz at h
  unfold szV at h
  unfold Ev.le
  omega
end Go.Proofs.Ytpiglmkpmlogjaa
