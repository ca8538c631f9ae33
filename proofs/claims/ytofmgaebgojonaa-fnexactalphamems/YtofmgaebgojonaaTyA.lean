/-
  OUR OWN TEXT. Alphas as plain data, and what it is for them to lie in memory (made by lawgen2.py).
-/
import Derived.Test.YtofmgaebgojonaaTy
namespace Go.Proofs.Ytofmgaebgojonaa
open Go.RowKit

structure Tt where
  slot : Int
  op : Int
  other : Int
  val : V
def Tt.R (_ : World) (r : List Value) (x : Tt) : Prop := r = [.int .i64 x.slot, .int .i64 x.op, .int .i64 x.other, .int .i64 x.val.kind, .int .i64 x.val.num, .string x.val.sym]
theorem Tt.R_any {w w' : World} {r : List Value} {x : Tt} (h : Tt.R w r x) : Tt.R w' r x := h
abbrev TtsAt (q : Option Nat) (w : World) (a : Option Addr) (xs : List Tt) : Prop := RowsAt Tt.R q 152 6 w a xs
theorem TtsAt.below {q : Option Nat} {w w' : World} {a : Option Addr} {xs : List Tt} (h : TtsAt q w a xs) (hb : Below w.heap.size w w') : TtsAt q w' a xs := RowsAt.below h (fun _ _ _ h => h) hb
theorem TtsAt.low {B : Nat} {w w' : World} {a : Option Addr} {xs : List Tt} (h : TtsAt (some B) w a xs) (hb : Low B w w') : TtsAt (some B) w' a xs := RowsAt.low h (fun _ _ _ h => h) hb
theorem TtsAt.older {B B' : Nat} (hB : B' ≤ B) {w : World} {a : Option Addr} {xs : List Tt} (h : TtsAt (some B) w a xs) : TtsAt (some B') w a xs := RowsAt.weak h (fun _ => Qb.older hB) (fun _ _ _ h => h)
theorem TtsAt.bare {q : Option Nat} {w : World} {a : Option Addr} {xs : List Tt} (h : TtsAt q w a xs) : TtsAt none w a xs := RowsAt.weak h (fun b _ => Qb.bare _ _ b) (fun _ _ _ h => h)
theorem TtsAt.get {q : Option Nat} {w : World} {a : Option Addr} {xs : List Tt} {i : Nat} {x : Tt} (h : TtsAt q w a xs) (hi : xs[i]? = some x) : ∃ b o, a = some ⟨b, o, none⟩ ∧ Qb q w 152 b ∧ w.cell? ⟨b, o + i * 6, none⟩ = some (.int .i64 x.slot) ∧ w.cell? ⟨b, o + i * 6 + 1, none⟩ = some (.int .i64 x.op) ∧ w.cell? ⟨b, o + i * 6 + 2, none⟩ = some (.int .i64 x.other) ∧ w.cell? ⟨b, o + i * 6 + 3, none⟩ = some (.int .i64 x.val.kind) ∧ w.cell? ⟨b, o + i * 6 + 4, none⟩ = some (.int .i64 x.val.num) ∧ w.cell? ⟨b, o + i * 6 + 5, none⟩ = some (.string x.val.sym) := by
  obtain ⟨b, o, r, h1, h2, h3, h4, h5⟩ := h i x hi
  subst h5
  exact ⟨b, o, h1, h2, h4 0 _ rfl, h4 1 _ rfl, h4 2 _ rfl, h4 3 _ rfl, h4 4 _ rfl, h4 5 _ rfl⟩
def Tt.sz (x : Tt) : Nat := szV x.val
def Tt.le (N : Nat) (x : Tt) : Prop := x.val.sym.size ≤ N
theorem Tt.le_sz (N : Nat) (x : Tt) (h : x.sz ≤ N) : x.le N := by
  unfold Tt.sz at h
  unfold szV at h
  unfold Tt.le
  omega

structure Al where
  cls : ByteArray
  arity : Int
  tests : List Tt
def Al.R (q : Option Nat) (w : World) (r : List Value) (x : Al) : Prop := ∃ a_tests c_tests, r = [.string x.cls, .int .i64 x.arity, .slice a_tests x.tests.length c_tests] ∧ TtsAt q w a_tests x.tests
abbrev AlsAt (q : Option Nat) (w : World) (a : Option Addr) (xs : List Al) : Prop := RowsAt (Al.R q) q 66 3 w a xs
theorem AlsAt.below {q : Option Nat} {w w' : World} {a : Option Addr} {xs : List Al} (h : AlsAt q w a xs) (hb : Below w.heap.size w w') : AlsAt q w' a xs := RowsAt.below h (fun _ _ _ ⟨a_tests, c_tests, e, h_tests⟩ => ⟨a_tests, c_tests, e, h_tests.below hb⟩) hb
theorem AlsAt.low {B : Nat} {w w' : World} {a : Option Addr} {xs : List Al} (h : AlsAt (some B) w a xs) (hb : Low B w w') : AlsAt (some B) w' a xs := RowsAt.low h (fun _ _ _ ⟨a_tests, c_tests, e, h_tests⟩ => ⟨a_tests, c_tests, e, h_tests.low hb⟩) hb
theorem AlsAt.older {B B' : Nat} (hB : B' ≤ B) {w : World} {a : Option Addr} {xs : List Al} (h : AlsAt (some B) w a xs) : AlsAt (some B') w a xs := RowsAt.weak h (fun _ => Qb.older hB) (fun _ _ _ ⟨a_tests, c_tests, e, h_tests⟩ => ⟨a_tests, c_tests, e, h_tests.older hB⟩)
theorem AlsAt.bare {q : Option Nat} {w : World} {a : Option Addr} {xs : List Al} (h : AlsAt q w a xs) : AlsAt none w a xs := RowsAt.weak h (fun b _ => Qb.bare _ _ b) (fun _ _ _ ⟨a_tests, c_tests, e, h_tests⟩ => ⟨a_tests, c_tests, e, h_tests.bare⟩)
theorem AlsAt.get {q : Option Nat} {w : World} {a : Option Addr} {xs : List Al} {i : Nat} {x : Al} (h : AlsAt q w a xs) (hi : xs[i]? = some x) : ∃ b o a_tests c_tests, a = some ⟨b, o, none⟩ ∧ Qb q w 66 b ∧ w.cell? ⟨b, o + i * 3, none⟩ = some (.string x.cls) ∧ w.cell? ⟨b, o + i * 3 + 1, none⟩ = some (.int .i64 x.arity) ∧ w.cell? ⟨b, o + i * 3 + 2, none⟩ = some (.slice a_tests x.tests.length c_tests) ∧ TtsAt q w a_tests x.tests := by
  obtain ⟨b, o, r, h1, h2, h3, h4, h5⟩ := h i x hi
  obtain ⟨a_tests, c_tests, rfl, h_tests⟩ := h5
  exact ⟨b, o, a_tests, c_tests, h1, h2, h4 0 _ rfl, h4 1 _ rfl, h4 2 _ rfl, h_tests⟩
def Al.sz (x : Al) : Nat := x.cls.size + szL Tt.sz x.tests
def Al.le (N : Nat) (x : Al) : Prop := x.cls.size ≤ N ∧ ListLe Tt.le N x.tests
theorem Al.le_sz (N : Nat) (x : Al) (h : x.sz ≤ N) : x.le N := by
  unfold Al.sz at h
  exact ⟨by omega, listLe Tt.le_sz (by omega)⟩
end Go.Proofs.Ytofmgaebgojonaa
