/-
  OUR OWN TEXT. Rules as plain data, and what it is for them to lie in memory (made by lawgen.py).
-/
import Derived.Test.YtjjjagepnnbebaaGreatDoorKae
namespace Go.Proofs.YtjjjagepnnbebaaGreatDoor
open Go.RowKit

/-- Numbers that lie in memory. -/
def intR (_ : World) (r : List Value) (x : Int) : Prop := r = [.int .i64 x]
abbrev IntsAt (q : Option Nat) (w : World) (a : Option Addr) (xs : List Int) : Prop := RowsAt intR q 3 1 w a xs
theorem IntsAt.below {q : Option Nat} {w w' : World} {a : Option Addr} {xs : List Int} (h : IntsAt q w a xs) (hb : Below w.heap.size w w') : IntsAt q w' a xs := RowsAt.below h (fun _ _ _ h => h) hb
theorem IntsAt.bare {q : Option Nat} {w : World} {a : Option Addr} {xs : List Int} (h : IntsAt q w a xs) : IntsAt none w a xs := RowsAt.weak h (fun b _ => Qb.bare _ _ b) (fun _ _ _ h => h)
theorem IntsAt.get {q : Option Nat} {w : World} {a : Option Addr} {xs : List Int} {i : Nat} {x : Int} (h : IntsAt q w a xs) (hi : xs[i]? = some x) : ∃ b o, a = some ⟨b, o, none⟩ ∧ Qb q w 3 b ∧ w.cell? ⟨b, o + i, none⟩ = some (.int .i64 x) := by
  obtain ⟨b, o, r, h1, h2, h3, h4, h5⟩ := h i x hi
  subst h5
  exact ⟨b, o, h1, h2, by simpa using h4 0 _ rfl⟩

structure Tm where
  kind : Int
  op : Int
  var : ByteArray
  val : V
def Tm.R (_ : World) (r : List Value) (x : Tm) : Prop := r = [.int .i64 x.kind, .int .i64 x.op, .string x.var, .int .i64 x.val.kind, .int .i64 x.val.num, .string x.val.sym]
abbrev TmsAt (q : Option Nat) (w : World) (a : Option Addr) (xs : List Tm) : Prop := RowsAt Tm.R q 95 6 w a xs
theorem TmsAt.below {q : Option Nat} {w w' : World} {a : Option Addr} {xs : List Tm} (h : TmsAt q w a xs) (hb : Below w.heap.size w w') : TmsAt q w' a xs := RowsAt.below h (fun _ _ _ h => h) hb
theorem TmsAt.bare {q : Option Nat} {w : World} {a : Option Addr} {xs : List Tm} (h : TmsAt q w a xs) : TmsAt none w a xs := RowsAt.weak h (fun b _ => Qb.bare _ _ b) (fun _ _ _ h => h)
theorem TmsAt.get {q : Option Nat} {w : World} {a : Option Addr} {xs : List Tm} {i : Nat} {x : Tm} (h : TmsAt q w a xs) (hi : xs[i]? = some x) : ∃ b o, a = some ⟨b, o, none⟩ ∧ Qb q w 95 b ∧ w.cell? ⟨b, o + i * 6, none⟩ = some (.int .i64 x.kind) ∧ w.cell? ⟨b, o + i * 6 + 1, none⟩ = some (.int .i64 x.op) ∧ w.cell? ⟨b, o + i * 6 + 2, none⟩ = some (.string x.var) ∧ w.cell? ⟨b, o + i * 6 + 3, none⟩ = some (.int .i64 x.val.kind) ∧ w.cell? ⟨b, o + i * 6 + 4, none⟩ = some (.int .i64 x.val.num) ∧ w.cell? ⟨b, o + i * 6 + 5, none⟩ = some (.string x.val.sym) := by
  obtain ⟨b, o, r, h1, h2, h3, h4, h5⟩ := h i x hi
  subst h5
  exact ⟨b, o, h1, h2, h4 0 _ rfl, h4 1 _ rfl, h4 2 _ rfl, h4 3 _ rfl, h4 4 _ rfl, h4 5 _ rfl⟩
def Tm.le (N : Nat) (x : Tm) : Prop := x.var.size ≤ N ∧ x.val.sym.size ≤ N
structure Pt where
  neg : Bool
  cls : ByteArray
  terms : List Tm
def Pt.R (q : Option Nat) (w : World) (r : List Value) (x : Pt) : Prop := ∃ a_terms c_terms, r = [.bool x.neg, .string x.cls, .slice a_terms x.terms.length c_terms] ∧ TmsAt q w a_terms x.terms ∧ x.terms.length ≤ c_terms
abbrev PtsAt (q : Option Nat) (w : World) (a : Option Addr) (xs : List Pt) : Prop := RowsAt (Pt.R q) q 78 3 w a xs
theorem PtsAt.below {q : Option Nat} {w w' : World} {a : Option Addr} {xs : List Pt} (h : PtsAt q w a xs) (hb : Below w.heap.size w w') : PtsAt q w' a xs := RowsAt.below h (fun _ _ _ ⟨a_terms, c_terms, e, h_terms, cp⟩ => ⟨a_terms, c_terms, e, h_terms.below hb, cp⟩) hb
theorem PtsAt.bare {q : Option Nat} {w : World} {a : Option Addr} {xs : List Pt} (h : PtsAt q w a xs) : PtsAt none w a xs := RowsAt.weak h (fun b _ => Qb.bare _ _ b) (fun _ _ _ ⟨a_terms, c_terms, e, h_terms, cp⟩ => ⟨a_terms, c_terms, e, h_terms.bare, cp⟩)
theorem PtsAt.get {q : Option Nat} {w : World} {a : Option Addr} {xs : List Pt} {i : Nat} {x : Pt} (h : PtsAt q w a xs) (hi : xs[i]? = some x) : ∃ b o a_terms c_terms, a = some ⟨b, o, none⟩ ∧ Qb q w 78 b ∧ w.cell? ⟨b, o + i * 3, none⟩ = some (.bool x.neg) ∧ w.cell? ⟨b, o + i * 3 + 1, none⟩ = some (.string x.cls) ∧ w.cell? ⟨b, o + i * 3 + 2, none⟩ = some (.slice a_terms x.terms.length c_terms) ∧ TmsAt q w a_terms x.terms := by
  obtain ⟨b, o, r, h1, h2, h3, h4, h5⟩ := h i x hi
  obtain ⟨a_terms, c_terms, rfl, h_terms, _⟩ := h5
  exact ⟨b, o, a_terms, c_terms, h1, h2, h4 0 _ rfl, h4 1 _ rfl, h4 2 _ rfl, h_terms⟩
def Pt.le (N : Nat) (x : Pt) : Prop := x.cls.size ≤ N ∧ ListLe Tm.le N x.terms
structure Ex where
  kind : Int
  op : Int
  var : ByteArray
  val : V
  a : Int
  b : Int
def Ex.R (_ : World) (r : List Value) (x : Ex) : Prop := r = [.int .i64 x.kind, .int .u8 x.op, .string x.var, .int .i64 x.val.kind, .int .i64 x.val.num, .string x.val.sym, .int .i64 x.a, .int .i64 x.b]
abbrev ExsAt (q : Option Nat) (w : World) (a : Option Addr) (xs : List Ex) : Prop := RowsAt Ex.R q 97 8 w a xs
theorem ExsAt.below {q : Option Nat} {w w' : World} {a : Option Addr} {xs : List Ex} (h : ExsAt q w a xs) (hb : Below w.heap.size w w') : ExsAt q w' a xs := RowsAt.below h (fun _ _ _ h => h) hb
theorem ExsAt.bare {q : Option Nat} {w : World} {a : Option Addr} {xs : List Ex} (h : ExsAt q w a xs) : ExsAt none w a xs := RowsAt.weak h (fun b _ => Qb.bare _ _ b) (fun _ _ _ h => h)
theorem ExsAt.get {q : Option Nat} {w : World} {a : Option Addr} {xs : List Ex} {i : Nat} {x : Ex} (h : ExsAt q w a xs) (hi : xs[i]? = some x) : ∃ b o, a = some ⟨b, o, none⟩ ∧ Qb q w 97 b ∧ w.cell? ⟨b, o + i * 8, none⟩ = some (.int .i64 x.kind) ∧ w.cell? ⟨b, o + i * 8 + 1, none⟩ = some (.int .u8 x.op) ∧ w.cell? ⟨b, o + i * 8 + 2, none⟩ = some (.string x.var) ∧ w.cell? ⟨b, o + i * 8 + 3, none⟩ = some (.int .i64 x.val.kind) ∧ w.cell? ⟨b, o + i * 8 + 4, none⟩ = some (.int .i64 x.val.num) ∧ w.cell? ⟨b, o + i * 8 + 5, none⟩ = some (.string x.val.sym) ∧ w.cell? ⟨b, o + i * 8 + 6, none⟩ = some (.int .i64 x.a) ∧ w.cell? ⟨b, o + i * 8 + 7, none⟩ = some (.int .i64 x.b) := by
  obtain ⟨b, o, r, h1, h2, h3, h4, h5⟩ := h i x hi
  subst h5
  exact ⟨b, o, h1, h2, h4 0 _ rfl, h4 1 _ rfl, h4 2 _ rfl, h4 3 _ rfl, h4 4 _ rfl, h4 5 _ rfl, h4 6 _ rfl, h4 7 _ rfl⟩
def Ex.le (N : Nat) (x : Ex) : Prop := x.var.size ≤ N ∧ x.val.sym.size ≤ N
structure Ac where
  kind : Int
  k : Int
  cls : ByteArray
  args : List Int
def Ac.R (q : Option Nat) (w : World) (r : List Value) (x : Ac) : Prop := ∃ a_args c_args, r = [.int .i64 x.kind, .int .i64 x.k, .string x.cls, .slice a_args x.args.length c_args] ∧ IntsAt q w a_args x.args
abbrev AcsAt (q : Option Nat) (w : World) (a : Option Addr) (xs : List Ac) : Prop := RowsAt (Ac.R q) q 73 4 w a xs
theorem AcsAt.below {q : Option Nat} {w w' : World} {a : Option Addr} {xs : List Ac} (h : AcsAt q w a xs) (hb : Below w.heap.size w w') : AcsAt q w' a xs := RowsAt.below h (fun _ _ _ ⟨a_args, c_args, e, h_args⟩ => ⟨a_args, c_args, e, h_args.below hb⟩) hb
theorem AcsAt.bare {q : Option Nat} {w : World} {a : Option Addr} {xs : List Ac} (h : AcsAt q w a xs) : AcsAt none w a xs := RowsAt.weak h (fun b _ => Qb.bare _ _ b) (fun _ _ _ ⟨a_args, c_args, e, h_args⟩ => ⟨a_args, c_args, e, h_args.bare⟩)
theorem AcsAt.get {q : Option Nat} {w : World} {a : Option Addr} {xs : List Ac} {i : Nat} {x : Ac} (h : AcsAt q w a xs) (hi : xs[i]? = some x) : ∃ b o a_args c_args, a = some ⟨b, o, none⟩ ∧ Qb q w 73 b ∧ w.cell? ⟨b, o + i * 4, none⟩ = some (.int .i64 x.kind) ∧ w.cell? ⟨b, o + i * 4 + 1, none⟩ = some (.int .i64 x.k) ∧ w.cell? ⟨b, o + i * 4 + 2, none⟩ = some (.string x.cls) ∧ w.cell? ⟨b, o + i * 4 + 3, none⟩ = some (.slice a_args x.args.length c_args) ∧ IntsAt q w a_args x.args := by
  obtain ⟨b, o, r, h1, h2, h3, h4, h5⟩ := h i x hi
  obtain ⟨a_args, c_args, rfl, h_args⟩ := h5
  exact ⟨b, o, a_args, c_args, h1, h2, h4 0 _ rfl, h4 1 _ rfl, h4 2 _ rfl, h4 3 _ rfl, h_args⟩
def Ac.le (N : Nat) (x : Ac) : Prop := x.cls.size ≤ N ∧ x.args.length ≤ N
structure Ru where
  name : ByteArray
  sal : Int
  pats : List Pt
  exprs : List Ex
  acts : List Ac
def Ru.R (q : Option Nat) (w : World) (r : List Value) (x : Ru) : Prop := ∃ a_pats c_pats a_exprs c_exprs a_acts c_acts, r = [.string x.name, .int .i64 x.sal, .slice a_pats x.pats.length c_pats, .slice a_exprs x.exprs.length c_exprs, .slice a_acts x.acts.length c_acts] ∧ PtsAt q w a_pats x.pats ∧ ExsAt q w a_exprs x.exprs ∧ AcsAt q w a_acts x.acts ∧ x.exprs.length ≤ c_exprs
abbrev RusAt (q : Option Nat) (w : World) (a : Option Addr) (xs : List Ru) : Prop := RowsAt (Ru.R q) q 39 5 w a xs
theorem RusAt.below {q : Option Nat} {w w' : World} {a : Option Addr} {xs : List Ru} (h : RusAt q w a xs) (hb : Below w.heap.size w w') : RusAt q w' a xs := RowsAt.below h (fun _ _ _ ⟨a_pats, c_pats, a_exprs, c_exprs, a_acts, c_acts, e, h_pats, h_exprs, h_acts, cap_exprs⟩ => ⟨a_pats, c_pats, a_exprs, c_exprs, a_acts, c_acts, e, h_pats.below hb, h_exprs.below hb, h_acts.below hb, cap_exprs⟩) hb
theorem RusAt.bare {q : Option Nat} {w : World} {a : Option Addr} {xs : List Ru} (h : RusAt q w a xs) : RusAt none w a xs := RowsAt.weak h (fun b _ => Qb.bare _ _ b) (fun _ _ _ ⟨a_pats, c_pats, a_exprs, c_exprs, a_acts, c_acts, e, h_pats, h_exprs, h_acts, cap_exprs⟩ => ⟨a_pats, c_pats, a_exprs, c_exprs, a_acts, c_acts, e, h_pats.bare, h_exprs.bare, h_acts.bare, cap_exprs⟩)
theorem RusAt.get {q : Option Nat} {w : World} {a : Option Addr} {xs : List Ru} {i : Nat} {x : Ru} (h : RusAt q w a xs) (hi : xs[i]? = some x) : ∃ b o a_pats c_pats a_exprs c_exprs a_acts c_acts, a = some ⟨b, o, none⟩ ∧ Qb q w 39 b ∧ w.cell? ⟨b, o + i * 5, none⟩ = some (.string x.name) ∧ w.cell? ⟨b, o + i * 5 + 1, none⟩ = some (.int .i64 x.sal) ∧ w.cell? ⟨b, o + i * 5 + 2, none⟩ = some (.slice a_pats x.pats.length c_pats) ∧ w.cell? ⟨b, o + i * 5 + 3, none⟩ = some (.slice a_exprs x.exprs.length c_exprs) ∧ w.cell? ⟨b, o + i * 5 + 4, none⟩ = some (.slice a_acts x.acts.length c_acts) ∧ PtsAt q w a_pats x.pats ∧ ExsAt q w a_exprs x.exprs ∧ AcsAt q w a_acts x.acts ∧ x.exprs.length ≤ c_exprs := by
  obtain ⟨b, o, r, h1, h2, h3, h4, h5⟩ := h i x hi
  obtain ⟨a_pats, c_pats, a_exprs, c_exprs, a_acts, c_acts, rfl, h_pats, h_exprs, h_acts, cap_exprs⟩ := h5
  exact ⟨b, o, a_pats, c_pats, a_exprs, c_exprs, a_acts, c_acts, h1, h2, h4 0 _ rfl, h4 1 _ rfl, h4 2 _ rfl, h4 3 _ rfl, h4 4 _ rfl, h_pats, h_exprs, h_acts, cap_exprs⟩
def Ru.le (N : Nat) (x : Ru) : Prop := x.name.size ≤ N ∧ ListLe Pt.le N x.pats ∧ ListLe Ex.le N x.exprs ∧ ListLe Ac.le N x.acts
end Go.Proofs.YtjjjagepnnbebaaGreatDoor
