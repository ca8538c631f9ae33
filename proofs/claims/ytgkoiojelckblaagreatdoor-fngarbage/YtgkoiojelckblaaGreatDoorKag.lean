/-
  OUR OWN TEXT. Rd0, Ty, RdG, Chk, App, Bx, Ll, Tc, one behind the other.
-/
import Derived.Test.YtgkoiojelckblaaGreatDoorKae
import Derived.Deep.Slices
import Derived.Deep.Strs
import Derived.Lib.SmallJoins
import Derived.Deep.MidRow
import Derived.Test.YtgkoiojelckblaaGreatDoorKaf
import Derived.Maps.AppendAt
import Derived.Laws.OwnMore
namespace Go.Proofs.YtgkoiojelckblaaGreatDoor
open Go.RowKit Go.Deep

theorem laidOut : laidOutB Tryz.prog = true := by kernel_rfl
theorem ownK : ownKnob Tryz.prog.godebug = none := by kernel_rfl
theorem cellsS : Tryz.prog.cellsOf 9 = 1 := by kernel_rfl
def VOk (v : V) : Prop := (Lit.int .i64 v.kind).wf = true ∧ (Lit.int .i64 v.num).wf = true ∧ v.sym.size ≤ maxLen
theorem map_range_at {α : Type} {f : Nat → α} {len i : Nat} {x : α} (h : ((List.range len).map f)[i]? = some x) : i < len ∧ f i = x := by
  have hi : i < len := by simpa using (List.getElem?_eq_some_iff.1 h).1
  simp [hi] at h
  exact ⟨hi, h⟩

theorem spot_none {w : World} {b o : Nat} {sp : Option Nat} {n : Nat} {x y : Value} (h0 : w.cell? ((⟨b, o, sp⟩ : Addr).add 0) = some x) (_h : w.cell? ((⟨b, o, sp⟩ : Addr).add n) = some y) : sp = none := by
  have h1 := World.cell?_spot h0
  simpa [Addr.add] using h1

section
variable {H : Type} {enc : TypeId × Value → H} {w : World} {base : Nat} {spare : Nat → Bool} {held : Bool}

end
end Go.Proofs.YtgkoiojelckblaaGreatDoor

namespace Go.Proofs.YtgkoiojelckblaaGreatDoor
open Go.RowKit

/-- Numbers that lie in memory. -/
def intR (_ : World) (r : List Value) (x : Int) : Prop := r = [.int .i64 x]
abbrev IntsAt (q : Option Nat) (w : World) (a : Option Addr) (xs : List Int) : Prop := RowsAt intR q 3 1 w a xs
theorem IntsAt.below {q : Option Nat} {w w' : World} {a : Option Addr} {xs : List Int} (h : IntsAt q w a xs) (hb : Below w.heap.size w w') : IntsAt q w' a xs := RowsAt.below h (fun _ _ _ h => h) hb
theorem IntsAt.bare {q : Option Nat} {w : World} {a : Option Addr} {xs : List Int} (h : IntsAt q w a xs) : IntsAt none w a xs := RowsAt.weak h (fun b _ => Qb.bare _ _ b) (fun _ _ _ h => h)
theorem IntsAt.get {q : Option Nat} {w : World} {a : Option Addr} {xs : List Int} {i : Nat} {x : Int} (h : IntsAt q w a xs) (hi : xs[i]? = some x) : ∃ b o, a = some ⟨b, o, none⟩ ∧ Qb q w 3 b ∧ w.cell? ⟨b, o + i, none⟩ = some (.int .i64 x) := by
  obtain ⟨b, o, r, h1, h2, h3, h4, h5⟩ := h i x hi
  subst h5
  exact ⟨b, o, h1, h2, by simpa using h4 0 _ rfl⟩

structure Tm where
  kind : Int
  op : Int
  var : ByteArray
  val : V
def Tm.R (_ : World) (r : List Value) (x : Tm) : Prop := r = [.int .i64 x.kind, .int .i64 x.op, .string x.var, .int .i64 x.val.kind, .int .i64 x.val.num, .string x.val.sym]
abbrev TmsAt (q : Option Nat) (w : World) (a : Option Addr) (xs : List Tm) : Prop := RowsAt Tm.R q 49 6 w a xs
theorem TmsAt.below {q : Option Nat} {w w' : World} {a : Option Addr} {xs : List Tm} (h : TmsAt q w a xs) (hb : Below w.heap.size w w') : TmsAt q w' a xs := RowsAt.below h (fun _ _ _ h => h) hb
theorem TmsAt.bare {q : Option Nat} {w : World} {a : Option Addr} {xs : List Tm} (h : TmsAt q w a xs) : TmsAt none w a xs := RowsAt.weak h (fun b _ => Qb.bare _ _ b) (fun _ _ _ h => h)
theorem TmsAt.get {q : Option Nat} {w : World} {a : Option Addr} {xs : List Tm} {i : Nat} {x : Tm} (h : TmsAt q w a xs) (hi : xs[i]? = some x) : ∃ b o, a = some ⟨b, o, none⟩ ∧ Qb q w 49 b ∧ w.cell? ⟨b, o + i * 6, none⟩ = some (.int .i64 x.kind) ∧ w.cell? ⟨b, o + i * 6 + 1, none⟩ = some (.int .i64 x.op) ∧ w.cell? ⟨b, o + i * 6 + 2, none⟩ = some (.string x.var) ∧ w.cell? ⟨b, o + i * 6 + 3, none⟩ = some (.int .i64 x.val.kind) ∧ w.cell? ⟨b, o + i * 6 + 4, none⟩ = some (.int .i64 x.val.num) ∧ w.cell? ⟨b, o + i * 6 + 5, none⟩ = some (.string x.val.sym) := by
  obtain ⟨b, o, r, h1, h2, h3, h4, h5⟩ := h i x hi
  subst h5
  exact ⟨b, o, h1, h2, h4 0 _ rfl, h4 1 _ rfl, h4 2 _ rfl, h4 3 _ rfl, h4 4 _ rfl, h4 5 _ rfl⟩
def Tm.le (N : Nat) (x : Tm) : Prop := x.var.size ≤ N ∧ x.val.sym.size ≤ N
structure Pt where
  neg : Bool
  cls : ByteArray
  terms : List Tm
def Pt.R (q : Option Nat) (w : World) (r : List Value) (x : Pt) : Prop := ∃ a_terms c_terms, r = [.bool x.neg, .string x.cls, .slice a_terms x.terms.length c_terms] ∧ TmsAt q w a_terms x.terms ∧ x.terms.length ≤ c_terms
abbrev PtsAt (q : Option Nat) (w : World) (a : Option Addr) (xs : List Pt) : Prop := RowsAt (Pt.R q) q 45 3 w a xs
theorem PtsAt.below {q : Option Nat} {w w' : World} {a : Option Addr} {xs : List Pt} (h : PtsAt q w a xs) (hb : Below w.heap.size w w') : PtsAt q w' a xs := RowsAt.below h (fun _ _ _ ⟨a_terms, c_terms, e, h_terms, cp⟩ => ⟨a_terms, c_terms, e, h_terms.below hb, cp⟩) hb
theorem PtsAt.bare {q : Option Nat} {w : World} {a : Option Addr} {xs : List Pt} (h : PtsAt q w a xs) : PtsAt none w a xs := RowsAt.weak h (fun b _ => Qb.bare _ _ b) (fun _ _ _ ⟨a_terms, c_terms, e, h_terms, cp⟩ => ⟨a_terms, c_terms, e, h_terms.bare, cp⟩)
theorem PtsAt.get {q : Option Nat} {w : World} {a : Option Addr} {xs : List Pt} {i : Nat} {x : Pt} (h : PtsAt q w a xs) (hi : xs[i]? = some x) : ∃ b o a_terms c_terms, a = some ⟨b, o, none⟩ ∧ Qb q w 45 b ∧ w.cell? ⟨b, o + i * 3, none⟩ = some (.bool x.neg) ∧ w.cell? ⟨b, o + i * 3 + 1, none⟩ = some (.string x.cls) ∧ w.cell? ⟨b, o + i * 3 + 2, none⟩ = some (.slice a_terms x.terms.length c_terms) ∧ TmsAt q w a_terms x.terms := by
  obtain ⟨b, o, r, h1, h2, h3, h4, h5⟩ := h i x hi
  obtain ⟨a_terms, c_terms, rfl, h_terms, _⟩ := h5
  exact ⟨b, o, a_terms, c_terms, h1, h2, h4 0 _ rfl, h4 1 _ rfl, h4 2 _ rfl, h_terms⟩
def Pt.le (N : Nat) (x : Pt) : Prop := x.cls.size ≤ N ∧ ListLe Tm.le N x.terms
structure Ex where
  kind : Int
  op : Int
  var : ByteArray
  val : V
  a : Int
  b : Int
def Ex.R (_ : World) (r : List Value) (x : Ex) : Prop := r = [.int .i64 x.kind, .int .u8 x.op, .string x.var, .int .i64 x.val.kind, .int .i64 x.val.num, .string x.val.sym, .int .i64 x.a, .int .i64 x.b]
abbrev ExsAt (q : Option Nat) (w : World) (a : Option Addr) (xs : List Ex) : Prop := RowsAt Ex.R q 138 8 w a xs
theorem ExsAt.below {q : Option Nat} {w w' : World} {a : Option Addr} {xs : List Ex} (h : ExsAt q w a xs) (hb : Below w.heap.size w w') : ExsAt q w' a xs := RowsAt.below h (fun _ _ _ h => h) hb
theorem ExsAt.bare {q : Option Nat} {w : World} {a : Option Addr} {xs : List Ex} (h : ExsAt q w a xs) : ExsAt none w a xs := RowsAt.weak h (fun b _ => Qb.bare _ _ b) (fun _ _ _ h => h)
theorem ExsAt.get {q : Option Nat} {w : World} {a : Option Addr} {xs : List Ex} {i : Nat} {x : Ex} (h : ExsAt q w a xs) (hi : xs[i]? = some x) : ∃ b o, a = some ⟨b, o, none⟩ ∧ Qb q w 138 b ∧ w.cell? ⟨b, o + i * 8, none⟩ = some (.int .i64 x.kind) ∧ w.cell? ⟨b, o + i * 8 + 1, none⟩ = some (.int .u8 x.op) ∧ w.cell? ⟨b, o + i * 8 + 2, none⟩ = some (.string x.var) ∧ w.cell? ⟨b, o + i * 8 + 3, none⟩ = some (.int .i64 x.val.kind) ∧ w.cell? ⟨b, o + i * 8 + 4, none⟩ = some (.int .i64 x.val.num) ∧ w.cell? ⟨b, o + i * 8 + 5, none⟩ = some (.string x.val.sym) ∧ w.cell? ⟨b, o + i * 8 + 6, none⟩ = some (.int .i64 x.a) ∧ w.cell? ⟨b, o + i * 8 + 7, none⟩ = some (.int .i64 x.b) := by
  obtain ⟨b, o, r, h1, h2, h3, h4, h5⟩ := h i x hi
  subst h5
  exact ⟨b, o, h1, h2, h4 0 _ rfl, h4 1 _ rfl, h4 2 _ rfl, h4 3 _ rfl, h4 4 _ rfl, h4 5 _ rfl, h4 6 _ rfl, h4 7 _ rfl⟩
def Ex.le (N : Nat) (x : Ex) : Prop := x.var.size ≤ N ∧ x.val.sym.size ≤ N
structure Ac where
  kind : Int
  k : Int
  cls : ByteArray
  args : List Int
def Ac.R (q : Option Nat) (w : World) (r : List Value) (x : Ac) : Prop := ∃ a_args c_args, r = [.int .i64 x.kind, .int .i64 x.k, .string x.cls, .slice a_args x.args.length c_args] ∧ IntsAt q w a_args x.args
abbrev AcsAt (q : Option Nat) (w : World) (a : Option Addr) (xs : List Ac) : Prop := RowsAt (Ac.R q) q 53 4 w a xs
theorem AcsAt.below {q : Option Nat} {w w' : World} {a : Option Addr} {xs : List Ac} (h : AcsAt q w a xs) (hb : Below w.heap.size w w') : AcsAt q w' a xs := RowsAt.below h (fun _ _ _ ⟨a_args, c_args, e, h_args⟩ => ⟨a_args, c_args, e, h_args.below hb⟩) hb
theorem AcsAt.bare {q : Option Nat} {w : World} {a : Option Addr} {xs : List Ac} (h : AcsAt q w a xs) : AcsAt none w a xs := RowsAt.weak h (fun b _ => Qb.bare _ _ b) (fun _ _ _ ⟨a_args, c_args, e, h_args⟩ => ⟨a_args, c_args, e, h_args.bare⟩)
theorem AcsAt.get {q : Option Nat} {w : World} {a : Option Addr} {xs : List Ac} {i : Nat} {x : Ac} (h : AcsAt q w a xs) (hi : xs[i]? = some x) : ∃ b o a_args c_args, a = some ⟨b, o, none⟩ ∧ Qb q w 53 b ∧ w.cell? ⟨b, o + i * 4, none⟩ = some (.int .i64 x.kind) ∧ w.cell? ⟨b, o + i * 4 + 1, none⟩ = some (.int .i64 x.k) ∧ w.cell? ⟨b, o + i * 4 + 2, none⟩ = some (.string x.cls) ∧ w.cell? ⟨b, o + i * 4 + 3, none⟩ = some (.slice a_args x.args.length c_args) ∧ IntsAt q w a_args x.args := by
  obtain ⟨b, o, r, h1, h2, h3, h4, h5⟩ := h i x hi
  obtain ⟨a_args, c_args, rfl, h_args⟩ := h5
  exact ⟨b, o, a_args, c_args, h1, h2, h4 0 _ rfl, h4 1 _ rfl, h4 2 _ rfl, h4 3 _ rfl, h_args⟩
def Ac.le (N : Nat) (x : Ac) : Prop := x.cls.size ≤ N ∧ x.args.length ≤ N
structure Ru where
  name : ByteArray
  sal : Int
  pats : List Pt
  exprs : List Ex
  acts : List Ac
def Ru.R (q : Option Nat) (w : World) (r : List Value) (x : Ru) : Prop := ∃ a_pats c_pats a_exprs c_exprs a_acts c_acts, r = [.string x.name, .int .i64 x.sal, .slice a_pats x.pats.length c_pats, .slice a_exprs x.exprs.length c_exprs, .slice a_acts x.acts.length c_acts] ∧ PtsAt q w a_pats x.pats ∧ ExsAt q w a_exprs x.exprs ∧ AcsAt q w a_acts x.acts ∧ x.exprs.length ≤ c_exprs
abbrev RusAt (q : Option Nat) (w : World) (a : Option Addr) (xs : List Ru) : Prop := RowsAt (Ru.R q) q 41 5 w a xs
theorem RusAt.below {q : Option Nat} {w w' : World} {a : Option Addr} {xs : List Ru} (h : RusAt q w a xs) (hb : Below w.heap.size w w') : RusAt q w' a xs := RowsAt.below h (fun _ _ _ ⟨a_pats, c_pats, a_exprs, c_exprs, a_acts, c_acts, e, h_pats, h_exprs, h_acts, cap_exprs⟩ => ⟨a_pats, c_pats, a_exprs, c_exprs, a_acts, c_acts, e, h_pats.below hb, h_exprs.below hb, h_acts.below hb, cap_exprs⟩) hb
theorem RusAt.bare {q : Option Nat} {w : World} {a : Option Addr} {xs : List Ru} (h : RusAt q w a xs) : RusAt none w a xs := RowsAt.weak h (fun b _ => Qb.bare _ _ b) (fun _ _ _ ⟨a_pats, c_pats, a_exprs, c_exprs, a_acts, c_acts, e, h_pats, h_exprs, h_acts, cap_exprs⟩ => ⟨a_pats, c_pats, a_exprs, c_exprs, a_acts, c_acts, e, h_pats.bare, h_exprs.bare, h_acts.bare, cap_exprs⟩)
theorem RusAt.get {q : Option Nat} {w : World} {a : Option Addr} {xs : List Ru} {i : Nat} {x : Ru} (h : RusAt q w a xs) (hi : xs[i]? = some x) : ∃ b o a_pats c_pats a_exprs c_exprs a_acts c_acts, a = some ⟨b, o, none⟩ ∧ Qb q w 41 b ∧ w.cell? ⟨b, o + i * 5, none⟩ = some (.string x.name) ∧ w.cell? ⟨b, o + i * 5 + 1, none⟩ = some (.int .i64 x.sal) ∧ w.cell? ⟨b, o + i * 5 + 2, none⟩ = some (.slice a_pats x.pats.length c_pats) ∧ w.cell? ⟨b, o + i * 5 + 3, none⟩ = some (.slice a_exprs x.exprs.length c_exprs) ∧ w.cell? ⟨b, o + i * 5 + 4, none⟩ = some (.slice a_acts x.acts.length c_acts) ∧ PtsAt q w a_pats x.pats ∧ ExsAt q w a_exprs x.exprs ∧ AcsAt q w a_acts x.acts ∧ x.exprs.length ≤ c_exprs := by
  obtain ⟨b, o, r, h1, h2, h3, h4, h5⟩ := h i x hi
  obtain ⟨a_pats, c_pats, a_exprs, c_exprs, a_acts, c_acts, rfl, h_pats, h_exprs, h_acts, cap_exprs⟩ := h5
  exact ⟨b, o, a_pats, c_pats, a_exprs, c_exprs, a_acts, c_acts, h1, h2, h4 0 _ rfl, h4 1 _ rfl, h4 2 _ rfl, h4 3 _ rfl, h4 4 _ rfl, h_pats, h_exprs, h_acts, cap_exprs⟩
def Ru.le (N : Nat) (x : Ru) : Prop := x.name.size ≤ N ∧ ListLe Pt.le N x.pats ∧ ListLe Ex.le N x.exprs ∧ ListLe Ac.le N x.acts
end Go.Proofs.YtgkoiojelckblaaGreatDoor

namespace Go.Proofs.YtgkoiojelckblaaGreatDoor
open Go.RowKit Go.Deep

section
variable {H : Type} {enc : TypeId × Value → H} {w : World} {base : Nat} {spare : Nat → Bool} {held : Bool}

/-- A list of rows that came in. -/
theorem rd_rows {α : Type} (d : α) {R : World → List Value → α → Prop} {Ok : α → Prop} (t e T : TypeId) (m : Nat) (ht : Tryz.prog.underlying t = some (.slice e)) (ce : Tryz.prog.cellsOf e = m) (hm0 : 0 < m)
    (each : ∀ (n : Nat) (cs : List Value) (x : DataW H × List MemPlace), DataW.trod enc Tryz.prog w base spare held n e cs = some x → cs.length = m → ∃ v : α, R w cs v ∧ Ok v)
    {n : Nat} {cs : List Value} {x : DataW H × List MemPlace} (h : DataW.trod enc Tryz.prog w base spare held n t cs = some x) :
    ∃ a c, ∃ vs : List α, cs = [.slice a vs.length c] ∧ RowsAt R none T m w a vs ∧ vs.length ≤ c ∧ vs.length ≤ maxLen ∧ ∀ v ∈ vs, Ok v := by
  rcases open_slice ht h with ⟨rfl, _⟩ | ⟨a, len, cap, mm, k, D, Pl, rfl, _, hl, hm, hmm, _, hx⟩
  · exact ⟨none, 0, [], rfl, RowsAt.nil, Nat.zero_le _, Nat.zero_le _, fun v hv => by simp at hv⟩
  have hlm : len ≤ mm := by rw [hmm]; split <;> omega
  have one : ∀ i, i < len → ∃ v : α, (∃ r, r.length = m ∧ (∀ j u, r[j]? = some u → w.cell? (a.add (i * m + j)) = some u) ∧ R w r v) ∧ Ok v := by
    intro i hi
    obtain ⟨cs', h1, h2⟩ := hx i (by omega)
    rw [ce] at h1
    obtain ⟨_, hlen, hcell⟩ := World.cells?_some h1
    obtain ⟨v, hR, hO⟩ := each _ _ _ h2 hlen
    refine ⟨v, ⟨cs', hlen, fun j u hj => ?_, hR⟩, hO⟩
    have hjm : j < m := by rw [← hlen]; exact (List.getElem?_eq_some_iff.1 hj).1
    have := hcell j hjm
    rw [add_add] at this
    rw [this, hj]
  have : Nonempty (Inhabited α) := ⟨⟨d⟩⟩
  obtain ⟨inh⟩ := this
  obtain ⟨f, hf⟩ := choose_lt one
  refine ⟨some a, cap, (List.range len).map f, by simp, ?_, by simp; omega, by simp; omega, ?_⟩
  · intro i v hv
    obtain ⟨hji, rfl⟩ := map_range_at hv
    obtain ⟨⟨r, hr, hc, hR⟩, _⟩ := hf i hji
    obtain ⟨b, o, sp⟩ := a
    obtain ⟨⟨r0, hr0, hc0, _⟩, _⟩ := hf 0 (by omega)
    obtain ⟨u0, hu0⟩ : ∃ u, r0[0]? = some u := ⟨r0[0]'(by omega), by simp⟩
    obtain ⟨u1, hu1⟩ : ∃ u, r[0]? = some u := ⟨r[0]'(by omega), by simp⟩
    have hsp : sp = none := spot_none (by simpa using hc0 0 u0 hu0) (hc 0 u1 hu1)
    subst hsp
    refine ⟨b, o, r, rfl, Qb.bare _ _ _, hr, fun j u hj => ?_, hR⟩
    have := hc j u hj
    rw [Addr.add_mid] at this
    rwa [Nat.add_assoc]
  · intro v hv
    obtain ⟨i, hi, rfl⟩ := List.mem_map.1 hv
    exact (hf i (List.mem_range.1 hi)).2

end
end Go.Proofs.YtgkoiojelckblaaGreatDoor

namespace Go.Proofs.YtgkoiojelckblaaGreatDoor

def isE (s : ByteArray) : Bool := s.toList.isEmpty
def zeroV (v : V) : Bool := v.kind == 0 && (v.num == 0 && isE v.sym)
def operandOk (t : Tm) : Bool := (isE t.var && gVal t.val) || (gSym t.var.data.toList && zeroV t.val)
def gTm (t : Tm) : Bool :=
  if t.kind == 0 then t.op == 0 && (isE t.var && zeroV t.val)
  else if t.kind == 1 then t.op == 0 && (isE t.var && gVal t.val)
  else if t.kind == 2 then t.op == 0 && (gSym t.var.data.toList && zeroV t.val)
  else if t.kind == 3 then decide (1 ≤ t.op) && (decide (t.op ≤ 6) && operandOk t)
  else false
def notB : ByteArray := ⟨#[110, 111, 116]⟩
def gCls (s : ByteArray) : Bool := gSym s.data.toList && !(decide (s = notB))
def gPt (p : Pt) : Bool := gCls p.cls && (decide (p.terms.length ≤ 6) && p.terms.all gTm)

/-- The first that is bad, counted from k. -/
def firstBad {α : Type} (f : α → Bool) : List α → Nat → Option Nat
  | [], _ => none
  | x :: r, k => if f x then firstBad f r (k + 1) else some k

/-- What an expr covers: the first of its exprs, and how deep it is. -/
abbrev Sp := Nat × Nat
def isAr (op : Int) : Bool := op == 43 || (op == 45 || (op == 42 || (op == 47 || op == 37)))
def leafOk (e : Ex) : Bool := e.op == 0 && (e.a == 0 && e.b == 0)
def spanAB (S : List Sp) (a b : Int) : Option Sp :=
  match S[b.toNat]?, S[a.toNat]? with
  | some sb, some sa => if decide (a = (sb.1 : Int) - 1) && decide (1 + max sa.2 sb.2 ≤ 20) then some (sa.1, 1 + max sa.2 sb.2) else none
  | _, _ => none
def opOk (S : List Sp) (e : Ex) : Bool := isAr e.op && (isE e.var && (zeroV e.val && (decide (e.b = (S.length : Int) - 1) && (decide (0 ≤ e.b) && decide (0 ≤ e.a)))))
def spanOf (S : List Sp) (e : Ex) : Option Sp :=
  if e.kind == 0 then (if leafOk e && (isE e.var && gVal e.val) then some (S.length, 0) else none)
  else if e.kind == 1 then (if leafOk e && (gSym e.var.data.toList && zeroV e.val) then some (S.length, 0) else none)
  else if e.kind == 2 then (if opOk S e then spanAB S e.a e.b else none)
  else none
def spansGo : List Sp → List Ex → List Sp
  | S, [] => S
  | S, e :: r => match spanOf S e with
    | none => S
    | some s => spansGo (S ++ [s]) r

def argsGo (S : List Sp) : List Int → Nat → Option Nat
  | [], nx => some nx
  | x :: r, nx => if decide (0 ≤ x) && (decide (x < (S.length : Int)) && decide ((S[x.toNat]?.getD (0, 0)).1 = nx)) then argsGo S r (x.toNat + 1) else none
def kOk (k : Int) : Bool := decide (-1000000 ≤ k) && decide (k ≤ 1000000)
def fieldsOk (a : Ac) : Bool :=
  if a.kind == 1 then gCls a.cls && a.k == 0
  else if a.kind == 2 then (isE a.cls && kOk a.k) && a.args.isEmpty
  else if a.kind == 3 then isE a.cls && kOk a.k
  else if a.kind == 4 then isE a.cls && (a.k == 0 && a.args.isEmpty)
  else false
def gAc (S : List Sp) (a : Ac) (nx : Nat) : Option Nat := if fieldsOk a && decide (a.args.length ≤ 6) then argsGo S a.args nx else none
def actsGo (S : List Sp) : List Ac → Nat → Nat → Option Nat
  | [], nx, k => if nx = S.length then none else some k
  | a :: r, nx, k => match gAc S a nx with
    | none => some k
    | some nx' => actsGo S r nx' (k + 1)
def headOk (r : Ru) : Bool := gSym r.name.data.toList && (decide (r.pats.length ≤ 6) && (decide (r.acts.length ≤ 8) && decide (r.exprs.length ≤ 60)))
/-- The item of the first fault of shape. -/
def shape (r : Ru) : Option Nat :=
  if headOk r then
    match firstBad gPt r.pats 1 with
    | some i => some i
    | none => if (spansGo [] r.exprs).length < r.exprs.length then some ((spansGo [] r.exprs).length + 1) else actsGo (spansGo [] r.exprs) r.acts 0 1
  else some 0

def pos1 (p : Pt) : Bool := !p.neg
def positives (ps : List Pt) : Nat := ps.countP pos1

def memB (s : ByteArray) (l : List ByteArray) : Bool := l.any fun x => decide (x = s)
def asks (t : Tm) : Bool := t.kind == 3 && !isE t.var
def termsGo : List Tm → List ByteArray → Option (List ByteArray)
  | [], here => some here
  | t :: r, here => if asks t && !memB t.var here then none else termsGo r (if t.kind == 2 then here ++ [t.var] else here)
/-- Either the item of the first pattern with an unknown variable, or what is known behind all. -/
def patsGo : List Pt → List ByteArray → Nat → Nat ⊕ List ByteArray
  | [], known, _ => .inr known
  | p :: r, known, k => match termsGo p.terms known with
    | none => .inl k
    | some here => patsGo r (if p.neg then known else here) (k + 1)
def knownE (known : List ByteArray) (e : Ex) : Bool := !(e.kind == 1) || memB e.var known
def upTo (a : Ac) : Nat := match a.args.getLast? with | none => 0 | some l => l.toNat + 1
def actVar (es : List Ex) (known : List ByteArray) (a : Ac) : Bool := a.args.isEmpty || (es.take (upTo a)).all (knownE known)
/-- The item of the first variable that is not known. -/
def scope (r : Ru) : Option Nat :=
  match patsGo r.pats [] 1 with
  | .inl i => some i
  | .inr known => firstBad (actVar r.exprs known) r.acts (r.pats.length + 1)
def refOk (most : Nat) (a : Ac) : Bool := !((a.kind == 2 || a.kind == 3) && !(decide (1 ≤ a.k) && decide (a.k ≤ (most : Int))))
def refs (r : Ru) : Option Nat := firstBad (refOk (positives r.pats)) r.acts (r.pats.length + 1)

/-- What is wrong with one rule behind others: a code and an item. -/
def chk1 (pre : List Ru) (r : Ru) : Int × Int :=
  match shape r with
  | some i => (1, i)
  | none => if pre.any (fun o => decide (o.name = r.name)) then (2, 0)
    else if 1 ≤ positives r.pats ∧ positives r.pats ≤ 3 then
      match scope r with
      | some i => (4, i)
      | none => match refs r with
        | some i => (5, i)
        | none => (0, 0)
    else (3, 0)
def chkGo : List Ru → List Ru → Nat → Int × Int × Int
  | _, [], _ => (0, 0, 0)
  | pre, r :: s, k => if (chk1 pre r).1 = 0 then chkGo (pre ++ [r]) s (k + 1) else ((chk1 pre r).1, k, (chk1 pre r).2)
def chk (rs : List Ru) : Int × Int × Int := if rs.length ≤ 16 then chkGo [] rs 0 else (1, 0, 0)

/-- The spans of the first exprs, each right. -/
def Spans (es : List Ex) (S : List Sp) : Prop := S.length ≤ es.length ∧ ∀ (i : Nat) (s : Sp) (e : Ex), S[i]? = some s → es[i]? = some e → spanOf (S.take i) e = some s

theorem Spans.nil (es : List Ex) : Spans es [] := ⟨Nat.zero_le _, fun i s e h => by simp at h⟩
theorem Spans.snoc {es : List Ex} {S : List Sp} {e : Ex} {s : Sp} (h : Spans es S) (he : es[S.length]? = some e) (hs : spanOf S e = some s) : Spans es (S ++ [s]) := by
  refine ⟨by have := (List.getElem?_eq_some_iff.1 he).1; simp; omega, fun i s' e' hi hi' => ?_⟩
  by_cases hlt : i < S.length
  · rw [List.getElem?_append_left hlt] at hi
    rw [List.take_append_of_le_length (by omega)]
    exact h.2 i s' e' hi hi'
  · have hil : i < (S ++ [s]).length := (List.getElem?_eq_some_iff.1 hi).1
    simp at hil
    obtain rfl : i = S.length := by omega
    simp at hi
    subst hi
    rw [he] at hi'
    injection hi' with hi'
    subst hi'
    rw [List.take_append_of_le_length (Nat.le_refl _), List.take_length]
    exact hs

theorem spansGo_spans {es : List Ex} : ∀ {l : List Ex} {S : List Sp}, Spans es S → es.drop S.length = l → Spans es (spansGo S l) ∧ S.length ≤ (spansGo S l).length
  | [], S, h, _ => ⟨h, Nat.le_refl _⟩
  | e :: r, S, h, hd => by
    have he : es[S.length]? = some e := by
      have := List.getElem?_drop (xs := es) (i := S.length) (j := 0)
      rw [hd] at this
      simpa using this.symm
    unfold spansGo
    split
    · exact ⟨h, Nat.le_refl _⟩
    · rename_i s hs
      have hd' : es.drop (S ++ [s]).length = r := by
        rw [List.length_append, ← List.drop_drop, hd]
        rfl
      have := spansGo_spans (h.snoc he hs) hd'
      exact ⟨this.1, by have := this.2; simp at this; omega⟩

/-- What the parts of an operation are. -/
theorem Spans.op {es : List Ex} {S : List Sp} (h : Spans es S) {i : Nat} {s : Sp} {e : Ex} (hi : S[i]? = some s) (he : es[i]? = some e) (hk : e.kind = 2) :
    ∃ (a b : Nat) (sa sb : Sp), e.a = (a : Int) ∧ e.b = (b : Int) ∧ b + 1 = i ∧ a < b + 1 ∧ S[a]? = some sa ∧ S[b]? = some sb ∧ s = (sa.1, 1 + max sa.2 sb.2) := by
  have := h.2 i s e hi he
  unfold spanOf at this
  simp only [hk] at this
  rw [if_neg (by decide), if_neg (by decide), if_pos (by decide)] at this
  split at this
  · rename_i ho
    simp only [opOk, Bool.and_eq_true, decide_eq_true_eq] at ho
    obtain ⟨_, _, _, hb, hb0, ha0⟩ := ho
    have hi' : i < S.length := (List.getElem?_eq_some_iff.1 hi).1
    have hlen : (S.take i).length = i := by simp; omega
    rw [hlen] at hb
    obtain ⟨b, hb'⟩ := Int.eq_ofNat_of_zero_le hb0
    obtain ⟨a, ha'⟩ := Int.eq_ofNat_of_zero_le ha0
    unfold spanAB at this
    rw [hb', ha'] at this
    simp only [Int.toNat_natCast] at this
    split at this
    · rename_i sb sa e1 e2
      rw [List.getElem?_take] at e1 e2
      split at e1
      · split at e2
        · split at this
          · injection this with this
            exact ⟨a, b, sa, sb, ha', hb', by omega, by omega, e2, e1, this.symm⟩
          · cases this
        · cases e2
      · cases e1
    · cases this
  · cases this

theorem Spans.leaf {es : List Ex} {S : List Sp} (h : Spans es S) {i : Nat} {s : Sp} {e : Ex} (hi : S[i]? = some s) (he : es[i]? = some e) (hk : e.kind ≠ 2) : s = (i, 0) := by
  have := h.2 i s e hi he
  have hi' : i < S.length := (List.getElem?_eq_some_iff.1 hi).1
  have hlen : (S.take i).length = i := by simp; omega
  unfold spanOf at this
  have hk2 : (e.kind == 2) = false := by simpa using hk
  rw [hk2, hlen] at this
  split at this
  · split at this
    · injection this with this
      exact this.symm
    · cases this
  · split at this
    · split at this
      · injection this with this
        exact this.symm
      · cases this
    · simp at this

theorem Spans.depth_le {es : List Ex} {S : List Sp} (h : Spans es S) (i : Nat) (s : Sp) (hi : S[i]? = some s) : s.2 ≤ 20 := by
  have hi' : i < S.length := (List.getElem?_eq_some_iff.1 hi).1
  have hes := h.1
  obtain ⟨e, he⟩ : ∃ e, es[i]? = some e := ⟨es[i]'(by omega), by simp⟩
  by_cases hk : e.kind = 2
  · have := h.2 i s e hi he
    unfold spanOf at this
    simp only [hk] at this
    rw [if_neg (by decide), if_neg (by decide), if_pos (by decide)] at this
    split at this
    · unfold spanAB at this
      split at this
      · split at this
        · rename_i hc
          injection this with this
          simp only [Bool.and_eq_true, decide_eq_true_eq] at hc
          rw [← this]
          exact hc.2
        · cases this
      · cases this
    · cases this
  · rw [h.leaf hi he hk]
    exact Nat.zero_le _

/-- An expr covers exprs up to itself. -/
theorem Spans.first_le {es : List Ex} {S : List Sp} (h : Spans es S) : ∀ (i : Nat) (s : Sp), S[i]? = some s → s.1 ≤ i := by
  intro i
  induction i using Nat.strongRecOn with
  | _ i ih =>
    intro s hi
    have hi' : i < S.length := (List.getElem?_eq_some_iff.1 hi).1
    have hes := h.1
    obtain ⟨e, he⟩ : ∃ e, es[i]? = some e := ⟨es[i]'(by omega), by simp⟩
    by_cases hk : e.kind = 2
    · obtain ⟨a, b, sa, sb, _, _, h1, h2, h3, h4, rfl⟩ := h.op hi he hk
      have := ih a (by omega) sa h3
      simp
      omega
    · rw [h.leaf hi he hk]
      exact Nat.le_refl _
end Go.Proofs.YtgkoiojelckblaaGreatDoor

namespace Go.Proofs.YtgkoiojelckblaaGreatDoor
open Go.RowKit

theorem run_append_none_any {P : Program} {w : World} (base : Nat) (t ty e : TypeId) (i : TypeInfo) (size : Nat) (ht : P.underlying t = some (.slice e)) (hi : P.info? e = some i)
    (v : Value) (n : Nat) (xs : List Value) (hown : w.ownsRow base e size v n xs) (c : Nat) :
    (Builtin.append_ #[t, t] ty #[v, .slice none 0 c]).run P w = .ok v w := by
  rcases hown.2 with ⟨rfl, rfl⟩ | ⟨g, cap, cur, rfl, _, _, hnc, _⟩
  · simp [Builtin.append_, run_underlying ht, sizeOf, typeInfo, hi, Builtin.lenOf, Builtin.firstCells]
  · simp [Builtin.append_, run_underlying ht, sizeOf, typeInfo, hi, Builtin.lenOf, Builtin.firstCells, hnc, storeCells]

theorem run_append_any {P : Program} (w : World) (base : Nat) (t ty e : TypeId) (z : Value) (size bytes : Nat) (ht : P.underlying t = some (.slice e)) (hinfo : (P.info? e).map (fun i => (i.zero, i.size, i.bytes)) = some (some z, size, bytes))
    (hzs : z.cells.size = size) (hsz : 0 < size) (v : Value) (n : Nat) (xs : List Value) (hown : w.ownsRow base e size v n xs)
    (sp : Option Addr) (m c : Nat) (news : List Value) (hl : news.length = m * size) (hnil : sp = none → m = 0) (hnews : ∀ a, sp = some a → ∀ j u, news[j]? = some u → w.cell? (a.add j) = some u) (h1 : ∀ u ∈ news, u.oneCell' = true)
    (h63 : n + m ≤ maxLen) (hbytes : (n + m) * bytes ≤ 140737488355328) (hbase : base ≤ w.heap.size) :
    ∃ a' c' w', (Builtin.append_ #[t, t] ty #[v, .slice sp m c]).run P w = .ok (.slice a' (n + m) c') w' ∧ w'.ownsRow base e size (.slice a' (n + m) c') (n + m) (xs ++ news) ∧ w.grownBy w' v.ownBlock ∧
      ((Value.slice a' (n + m) c').ownBlock = v.ownBlock ∨ (Value.slice a' (n + m) c').ownBlock = some w.heap.size) := by
  obtain ⟨i, hi, hz0, hz1, hz2⟩ := info_parts hinfo
  cases sp with
  | none =>
    obtain rfl := hnil rfl
    have hr := run_append_none_any (P := P) (w := w) base t ty e i size ht hi v n xs hown c
    have hnews0 : news = [] := List.eq_nil_of_length_eq_zero (by simpa using hl)
    subst hnews0
    have hform : ∃ a' c', v = .slice a' n c' := by
      rcases hown.2 with ⟨rfl, rfl⟩ | ⟨g, cap, cur, rfl, _⟩
      · exact ⟨none, 0, rfl⟩
      · exact ⟨_, _, rfl⟩
    obtain ⟨a', c', rfl⟩ := hform
    exact ⟨a', c', w, hr, by simpa using hown, ⟨rfl, rfl, rfl, Nat.le_refl _, fun _ _ _ => rfl⟩, .inl rfl⟩
  | some a =>
    obtain ⟨v', w', hr, h2, h3, _, h5⟩ := run_append_own_at (P := P) w base t ty e i z size bytes ht hi hz0 hz1 hz2 hzs hsz v n xs hown a m c news hl (hnews a rfl) h1 h63 hbytes hbase
    have hform : ∃ a' c', v' = .slice a' (n + m) c' := by
      rcases h2.2 with ⟨rfl, h0⟩ | ⟨g, cap, cur, rfl, _⟩
      · exact ⟨none, 0, by rw [h0]⟩
      · exact ⟨_, _, rfl⟩
    obtain ⟨a', c', rfl⟩ := hform
    exact ⟨a', c', w', hr, h2, h3, h5⟩

theorem wp_append_any {P : Program} {w : World} {o : Oper} {a : Act} {K : Act → World → Prop} {Q : Exit → Act → World → Prop} (s x : Operand) (t : TypeId)
    (ho : o.op = .call { callee := .builtin .append, args := #[s, x], argTypes := #[t, t] })
    (base : Nat) (e : TypeId) (z : Value) (size bytes : Nat) (ht : P.underlying t = some (.slice e)) (hinfo : (P.info? e).map (fun i => (i.zero, i.size, i.bytes)) = some (some z, size, bytes))
    (hzs : z.cells.size = size) (hsz : 0 < size) (v : Value) (n : Nat) (xs : List Value) (hs : a.eval s = v) (hown : w.ownsRow base e size v n xs)
    (sp : Option Addr) (m c : Nat) (hx : a.eval x = .slice sp m c) (news : List Value) (hl : news.length = m * size) (hnil : sp = none → m = 0) (hnews : ∀ a, sp = some a → ∀ j u, news[j]? = some u → w.cell? (a.add j) = some u) (h1 : ∀ u ∈ news, u.oneCell' = true)
    (h63 : n + m ≤ maxLen) (hbytes : (n + m) * bytes ≤ 140737488355328) (hbase : base ≤ w.heap.size)
    (h : ∀ a' c' w', Hid (w'.ownsRow base e size (.slice a' (n + m) c') (n + m) (xs ++ news)) → Hid (w.grownBy w' v.ownBlock) → Hid ((Value.slice a' (n + m) c').ownBlock = v.ownBlock ∨ (Value.slice a' (n + m) c').ownBlock = some w.heap.size) → K (a.put o.dst (.slice a' (n + m) c')) w') : o.wp P a w K Q := by
  obtain ⟨a', c', w', hr, h2, h3, h4⟩ := run_append_any (P := P) w base t o.type e z size bytes ht hinfo hzs hsz v n xs hown sp m c news hl hnil hnews h1 h63 hbytes hbase
  unfold Oper.wp execOp
  simp only [ho, resolve, invoke, builtin, Sem.run_bind, Sem.run_pure, Result.andThen_ok, List.map_toArray, List.map_cons, List.map_nil, hs, hx, hr]
  exact h a' c' w' h2 h3 h4

theorem wpList_append_any {P : Program} {w : World} {ops : Array Oper} {rest : List Oper} {o : Oper} {a : Act} {Q : Exit → Act → World → Prop} (hgd : o.guard = none) (s x : Operand) (t : TypeId)
    (ho : o.op = .call { callee := .builtin .append, args := #[s, x], argTypes := #[t, t] })
    (base : Nat) (e : TypeId) (z : Value) (size bytes : Nat) (ht : P.underlying t = some (.slice e)) (hinfo : (P.info? e).map (fun i => (i.zero, i.size, i.bytes)) = some (some z, size, bytes))
    (hzs : z.cells.size = size) (hsz : 0 < size) (v : Value) (n : Nat) (xs : List Value) (hs : a.eval s = v) (hown : w.ownsRow base e size v n xs)
    (sp : Option Addr) (m c : Nat) (hx : a.eval x = .slice sp m c) (news : List Value) (hl : news.length = m * size) (hnil : sp = none → m = 0) (hnews : ∀ a, sp = some a → ∀ j u, news[j]? = some u → w.cell? (a.add j) = some u) (h1 : ∀ u ∈ news, u.oneCell' = true)
    (h63 : n + m ≤ maxLen) (hbytes : (n + m) * bytes ≤ 140737488355328) (hbase : base ≤ w.heap.size)
    (h : ∀ a' c' w', Hid (w'.ownsRow base e size (.slice a' (n + m) c') (n + m) (xs ++ news)) → Hid (w.grownBy w' v.ownBlock) → Hid ((Value.slice a' (n + m) c').ownBlock = v.ownBlock ∨ (Value.slice a' (n + m) c').ownBlock = some w.heap.size) → wpList P ops Q rest (a.put o.dst (.slice a' (n + m) c')) w') : wpList P ops Q (o :: rest) a w :=
  wpList_plain hgd fun _ hK => wp_append_any s x t ho base e z size bytes ht hinfo hzs hsz v n xs hs hown sp m c hx news hl hnil hnews h1 h63 hbytes hbase fun a' c' w' h2 h3 h4 => hK _ _ (h a' c' w' h2 h3 h4)

theorem step_append_any {P : Program} {w : World} {ops : Array Oper} {o : Oper} {a : Act} {K : Act → World → Prop} {Q : Exit → Act → World → Prop} {E : Prop} (hgd : o.guard = none) (s x : Operand) (t : TypeId)
    (ho : o.op = .call { callee := .builtin .append, args := #[s, x], argTypes := #[t, t] })
    (base : Nat) (e : TypeId) (z : Value) (size bytes : Nat) (ht : P.underlying t = some (.slice e)) (hinfo : (P.info? e).map (fun i => (i.zero, i.size, i.bytes)) = some (some z, size, bytes))
    (hzs : z.cells.size = size) (hsz : 0 < size) (v : Value) (n : Nat) (xs : List Value) (hs : a.eval s = v) (hown : w.ownsRow base e size v n xs)
    (sp : Option Addr) (m c : Nat) (hx : a.eval x = .slice sp m c) (news : List Value) (hl : news.length = m * size) (hnil : sp = none → m = 0) (hnews : ∀ a, sp = some a → ∀ j u, news[j]? = some u → w.cell? (a.add j) = some u) (h1 : ∀ u ∈ news, u.oneCell' = true)
    (h63 : n + m ≤ maxLen) (hbytes : (n + m) * bytes ≤ 140737488355328) (hbase : base ≤ w.heap.size)
    (h : ∀ a' c' w', Hid (w'.ownsRow base e size (.slice a' (n + m) c') (n + m) (xs ++ news)) → Hid (w.grownBy w' v.ownBlock) → Hid ((Value.slice a' (n + m) c').ownBlock = v.ownBlock ∨ (Value.slice a' (n + m) c').ownBlock = some w.heap.size) → K (a.put o.dst (.slice a' (n + m) c')) w') :
    if Region.wanted o (yielded ops a.tmps) = true then Oper.wp P o a w K Q else E := by
  have hw : Region.wanted o (yielded ops a.tmps) = true := by simp [Region.wanted, hgd]
  rw [if_pos hw]
  exact wp_append_any s x t ho base e z size bytes ht hinfo hzs hsz v n xs hs hown sp m c hx news hl hnil hnews h1 h63 hbytes hbase h

/-- What is owned stays owned where its block stands. -/
theorem owns_of_block {w w' : World} {base : Nat} {e : TypeId} {size : Nat} {v : Value} {n : Nat} {xs : List Value} (h : w.ownsRow base e size v n xs) (hb : ∀ g, v.ownBlock = some g → w'.heap[g]? = w.heap[g]?) : w'.ownsRow base e size v n xs := by
  refine ⟨h.1, ?_⟩
  rcases h.2 with h | ⟨g, cap, cur, rfl, h2, h3, h4⟩
  · exact .inl h
  · exact .inr ⟨g, cap, cur, rfl, h2, (hb g rfl).trans h3, h4⟩

/-- Owned from a lower number on. -/
theorem owns_base {w : World} {base base' : Nat} {e : TypeId} {size : Nat} {v : Value} {n : Nat} {xs : List Value} (h : w.ownsRow base e size v n xs) (hb : base' ≤ base) : w.ownsRow base' e size v n xs := by
  refine ⟨h.1, ?_⟩
  rcases h.2 with h | ⟨g, cap, cur, rfl, h2, h3⟩
  · exact .inl h
  · exact .inr ⟨g, cap, cur, rfl, by omega, h3⟩

/-- An owned row's cells. -/
theorem owns_cell {w : World} {base : Nat} {e : TypeId} {size : Nat} {a : Option Addr} {n c : Nat} {xs : List Value} (h : w.ownsRow base e size (.slice a n c) n xs) {j : Nat} {x : Value} (hx : xs[j]? = some x) : ∃ g, a = some ⟨g, 0, none⟩ ∧ base ≤ g ∧ w.cell? ⟨g, j, none⟩ = some x ∧ w.frozen? ⟨g, j, none⟩ = false := by
  have hj : j < xs.length := (List.getElem?_eq_some_iff.1 hx).1
  rcases h.2 with ⟨_, h0⟩ | ⟨g, cap, cur, he, h2, h3, h4, h5, h6, h7⟩
  · have := h.1
    subst h0
    simp at this
    subst this
    simp at hj
  · simp only [Value.slice.injEq] at he
    obtain ⟨rfl, _, _⟩ := he
    refine ⟨g, rfl, h2, ?_, by simp [World.frozen?, h3]⟩
    rw [← h7, List.getElem?_take] at hx
    split at hx
    · simp [World.cell?, h3]
      simpa using hx
    · cases hx

/-- Two values share no block. -/
def Apart (x y : Value) : Prop := ∀ g, x.ownBlock = some g → y.ownBlock ≠ some g

/-- OwnB, said as the laws on append say it. -/
theorem OwnB.owns {w : World} {g : Nat} {t : TypeId} {m N base : Nat} {rs : List (List Value)} (h : OwnB w g t m N rs) (hb : base ≤ g) (hN : rs.length = N) (hm : N ≤ maxLen) : w.ownsRow base t m (.slice (some ⟨g, 0, none⟩) N N) N rs.flatten := by
  obtain ⟨c, h1, h2, _, h4⟩ := h
  have hfl : rs.flatten.length = N * m := by
    rw [List.length_flatten]
    have : ∀ (l : List (List Value)), (∀ r ∈ l, r.length = m) → (l.map List.length).sum = l.length * m := by
      intro l
      induction l with
      | nil => intro _; simp
      | cons r l ih =>
        intro hr
        rw [List.map_cons, List.sum_cons, ih (fun x hx => hr x (by simp [hx])), hr r (by simp), List.length_cons, Nat.succ_mul]
        omega
    rw [this rs (fun r hr => by
      obtain ⟨i, hi, rfl⟩ := List.getElem_of_mem hr
      exact (h4 i _ (List.getElem?_eq_getElem hi)).1), hN]
  refine ⟨hfl, .inr ⟨g, N, c, rfl, hb, h1, Nat.le_refl _, hm, h2, ?_⟩⟩
  rw [List.take_of_length_le (by simp; omega)]
  apply List.ext_getElem?
  intro j
  by_cases hj : j < N * m
  · have hm0 : 0 < m := by
      rcases Nat.eq_zero_or_pos m with h0 | h0
      · subst h0; simp at hj
      · exact h0
    have hi : j / m < rs.length := by rw [hN]; exact Nat.div_lt_of_lt_mul (by rw [Nat.mul_comm]; exact hj)
    obtain ⟨hr, hc⟩ := h4 (j / m) _ (List.getElem?_eq_getElem hi)
    have hjm : j % m < rs[j / m].length := by rw [hr]; exact Nat.mod_lt _ hm0
    have h5 := hc (j % m) _ (List.getElem?_eq_getElem hjm)
    rw [Nat.div_add_mod' j m] at h5
    rw [Array.getElem?_toList, h5]
    have key : ∀ (l : List (List Value)) (k : Nat), (∀ r ∈ l, r.length = m) → ∀ (hk : k / m < l.length) (hkm : k % m < (l[k / m]).length), l.flatten[k]? = some ((l[k / m])[k % m]) := by
      intro l
      induction l with
      | nil => intro k _ hk; simp at hk
      | cons r l ih =>
        intro k hlen hk hkm
        have hrm : r.length = m := hlen r (by simp)
        rw [List.flatten_cons]
        by_cases hkr : k < m
        · have e1 : k / m = 0 := Nat.div_eq_of_lt hkr
          have e2 : k % m = k := Nat.mod_eq_of_lt hkr
          rw [List.getElem?_append_left (by omega)]
          simp only [e1, e2, List.getElem_cons_zero]
          rw [List.getElem?_eq_getElem (by omega)]
        · have e1 : k / m = (k - m) / m + 1 := by
            have := Nat.add_div_right (k - m) hm0
            rw [Nat.sub_add_cancel (by omega)] at this
            exact this
          have e2 : k % m = (k - m) % m := by
            have := Nat.add_mod_right (k - m) m
            rw [Nat.sub_add_cancel (by omega)] at this
            exact this
          rw [List.getElem?_append_right (by omega), hrm]
          have hk' : (k - m) / m < l.length := by
            rw [e1] at hk
            simpa using hk
          have := ih (k - m) (fun x hx => hlen x (by simp [hx])) hk' (by rw [hlen _ (by simp [List.getElem_mem])]; exact Nat.mod_lt _ hm0)
          rw [this]
          simp only [e1, e2, List.getElem_cons_succ]
    exact (key rs j (fun r hr => by
      obtain ⟨i, hi', rfl⟩ := List.getElem_of_mem hr
      exact (h4 i _ (List.getElem?_eq_getElem hi')).1) hi hjm).symm
  · rw [List.getElem?_eq_none (by simp; omega), List.getElem?_eq_none (by omega)]

end Go.Proofs.YtgkoiojelckblaaGreatDoor

namespace Go.Proofs.YtgkoiojelckblaaGreatDoor
open Go.RowKit

theorem ListLe.mono {α : Type} {le : Nat → α → Prop} {N M : Nat} (h : N ≤ M) (hm : ∀ x, le N x → le M x) {xs : List α} (hx : ListLe le N xs) : ListLe le M xs := ⟨Nat.le_trans hx.1 h, fun x hm' => hm x (hx.2 x hm')⟩
theorem Tm.mono {N M : Nat} (h : N ≤ M) (x : Tm) (hx : x.le N) : x.le M := ⟨Nat.le_trans hx.1 h, Nat.le_trans hx.2 h⟩
theorem Ex.mono {N M : Nat} (h : N ≤ M) (x : Ex) (hx : x.le N) : x.le M := ⟨Nat.le_trans hx.1 h, Nat.le_trans hx.2 h⟩
theorem mega_le : 1048576 ≤ maxLen := by unfold maxLen; omega

/-- A rule lies in box b. -/
def RuBox (w : World) (b : Nat) (x : Ru) (a_pats : Option Addr) (c_pats : Nat) (a_exprs : Option Addr) (c_exprs : Nat) (a_acts : Option Addr) (c_acts : Nat) : Prop :=
  w.cell? ⟨b, 0, none⟩ = some (.string x.name) ∧ w.cell? ⟨b, 1, none⟩ = some (.int .i64 x.sal) ∧ w.cell? ⟨b, 2, none⟩ = some (.slice a_pats x.pats.length c_pats) ∧ w.cell? ⟨b, 3, none⟩ = some (.slice a_exprs x.exprs.length c_exprs) ∧ w.cell? ⟨b, 4, none⟩ = some (.slice a_acts x.acts.length c_acts)
theorem RuBox.below {w w' : World} {b : Nat} {x : Ru} {a_pats : Option Addr} {c_pats : Nat} {a_exprs : Option Addr} {c_exprs : Nat} {a_acts : Option Addr} {c_acts : Nat} (h : RuBox w b x a_pats c_pats a_exprs c_exprs a_acts c_acts) (hb : Below w.heap.size w w') : RuBox w' b x a_pats c_pats a_exprs c_exprs a_acts c_acts :=
  ⟨cell_below hb h.1, cell_below hb h.2.1, cell_below hb h.2.2.1, cell_below hb h.2.2.2.1, cell_below hb h.2.2.2.2⟩
theorem RuBox.made (w : World) (t : TypeId) (x : Ru) (a_pats : Option Addr) (c_pats : Nat) (a_exprs : Option Addr) (c_exprs : Nat) (a_acts : Option Addr) (c_acts : Nat) : RuBox (w.alloc (.cells #[.string x.name, .int .i64 x.sal, .slice a_pats x.pats.length c_pats, .slice a_exprs x.exprs.length c_exprs, .slice a_acts x.acts.length c_acts] t)) w.heap.size x a_pats c_pats a_exprs c_exprs a_acts c_acts := by
  refine ⟨?_, ?_, ?_, ?_, ?_⟩ <;> simp [go_sem]
end Go.Proofs.YtgkoiojelckblaaGreatDoor

namespace Go.Proofs.YtgkoiojelckblaaGreatDoor
open Go.RowKit

def icells (xs : List Int) : List Value := xs.map (Value.int .i64)
structure OLL (w : World) (base : Nat) (v : Value) (n : Nat) (xss : List (List Int)) (vs : List Value) : Prop where
  num : n = xss.length
  len : vs.length = xss.length
  own : w.ownsRow base 51 1 v n vs
  each : ∀ (i : Nat) (xs : List Int) (x : Value), xss[i]? = some xs → vs[i]? = some x → (∃ a c, x = .slice a xs.length c) ∧ w.ownsRow base 3 1 x xs.length (icells xs)
  apart : ∀ x ∈ vs, Apart v x
  pair : vs.Pairwise Apart

/-- A block of theirs. -/
def InLL (v : Value) (vs : List Value) (g : Nat) : Prop := v.ownBlock = some g ∨ ∃ x ∈ vs, x.ownBlock = some g

theorem OLL.each' {w : World} {base : Nat} {v : Value} {n : Nat} {xss : List (List Int)} {vs : List Value} (h : OLL w base v n xss vs) {x : Value} (hx : x ∈ vs) : ∃ xs ∈ xss, w.ownsRow base 3 1 x xs.length (icells xs) := by
  obtain ⟨i, hi, rfl⟩ := List.getElem_of_mem hx
  have hf : i < xss.length := by rw [← h.len]; exact hi
  exact ⟨xss[i], List.getElem_mem hf, (h.each i _ _ (List.getElem?_eq_getElem hf) (List.getElem?_eq_getElem hi)).2⟩
theorem OLL.range {w : World} {base : Nat} {v : Value} {n : Nat} {xss : List (List Int)} {vs : List Value} (h : OLL w base v n xss vs) {g : Nat} (hg : InLL v vs g) : base ≤ g ∧ g < w.heap.size := by
  rcases hg with hg | ⟨x, hx, hg⟩
  · exact h.own.lt g hg
  · obtain ⟨xs, _, ho⟩ := h.each' hx
    exact ho.lt g hg
theorem OLL.kept {w w' : World} {base : Nat} {v : Value} {n : Nat} {xss : List (List Int)} {vs : List Value} (h : OLL w base v n xss vs) (hb : ∀ g, InLL v vs g → w'.heap[g]? = w.heap[g]?) : OLL w' base v n xss vs :=
  ⟨h.num, h.len, owns_of_block h.own (fun g hg => hb g (.inl hg)), fun i f x hf hx => ⟨(h.each i f x hf hx).1, owns_of_block (h.each i f x hf hx).2 (fun g hg => hb g (.inr ⟨x, List.mem_of_getElem? hx, hg⟩))⟩, h.apart, h.pair⟩
theorem OLL.below {w w' : World} {base : Nat} {v : Value} {n : Nat} {xss : List (List Int)} {vs : List Value} (h : OLL w base v n xss vs) (hb : Below w.heap.size w w') : OLL w' base v n xss vs :=
  h.kept fun g hg => hb.block g (h.range hg).2
theorem OLL.nil (w : World) (base : Nat) : OLL w base (.slice none 0 0) 0 [] [] :=
  ⟨rfl, rfl, World.ownsRow_nil _ _ _ _, fun i f x hf => by simp at hf, fun x hx => by simp at hx, List.Pairwise.nil⟩

theorem IntsAt.owns {w : World} {base n : Nat} {a : Option Addr} {c : Nat} {xs : List Int} (h : w.ownsRow base 3 1 (.slice a n c) n (icells xs)) : IntsAt none w a xs := by
  intro i s hs
  have k0 : (icells xs)[i]? = some (.int .i64 s) := by simp [icells, hs]
  obtain ⟨g, rfl, _, h0, _⟩ := owns_cell h k0
  refine ⟨g, 0, [.int .i64 s], rfl, Qb.bare _ _ _, rfl, ?_, rfl⟩
  intro j v hj
  have hj0 : j = 0 := by
    have := (List.getElem?_eq_some_iff.1 hj).1
    simp at this
    exact this
  subst hj0
  simp at hj
  subst hj
  simpa using h0
/-- Lists of numbers that lie in memory. -/
def IssAt (w : World) (a : Option Addr) (xss : List (List Int)) : Prop :=
  ∀ (i : Nat) (xs : List Int), xss[i]? = some xs → ∃ b o a' c', a = some ⟨b, o, none⟩ ∧ w.cell? ⟨b, o + i, none⟩ = some (.slice a' xs.length c') ∧ IntsAt none w a' xs
theorem IssAt.below {w w' : World} {a : Option Addr} {xss : List (List Int)} (h : IssAt w a xss) (hb : Below w.heap.size w w') : IssAt w' a xss := by
  intro i xs hx
  obtain ⟨b, o, a', c', e, hc, hi⟩ := h i xs hx
  exact ⟨b, o, a', c', e, cell_below hb hc, hi.below hb⟩
theorem OLL.at {w : World} {base : Nat} {a : Option Addr} {n c : Nat} {xss : List (List Int)} {vs : List Value} (h : OLL w base (.slice a n c) n xss vs) : IssAt w a xss := by
  intro i xs hx
  have hi : i < xss.length := (List.getElem?_eq_some_iff.1 hx).1
  have hv : vs[i]? = some (vs[i]'(by rw [h.len]; exact hi)) := List.getElem?_eq_getElem _
  obtain ⟨⟨a', c', e⟩, ho⟩ := h.each i xs _ hx hv
  obtain ⟨g, rfl, _, h0, _⟩ := owns_cell h.own hv
  rw [e] at h0 ho
  exact ⟨g, 0, a', c', rfl, by simpa using h0, IntsAt.owns ho⟩
end Go.Proofs.YtgkoiojelckblaaGreatDoor

namespace Go.Proofs.YtgkoiojelckblaaGreatDoor
open Go.RowKit

def tmC (x : Tm) : List Value := [.int .i64 x.kind, .int .i64 x.op, .string x.var, .int .i64 x.val.kind, .int .i64 x.val.num, .string x.val.sym]
theorem tmC_one (x : Tm) : ∀ v ∈ tmC x, v.oneCell' = true := by
  intro v hv
  simp [tmC] at hv
  rcases hv with rfl | rfl | rfl | rfl | rfl | rfl <;> rfl
def exC (x : Ex) : List Value := [.int .i64 x.kind, .int .u8 x.op, .string x.var, .int .i64 x.val.kind, .int .i64 x.val.num, .string x.val.sym, .int .i64 x.a, .int .i64 x.b]
theorem exC_one (x : Ex) : ∀ v ∈ exC x, v.oneCell' = true := by
  intro v hv
  simp [exC] at hv
  rcases hv with rfl | rfl | rfl | rfl | rfl | rfl | rfl | rfl <;> rfl
end Go.Proofs.YtgkoiojelckblaaGreatDoor
