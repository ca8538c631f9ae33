/-
  OUR OWN TEXT. Val, Rd0, one behind the other.
-/
import Derived.Test.YtognpkdgphebeaaGreatOa
import Derived.Deep.Slices
import Derived.Deep.Strs
import Derived.Lib.SmallJoins
import Derived.Deep.MidRow
namespace Go.Proofs.YtognpkdgphebeaaGreat

def gVal (v : V) : Bool := (v.kind == 0 && v.sym.toList.isEmpty) || (v.kind == 1 && (v.num == 0 && gSym v.sym.data.toList))
def gSlots (vs : List V) : Bool := decide (vs.length ≤ 6) && vs.all gVal
def okF (last : Int) (f : F) : Bool := decide (last < f.tag) && (decide (f.tag ≤ 1000000) && (gSym f.cls.data.toList && gSlots f.slots))
def gFrom (last : Int) : List F → Bool
  | [] => true
  | f :: r => okF last f && gFrom f.tag r
def gFacts (fs : List F) : Bool := decide (fs.length ≤ 40) && gFrom 0 fs
/-- What makes two facts alike. -/
abbrev Lk := ByteArray × List V
def like (f : F) : Lk := (f.cls, f.slots)
end Go.Proofs.YtognpkdgphebeaaGreat

namespace Go.Proofs.YtognpkdgphebeaaGreat
open Go.RowKit Go.Deep

theorem laidOut : laidOutB Tryz.prog = true := by kernel_rfl
theorem ownK : ownKnob Tryz.prog.godebug = none := by kernel_rfl
theorem cellsI : Tryz.prog.cellsOf 3 = 1 := by kernel_rfl
theorem cellsI64 : Tryz.prog.cellsOf 2 = 1 := by kernel_rfl
theorem cellsS : Tryz.prog.cellsOf 9 = 1 := by kernel_rfl
def VOk (v : V) : Prop := (Lit.int .i64 v.kind).wf = true ∧ (Lit.int .i64 v.num).wf = true ∧ v.sym.size ≤ maxLen
theorem cellsLV : Tryz.prog.cellsOf 130 = 3 := by kernel_rfl

theorem map_range_at {α : Type} {f : Nat → α} {len i : Nat} {x : α} (h : ((List.range len).map f)[i]? = some x) : i < len ∧ f i = x := by
  have hi : i < len := by simpa using (List.getElem?_eq_some_iff.1 h).1
  simp [hi] at h
  exact ⟨hi, h⟩

theorem spot_none {w : World} {b o : Nat} {sp : Option Nat} {n : Nat} {x y : Value} (h0 : w.cell? ((⟨b, o, sp⟩ : Addr).add 0) = some x) (_h : w.cell? ((⟨b, o, sp⟩ : Addr).add n) = some y) : sp = none := by
  have h1 := World.cell?_spot h0
  simpa [Addr.add] using h1

section
variable {H : Type} {enc : TypeId × Value → H} {w : World} {base : Nat} {spare : Nat → Bool} {held : Bool}

theorem rd_val {n : Nat} {v0 v1 v2 : Value} {x : DataW H × List MemPlace} (h : DataW.trod enc Tryz.prog w base spare held n 130 [v0, v1, v2] = some x) :
    ∃ v : V, v0 = .int .i64 v.kind ∧ v1 = .int .i64 v.num ∧ v2 = .string v.sym ∧ VOk v := by
  obtain ⟨y0, y1, y2, k, _, _, h0, h1, h2⟩ := trod_struct3 Tryz.underlying130 h
  simp only [cellsI, cellsI64, cellsS, List.drop_zero, List.drop_succ_cons, List.take_succ_cons, List.take_zero] at h0 h1 h2
  obtain ⟨a, e0, _, wa⟩ := DataW.trod_int Tryz.underlying3 h0
  obtain ⟨b, e1, _, wb⟩ := DataW.trod_int Tryz.underlying2 h1
  obtain ⟨s, e2, _, hs⟩ := DataW.trod_string Tryz.underlying9 h2
  simp at e0 e1 e2
  exact ⟨(a, b, s), e0, e1, e2, wa, wb, hs⟩
end
end Go.Proofs.YtognpkdgphebeaaGreat
