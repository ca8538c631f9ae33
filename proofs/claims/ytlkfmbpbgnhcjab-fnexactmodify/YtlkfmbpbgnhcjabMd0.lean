/-
  OUR OWN TEXT. What Modify tells, as plain data.
-/
import Derived.Test.YtlkfmbpbgnhcjabSp8
namespace Go.Proofs.Ytlkfmbpbgnhcjab
open Go.RowKit

def clsAt (fs : List F) (i : Nat) : ByteArray := match fs[i]? with | some f => f.cls | none => ByteArray.empty
def mdSome (fs : List F) (nx cp : Int) (sg : Bool) (tag : Int) (cls : ByteArray) (vs : List V) (i : Nat) : C6 :=
  if 0 < twinOf sg tag cls vs fs then ⟨fs, nx, cp, sg, 2, twinOf sg tag cls vs fs⟩ else if 1000000 < nx then ⟨fs, nx, cp, sg, 4, 0⟩ else ⟨fs.eraseIdx i ++ [⟨nx, cls, vs⟩], nx + 1, cp, sg, 0, nx⟩
def mdfy (fs : List F) (nx cp : Int) (sg : Bool) (tag : Int) (vs : List V) : C6 :=
  if sValid fs nx cp sg && gSlots vs then (match fidx tag fs with | none => ⟨fs, nx, cp, sg, 5, 0⟩ | some i => mdSome fs nx cp sg tag (clsAt fs i) vs i) else C6.bad

theorem mdfy_bad {fs : List F} {nx cp : Int} {sg : Bool} {tag : Int} {vs : List V} (h : (sValid fs nx cp sg && gSlots vs) = false) : mdfy fs nx cp sg tag vs = C6.bad := by unfold mdfy; rw [h]; rfl
theorem mdfy_none {fs : List F} {nx cp : Int} {sg : Bool} {tag : Int} {vs : List V} (h1 : sValid fs nx cp sg = true) (h2 : gSlots vs = true) (hi : fidx tag fs = none) : mdfy fs nx cp sg tag vs = ⟨fs, nx, cp, sg, 5, 0⟩ := by unfold mdfy; rw [h1, h2, hi]; rfl
theorem mdfy_some {fs : List F} {nx cp : Int} {sg : Bool} {tag : Int} {vs : List V} {i : Nat} {f : F} (h1 : sValid fs nx cp sg = true) (h2 : gSlots vs = true) (hi : fidx tag fs = some i) (hf : fs[i]? = some f) : mdfy fs nx cp sg tag vs = mdSome fs nx cp sg tag f.cls vs i := by
  unfold mdfy clsAt
  rw [h1, h2, hi]
  simp only [Bool.and_self, if_true, hf]

theorem mdSome_dup {fs : List F} {nx cp : Int} {sg : Bool} {tag T : Int} {cls : ByteArray} {vs : List V} {i : Nat} (hT : twinOf sg tag cls vs fs = T) (ht : 0 < T) : mdSome fs nx cp sg tag cls vs i = ⟨fs, nx, cp, sg, 2, T⟩ := by
  unfold mdSome
  rw [hT, if_pos ht]
theorem mdSome_end {fs : List F} {nx cp : Int} {sg : Bool} {tag T : Int} {cls : ByteArray} {vs : List V} {i : Nat} (hT : twinOf sg tag cls vs fs = T) (ht : ¬ 0 < T) (hn : 1000000 < nx) : mdSome fs nx cp sg tag cls vs i = ⟨fs, nx, cp, sg, 4, 0⟩ := by
  unfold mdSome
  rw [hT, if_neg ht, if_pos hn]
theorem mdSome_ok {fs : List F} {nx cp : Int} {sg : Bool} {tag T : Int} {cls : ByteArray} {vs : List V} {i : Nat} (hT : twinOf sg tag cls vs fs = T) (ht : ¬ 0 < T) (hn : ¬ 1000000 < nx) : mdSome fs nx cp sg tag cls vs i = ⟨fs.eraseIdx i ++ [⟨nx, cls, vs⟩], nx + 1, cp, sg, 0, nx⟩ := by
  unfold mdSome
  rw [hT, if_neg ht, if_neg hn]
end Go.Proofs.Ytlkfmbpbgnhcjab
