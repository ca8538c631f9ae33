/-
  OUR OWN TEXT. Bytes and values that are the same.
-/
import Derived.Test.YtpiglmkpmlogjaaSp10
namespace Go.Proofs.Ytpiglmkpmlogjaa
open Go.RowKit
attribute [local go_sem ↓] Go.wp_at_zero Go.wp_at_succ

theorem bytes_beq {a b : ByteArray} : (a.toList == b.toList) = decide (a = b) := by
  rw [← beq_toListBytes]
  by_cases h : a = b
  · subst h
    rw [beq_toListBytes]
    simp
  · rw [decide_eq_false h, beq_toListBytes]
    simp only [beq_eq_false_iff_ne, ne_eq, ByteArray.toList_eq]
    intro e
    exact h (Go.WideShapes.bytes_inj e)

theorem veq {v u : V} (h1 : (v.kind == u.kind) = true) (h2 : (v.num == u.num) = true) (h3 : (v.sym.toList == u.sym.toList) = true) : v = u := by
  rw [bytes_beq] at h3
  exact V.same (by simpa using h1) (by simpa using h2) (by simpa using h3)
theorem cons_eq {v u : V} {l l' : List V} (h : v = u) : decide (v :: l = u :: l') = decide (l = l') := by
  subst h
  by_cases e : l = l' <;> simp [e]
theorem cons_ne {v u : V} {l l' : List V} (h : v ≠ u) : decide (v :: l = u :: l') = false := by
  simp [h]
end Go.Proofs.Ytpiglmkpmlogjaa
