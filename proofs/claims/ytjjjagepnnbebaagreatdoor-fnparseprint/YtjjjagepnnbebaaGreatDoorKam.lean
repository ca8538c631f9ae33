/-
  OUR OWN TEXT. Sp20, Bx, one behind the other.
-/
import Derived.Test.YtjjjagepnnbebaaGreatDoorSp10m
import Derived.Test.YtjjjagepnnbebaaGreatDoorTym
namespace Go.Proofs.YtjjjagepnnbebaaGreatDoor
open Go.RowKit
attribute [local go_sem ↓] Go.wp_at_zero Go.wp_at_succ

theorem bytes_beq {a b : ByteArray} : (a.toList == b.toList) = decide (a = b) := by
  rw [← beq_toListBytes]
  by_cases h : a = b
  · subst h
    rw [beq_toListBytes]
    simp
  · rw [decide_eq_false h, beq_toListBytes]
    simp only [beq_eq_false_iff_ne, ne_eq, ByteArray.toList_eq]
    intro e
    exact h (Go.WideShapes.bytes_inj e)

end Go.Proofs.YtjjjagepnnbebaaGreatDoor

namespace Go.Proofs.YtjjjagepnnbebaaGreatDoor
open Go.RowKit

theorem ListLe.mono {α : Type} {le : Nat → α → Prop} {N M : Nat} (h : N ≤ M) (hm : ∀ x, le N x → le M x) {xs : List α} (hx : ListLe le N xs) : ListLe le M xs := ⟨Nat.le_trans hx.1 h, fun x hm' => hm x (hx.2 x hm')⟩
theorem Tm.mono {N M : Nat} (h : N ≤ M) (x : Tm) (hx : x.le N) : x.le M := ⟨Nat.le_trans hx.1 h, Nat.le_trans hx.2 h⟩
theorem Ex.mono {N M : Nat} (h : N ≤ M) (x : Ex) (hx : x.le N) : x.le M := ⟨Nat.le_trans hx.1 h, Nat.le_trans hx.2 h⟩
theorem mega_le : 1048576 ≤ maxLen := by unfold maxLen; omega

/-- A rule lies in box b. -/
def RuBox (w : World) (b : Nat) (x : Ru) (a_pats : Option Addr) (c_pats : Nat) (a_exprs : Option Addr) (c_exprs : Nat) (a_acts : Option Addr) (c_acts : Nat) : Prop :=
  w.cell? ⟨b, 0, none⟩ = some (.string x.name) ∧ w.cell? ⟨b, 1, none⟩ = some (.int .i64 x.sal) ∧ w.cell? ⟨b, 2, none⟩ = some (.slice a_pats x.pats.length c_pats) ∧ w.cell? ⟨b, 3, none⟩ = some (.slice a_exprs x.exprs.length c_exprs) ∧ w.cell? ⟨b, 4, none⟩ = some (.slice a_acts x.acts.length c_acts)
theorem RuBox.below {w w' : World} {b : Nat} {x : Ru} {a_pats : Option Addr} {c_pats : Nat} {a_exprs : Option Addr} {c_exprs : Nat} {a_acts : Option Addr} {c_acts : Nat} (h : RuBox w b x a_pats c_pats a_exprs c_exprs a_acts c_acts) (hb : Below w.heap.size w w') : RuBox w' b x a_pats c_pats a_exprs c_exprs a_acts c_acts :=
  ⟨cell_below hb h.1, cell_below hb h.2.1, cell_below hb h.2.2.1, cell_below hb h.2.2.2.1, cell_below hb h.2.2.2.2⟩
theorem RuBox.made (w : World) (t : TypeId) (x : Ru) (a_pats : Option Addr) (c_pats : Nat) (a_exprs : Option Addr) (c_exprs : Nat) (a_acts : Option Addr) (c_acts : Nat) : RuBox (w.alloc (.cells #[.string x.name, .int .i64 x.sal, .slice a_pats x.pats.length c_pats, .slice a_exprs x.exprs.length c_exprs, .slice a_acts x.acts.length c_acts] t)) w.heap.size x a_pats c_pats a_exprs c_exprs a_acts c_acts := by
  refine ⟨?_, ?_, ?_, ?_, ?_⟩ <;> simp [go_sem]
end Go.Proofs.YtjjjagepnnbebaaGreatDoor
