/-
  OUR OWN TEXT. The cells of terms and of exprs.
-/
import Derived.Test.YtdhpoagjmiligaaGreatDoorKad
namespace Go.Proofs.YtdhpoagjmiligaaGreatDoor
open Go.RowKit

def tmC (x : Tm) : List Value := [.int .i64 x.kind, .int .i64 x.op, .string x.var, .int .i64 x.val.kind, .int .i64 x.val.num, .string x.val.sym]
theorem tmC_one (x : Tm) : ∀ v ∈ tmC x, v.oneCell' = true := by
  intro v hv
  simp [tmC] at hv
  rcases hv with rfl | rfl | rfl | rfl | rfl | rfl <;> rfl
def exC (x : Ex) : List Value := [.int .i64 x.kind, .int .u8 x.op, .string x.var, .int .i64 x.val.kind, .int .i64 x.val.num, .string x.val.sym, .int .i64 x.a, .int .i64 x.b]
theorem exC_one (x : Ex) : ∀ v ∈ exC x, v.oneCell' = true := by
  intro v hv
  simp [exC] at hv
  rcases hv with rfl | rfl | rfl | rfl | rfl | rfl | rfl | rfl <;> rfl
end Go.Proofs.YtdhpoagjmiligaaGreatDoor
