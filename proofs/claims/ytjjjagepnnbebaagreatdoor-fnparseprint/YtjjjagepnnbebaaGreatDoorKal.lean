/-
  OUR OWN TEXT. Tc, EqL, one behind the other.
-/
import Derived.Test.YtjjjagepnnbebaaGreatDoorTym
namespace Go.Proofs.YtjjjagepnnbebaaGreatDoor
open Go.RowKit

def tmC (x : Tm) : List Value := [.int .i64 x.kind, .int .i64 x.op, .string x.var, .int .i64 x.val.kind, .int .i64 x.val.num, .string x.val.sym]
theorem tmC_one (x : Tm) : ∀ v ∈ tmC x, v.oneCell' = true := by
  intro v hv
  simp [tmC] at hv
  rcases hv with rfl | rfl | rfl | rfl | rfl | rfl <;> rfl
def exC (x : Ex) : List Value := [.int .i64 x.kind, .int .u8 x.op, .string x.var, .int .i64 x.val.kind, .int .i64 x.val.num, .string x.val.sym, .int .i64 x.a, .int .i64 x.b]
theorem exC_one (x : Ex) : ∀ v ∈ exC x, v.oneCell' = true := by
  intro v hv
  simp [exC] at hv
  rcases hv with rfl | rfl | rfl | rfl | rfl | rfl | rfl | rfl <;> rfl
end Go.Proofs.YtjjjagepnnbebaaGreatDoor

namespace Go.Proofs.YtjjjagepnnbebaaGreatDoor

def Tm.lq (_ : Nat) (_ : Tm) : Prop := True
def Pt.lq (N : Nat) (x : Pt) : Prop := True ∧ ListLe Tm.lq N x.terms
def Ex.lq (_ : Nat) (_ : Ex) : Prop := True
def Ac.lq (N : Nat) (x : Ac) : Prop := True ∧ x.args.length ≤ N
def Ru.lq (N : Nat) (x : Ru) : Prop := True ∧ ListLe Pt.lq N x.pats ∧ ListLe Ex.lq N x.exprs ∧ ListLe Ac.lq N x.acts
end Go.Proofs.YtjjjagepnnbebaaGreatDoor
