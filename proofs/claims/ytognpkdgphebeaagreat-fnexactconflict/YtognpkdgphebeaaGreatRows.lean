/-
  No cell of these rows narrows 'for every input' (looked for: loops, veiled, ifaces, maps, wideKeys, modest, calm, conditions, laid).
  DERIVED. THE GIVEN ROWS OF THIS SEAT. 4 by the template 'for every input the law returns true; each argument reads behind the call as it read before'; 0 by the template 'total and deterministic' (their statements: YtognpkdgphebeaaGreatTotals.lean).
  GIVEN WITH THE SEED: the statements are not yours to turn. If you find one false, say at which input.
  Laid BY PROGRAM, IN A SANDBOX (cutbox-rows.mjs): the forced cells as the released guide's own fill.sh prints them over the translation edfe748034e3031c… (all of the seat's roots in one cut). By AI agents, Wed Nov 11 2026. No macro, syntax, notation, axiom, sorry.
-/
import Derived.Test.YtognpkdgphebeaaGreatChecked
import GoSem.Claim
import GoSem.ClaimJoined
import GoSem.ClaimMapViews
import Derived.JoinedTies
import Derived.KernelRfl
namespace Go.Proofs.YtognpkdgphebeaaGreat
/- THE CELL 'sum', in the pinned program and in every row, IS THE sha256 OF THE DUMP (.gsa) THAT YtognpkdgphebeaaGreatProg.lean LOADS. Nothing in Lean hashes anything: it is a label: what it is worth is what the hold of that sum in a sandbox is worth. -/
noncomputable def Tryz.pinned : Pinned := { name := "ytognpkdgphebeaagreat", sum := "edfe748034e3031c10c8f80491145459dde36d86d459f7cd059a3de61e3eeda3", checked := Tryz.checked }
namespace Rows
def none {H : Type} : Left H := { results := [], args := [] }

/-- 'laws.FnExactHolds': WHATEVER THE INPUT: true; the input reads as it did. -/
def fnExactHoldsSpec : ChangeSpec := { name := "fnExactHolds", fn := fun _ => fun
  | [d1, d2, d3] => { results := [.lit (.bool true)], args := [d1, d2, d3] }
  | _ => none }
def fnExactHoldsRow : OpenClaim := { program := "ytognpkdgphebeaagreat", sum := "edfe748034e3031c10c8f80491145459dde36d86d459f7cd059a3de61e3eeda3", func := "loop.example/s01311/laws.FnExactHolds", spec := "fnExactHolds", inPlace := ["internal/bytealg.IndexByteString", "maps.clone"], unfollowed := true, recurses := true, plainKeys := false, apart := false }
def FnExactHoldsSaid : Prop := fnExactHoldsRow.holds Tryz.pinned (OpenSpec.ofChange fnExactHoldsSpec)

/-- ITS FALSE NEIGHBOUR: 'it returns false'. Refute it at one input. -/
def fnExactHoldsWrong : ChangeSpec := { name := "fnExactHolds", fn := fun _ => fun
  | [d1, d2, d3] => { results := [.lit (.bool false)], args := [d1, d2, d3] }
  | _ => none }
def FnExactHoldsWrongFalsely : Prop := fnExactHoldsRow.holds Tryz.pinned (OpenSpec.ofChange fnExactHoldsWrong)

/-- 'laws.FnExactBindings': WHATEVER THE INPUT: true; the input reads as it did. -/
def fnExactBindingsSpec : ChangeSpec := { name := "fnExactBindings", fn := fun _ => fun
  | [d1, d2, d3] => { results := [.lit (.bool true)], args := [d1, d2, d3] }
  | _ => none }
def fnExactBindingsRow : OpenClaim := { program := "ytognpkdgphebeaagreat", sum := "edfe748034e3031c10c8f80491145459dde36d86d459f7cd059a3de61e3eeda3", func := "loop.example/s01311/laws.FnExactBindings", spec := "fnExactBindings", inPlace := ["internal/bytealg.IndexByteString", "maps.clone"], unfollowed := true, recurses := true, plainKeys := false, apart := false }
def FnExactBindingsSaid : Prop := fnExactBindingsRow.holds Tryz.pinned (OpenSpec.ofChange fnExactBindingsSpec)

/-- ITS FALSE NEIGHBOUR: 'it returns false'. Refute it at one input. -/
def fnExactBindingsWrong : ChangeSpec := { name := "fnExactBindings", fn := fun _ => fun
  | [d1, d2, d3] => { results := [.lit (.bool false)], args := [d1, d2, d3] }
  | _ => none }
def FnExactBindingsWrongFalsely : Prop := fnExactBindingsRow.holds Tryz.pinned (OpenSpec.ofChange fnExactBindingsWrong)

/-- 'laws.FnExactTokens': WHATEVER THE INPUT: true; the input reads as it did. -/
def fnExactTokensSpec : ChangeSpec := { name := "fnExactTokens", fn := fun _ => fun
  | [d1, d2] => { results := [.lit (.bool true)], args := [d1, d2] }
  | _ => none }
def fnExactTokensRow : OpenClaim := { program := "ytognpkdgphebeaagreat", sum := "edfe748034e3031c10c8f80491145459dde36d86d459f7cd059a3de61e3eeda3", func := "loop.example/s01311/laws.FnExactTokens", spec := "fnExactTokens", inPlace := ["internal/bytealg.IndexByteString", "maps.clone"], unfollowed := true, recurses := true, plainKeys := false, apart := false }
def FnExactTokensSaid : Prop := fnExactTokensRow.holds Tryz.pinned (OpenSpec.ofChange fnExactTokensSpec)

/-- ITS FALSE NEIGHBOUR: 'it returns false'. Refute it at one input. -/
def fnExactTokensWrong : ChangeSpec := { name := "fnExactTokens", fn := fun _ => fun
  | [d1, d2] => { results := [.lit (.bool false)], args := [d1, d2] }
  | _ => none }
def FnExactTokensWrongFalsely : Prop := fnExactTokensRow.holds Tryz.pinned (OpenSpec.ofChange fnExactTokensWrong)

/-- 'laws.FnExactConflict': WHATEVER THE INPUT: true; the input reads as it did. -/
def fnExactConflictSpec : ChangeSpec := { name := "fnExactConflict", fn := fun _ => fun
  | [d1, d2] => { results := [.lit (.bool true)], args := [d1, d2] }
  | _ => none }
def fnExactConflictRow : OpenClaim := { program := "ytognpkdgphebeaagreat", sum := "edfe748034e3031c10c8f80491145459dde36d86d459f7cd059a3de61e3eeda3", func := "loop.example/s01311/laws.FnExactConflict", spec := "fnExactConflict", inPlace := ["internal/bytealg.IndexByteString", "maps.clone"], unfollowed := true, recurses := true, plainKeys := false, apart := false }
def FnExactConflictSaid : Prop := fnExactConflictRow.holds Tryz.pinned (OpenSpec.ofChange fnExactConflictSpec)

/-- ITS FALSE NEIGHBOUR: 'it returns false'. Refute it at one input. -/
def fnExactConflictWrong : ChangeSpec := { name := "fnExactConflict", fn := fun _ => fun
  | [d1, d2] => { results := [.lit (.bool false)], args := [d1, d2] }
  | _ => none }
def FnExactConflictWrongFalsely : Prop := fnExactConflictRow.holds Tryz.pinned (OpenSpec.ofChange fnExactConflictWrong)

/- THE SECOND FORM. 'bulk': how many values and letters a reading holds, each counted each time it is reached (what is shared counts as often as it is met; a slice's spare places count too). A statement '..UptoSaid' is the law's where the arguments, and the package variables that the reading takes, are together of bulk at most 1048576: NARROWER than '..Said'. Prove '..Said' where nothing that the law and all that it calls make is longer than what came in: it says more and counts as full. Else prove '..UptoSaid'. A law counts once. -/
mutual
def uptoBulk {H : Type} : DataW H → Nat
  | .lit (.string bytes) => bytes.length + 1
  | .lit _ => 1
  | .nil => 1
  | .ptr d => uptoBulk d + 1
  | .slice elems spare => uptoBulkAll elems + uptoBulkAll spare + 1
  | .agg parts => uptoBulkAll parts + 1
  | .iface _ d => uptoBulk d + 1
  | .map entries => uptoBulkEntries entries + 1
  | .held _ => 1
def uptoBulkAll {H : Type} : List (DataW H) → Nat
  | [] => 0
  | d :: r => uptoBulk d + uptoBulkAll r
def uptoBulkEntries {H : Type} : List (Lit × DataW H) → Nat
  | [] => 0
  | x :: r => uptoBulkEntry x + uptoBulkEntries r
def uptoBulkEntry {H : Type} : Lit × DataW H → Nat
  | (.string bytes, d) => bytes.length + uptoBulk d + 1
  | (_, d) => uptoBulk d + 1
 end
def uptoSmall : (H : Type) → List (DataW H) → Bool := fun _ ds => decide (uptoBulkAll ds ≤ 1048576)
def OpenSpec.upto (s : _root_.Go.ChangeSpec) : _root_.Go.OpenSpec := { _root_.Go.OpenSpec.ofChange s with cond := some uptoSmall }

/-- 'laws.FnExactHolds', WHERE WHAT IT READS IS OF BULK AT MOST 1048576: true; the input reads as it did. -/
def fnExactHoldsUptoRow : OpenClaim := { program := "ytognpkdgphebeaagreat", sum := "edfe748034e3031c10c8f80491145459dde36d86d459f7cd059a3de61e3eeda3", func := "loop.example/s01311/laws.FnExactHolds", spec := "fnExactHolds", inPlace := ["internal/bytealg.IndexByteString", "maps.clone"], unfollowed := true, recurses := true, plainKeys := false, apart := false, narrowed := true }
def FnExactHoldsUptoSaid : Prop := fnExactHoldsUptoRow.holds Tryz.pinned (OpenSpec.upto fnExactHoldsSpec)

/-- 'laws.FnExactBindings', WHERE WHAT IT READS IS OF BULK AT MOST 1048576: true; the input reads as it did. -/
def fnExactBindingsUptoRow : OpenClaim := { program := "ytognpkdgphebeaagreat", sum := "edfe748034e3031c10c8f80491145459dde36d86d459f7cd059a3de61e3eeda3", func := "loop.example/s01311/laws.FnExactBindings", spec := "fnExactBindings", inPlace := ["internal/bytealg.IndexByteString", "maps.clone"], unfollowed := true, recurses := true, plainKeys := false, apart := false, narrowed := true }
def FnExactBindingsUptoSaid : Prop := fnExactBindingsUptoRow.holds Tryz.pinned (OpenSpec.upto fnExactBindingsSpec)

/-- 'laws.FnExactTokens', WHERE WHAT IT READS IS OF BULK AT MOST 1048576: true; the input reads as it did. -/
def fnExactTokensUptoRow : OpenClaim := { program := "ytognpkdgphebeaagreat", sum := "edfe748034e3031c10c8f80491145459dde36d86d459f7cd059a3de61e3eeda3", func := "loop.example/s01311/laws.FnExactTokens", spec := "fnExactTokens", inPlace := ["internal/bytealg.IndexByteString", "maps.clone"], unfollowed := true, recurses := true, plainKeys := false, apart := false, narrowed := true }
def FnExactTokensUptoSaid : Prop := fnExactTokensUptoRow.holds Tryz.pinned (OpenSpec.upto fnExactTokensSpec)

/-- 'laws.FnExactConflict', WHERE WHAT IT READS IS OF BULK AT MOST 1048576: true; the input reads as it did. -/
def fnExactConflictUptoRow : OpenClaim := { program := "ytognpkdgphebeaagreat", sum := "edfe748034e3031c10c8f80491145459dde36d86d459f7cd059a3de61e3eeda3", func := "loop.example/s01311/laws.FnExactConflict", spec := "fnExactConflict", inPlace := ["internal/bytealg.IndexByteString", "maps.clone"], unfollowed := true, recurses := true, plainKeys := false, apart := false, narrowed := true }
def FnExactConflictUptoSaid : Prop := fnExactConflictUptoRow.holds Tryz.pinned (OpenSpec.upto fnExactConflictSpec)

end Rows
end Go.Proofs.YtognpkdgphebeaaGreat
