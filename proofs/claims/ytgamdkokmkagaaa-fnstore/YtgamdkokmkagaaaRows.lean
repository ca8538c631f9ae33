/-
  No cell of these rows narrows 'for every input' (looked for: loops, veiled, ifaces, maps, wideKeys, modest, calm, conditions, laid).
  DERIVED. THE GIVEN ROWS OF THIS SEAT. 8 by the template 'for every input the law returns true; each argument reads behind the call as it read before'; 0 by the template 'total and deterministic' (their statements: YtgamdkokmkagaaaTotals.lean).
  GIVEN WITH THE SEED: the statements are not yours to turn. If you find one false, say at which input.
  Laid BY PROGRAM, IN A SANDBOX (cutbox-rows.mjs): the forced cells as the released guide's own fill.sh prints them over the translation 9bdda96c0a3bea69… (all of the seat's roots in one cut). By AI agents, Wed Nov 11 2026. No macro, syntax, notation, axiom, sorry.
-/
import Derived.Test.YtgamdkokmkagaaaChecked
import GoSem.Claim
import GoSem.ClaimJoined
import GoSem.ClaimMapViews
import Derived.JoinedTies
import Derived.KernelRfl
namespace Go.Proofs.Ytgamdkokmkagaaa
/- THE CELL 'sum', in the pinned program and in every row, IS THE sha256 OF THE DUMP (.gsa) THAT YtgamdkokmkagaaaProg.lean LOADS. Nothing in Lean hashes anything: it is a label: what it is worth is what the hold of that sum in a sandbox is worth. -/
noncomputable def Try.pinned : Pinned := { name := "ytgamdkokmkagaaa", sum := "9bdda96c0a3bea69218f0039e481f61782b5444cc79e0780286ee64c54416bff", checked := Try.checked }
namespace Rows
def none {H : Type} : Left H := { results := [], args := [] }

/-- 'laws.FnStore': WHATEVER THE INPUT: true; the input reads as it did. -/
def fnStoreSpec : ChangeSpec := { name := "fnStore", fn := fun _ => fun
  | [d1, d2] => { results := [.lit (.bool true)], args := [d1, d2] }
  | _ => none }
def fnStoreRow : OpenClaim := { program := "ytgamdkokmkagaaa", sum := "9bdda96c0a3bea69218f0039e481f61782b5444cc79e0780286ee64c54416bff", func := "loop.example/s01311/laws.FnStore", spec := "fnStore", unfollowed := true, recurses := true, plainKeys := false, apart := false }
def FnStoreSaid : Prop := fnStoreRow.holds Try.pinned (OpenSpec.ofChange fnStoreSpec)

/-- ITS FALSE NEIGHBOUR: 'it returns false'. Refute it at one input. -/
def fnStoreWrong : ChangeSpec := { name := "fnStore", fn := fun _ => fun
  | [d1, d2] => { results := [.lit (.bool false)], args := [d1, d2] }
  | _ => none }
def FnStoreWrongFalsely : Prop := fnStoreRow.holds Try.pinned (OpenSpec.ofChange fnStoreWrong)

/-- 'laws.FnExactStoreValid': WHATEVER THE INPUT: true; the input reads as it did. -/
def fnExactStoreValidSpec : ChangeSpec := { name := "fnExactStoreValid", fn := fun _ => fun
  | [d] => { results := [.lit (.bool true)], args := [d] }
  | _ => none }
def fnExactStoreValidRow : OpenClaim := { program := "ytgamdkokmkagaaa", sum := "9bdda96c0a3bea69218f0039e481f61782b5444cc79e0780286ee64c54416bff", func := "loop.example/s01311/laws.FnExactStoreValid", spec := "fnExactStoreValid", plainKeys := false, apart := false }
def FnExactStoreValidSaid : Prop := fnExactStoreValidRow.holds Try.pinned (OpenSpec.ofChange fnExactStoreValidSpec)

/-- ITS FALSE NEIGHBOUR: 'it returns false'. Refute it at one input. -/
def fnExactStoreValidWrong : ChangeSpec := { name := "fnExactStoreValid", fn := fun _ => fun
  | [d] => { results := [.lit (.bool false)], args := [d] }
  | _ => none }
def FnExactStoreValidWrongFalsely : Prop := fnExactStoreValidRow.holds Try.pinned (OpenSpec.ofChange fnExactStoreValidWrong)

/-- 'laws.FnExactAssert': WHATEVER THE INPUT: true; the input reads as it did. -/
def fnExactAssertSpec : ChangeSpec := { name := "fnExactAssert", fn := fun _ => fun
  | [d1, d2, d3] => { results := [.lit (.bool true)], args := [d1, d2, d3] }
  | _ => none }
def fnExactAssertRow : OpenClaim := { program := "ytgamdkokmkagaaa", sum := "9bdda96c0a3bea69218f0039e481f61782b5444cc79e0780286ee64c54416bff", func := "loop.example/s01311/laws.FnExactAssert", spec := "fnExactAssert", unfollowed := true, recurses := true, plainKeys := false, apart := false }
def FnExactAssertSaid : Prop := fnExactAssertRow.holds Try.pinned (OpenSpec.ofChange fnExactAssertSpec)

/-- ITS FALSE NEIGHBOUR: 'it returns false'. Refute it at one input. -/
def fnExactAssertWrong : ChangeSpec := { name := "fnExactAssert", fn := fun _ => fun
  | [d1, d2, d3] => { results := [.lit (.bool false)], args := [d1, d2, d3] }
  | _ => none }
def FnExactAssertWrongFalsely : Prop := fnExactAssertRow.holds Try.pinned (OpenSpec.ofChange fnExactAssertWrong)

/-- 'laws.FnExactRetract': WHATEVER THE INPUT: true; the input reads as it did. -/
def fnExactRetractSpec : ChangeSpec := { name := "fnExactRetract", fn := fun _ => fun
  | [d1, d2] => { results := [.lit (.bool true)], args := [d1, d2] }
  | _ => none }
def fnExactRetractRow : OpenClaim := { program := "ytgamdkokmkagaaa", sum := "9bdda96c0a3bea69218f0039e481f61782b5444cc79e0780286ee64c54416bff", func := "loop.example/s01311/laws.FnExactRetract", spec := "fnExactRetract", unfollowed := true, recurses := true, plainKeys := false, apart := false }
def FnExactRetractSaid : Prop := fnExactRetractRow.holds Try.pinned (OpenSpec.ofChange fnExactRetractSpec)

/-- ITS FALSE NEIGHBOUR: 'it returns false'. Refute it at one input. -/
def fnExactRetractWrong : ChangeSpec := { name := "fnExactRetract", fn := fun _ => fun
  | [d1, d2] => { results := [.lit (.bool false)], args := [d1, d2] }
  | _ => none }
def FnExactRetractWrongFalsely : Prop := fnExactRetractRow.holds Try.pinned (OpenSpec.ofChange fnExactRetractWrong)

/-- 'laws.FnExactModify': WHATEVER THE INPUT: true; the input reads as it did. -/
def fnExactModifySpec : ChangeSpec := { name := "fnExactModify", fn := fun _ => fun
  | [d1, d2, d3] => { results := [.lit (.bool true)], args := [d1, d2, d3] }
  | _ => none }
def fnExactModifyRow : OpenClaim := { program := "ytgamdkokmkagaaa", sum := "9bdda96c0a3bea69218f0039e481f61782b5444cc79e0780286ee64c54416bff", func := "loop.example/s01311/laws.FnExactModify", spec := "fnExactModify", unfollowed := true, recurses := true, plainKeys := false, apart := false }
def FnExactModifySaid : Prop := fnExactModifyRow.holds Try.pinned (OpenSpec.ofChange fnExactModifySpec)

/-- ITS FALSE NEIGHBOUR: 'it returns false'. Refute it at one input. -/
def fnExactModifyWrong : ChangeSpec := { name := "fnExactModify", fn := fun _ => fun
  | [d1, d2, d3] => { results := [.lit (.bool false)], args := [d1, d2, d3] }
  | _ => none }
def FnExactModifyWrongFalsely : Prop := fnExactModifyRow.holds Try.pinned (OpenSpec.ofChange fnExactModifyWrong)

/-- 'laws.FnExactCheckRules': WHATEVER THE INPUT: true; the input reads as it did. -/
def fnExactCheckRulesSpec : ChangeSpec := { name := "fnExactCheckRules", fn := fun _ => fun
  | [d] => { results := [.lit (.bool true)], args := [d] }
  | _ => none }
def fnExactCheckRulesRow : OpenClaim := { program := "ytgamdkokmkagaaa", sum := "9bdda96c0a3bea69218f0039e481f61782b5444cc79e0780286ee64c54416bff", func := "loop.example/s01311/laws.FnExactCheckRules", spec := "fnExactCheckRules", inPlace := ["internal/bytealg.IndexByteString", "maps.clone"], recurses := true, plainKeys := false, apart := false }
def FnExactCheckRulesSaid : Prop := fnExactCheckRulesRow.holds Try.pinned (OpenSpec.ofChange fnExactCheckRulesSpec)

/-- ITS FALSE NEIGHBOUR: 'it returns false'. Refute it at one input. -/
def fnExactCheckRulesWrong : ChangeSpec := { name := "fnExactCheckRules", fn := fun _ => fun
  | [d] => { results := [.lit (.bool false)], args := [d] }
  | _ => none }
def FnExactCheckRulesWrongFalsely : Prop := fnExactCheckRulesRow.holds Try.pinned (OpenSpec.ofChange fnExactCheckRulesWrong)

/-- 'laws.FnExactAlphaOf': WHATEVER THE INPUT: true; the input reads as it did. -/
def fnExactAlphaOfSpec : ChangeSpec := { name := "fnExactAlphaOf", fn := fun _ => fun
  | [d] => { results := [.lit (.bool true)], args := [d] }
  | _ => none }
def fnExactAlphaOfRow : OpenClaim := { program := "ytgamdkokmkagaaa", sum := "9bdda96c0a3bea69218f0039e481f61782b5444cc79e0780286ee64c54416bff", func := "loop.example/s01311/laws.FnExactAlphaOf", spec := "fnExactAlphaOf", plainKeys := false, apart := false }
def FnExactAlphaOfSaid : Prop := fnExactAlphaOfRow.holds Try.pinned (OpenSpec.ofChange fnExactAlphaOfSpec)

/-- ITS FALSE NEIGHBOUR: 'it returns false'. Refute it at one input. -/
def fnExactAlphaOfWrong : ChangeSpec := { name := "fnExactAlphaOf", fn := fun _ => fun
  | [d] => { results := [.lit (.bool false)], args := [d] }
  | _ => none }
def FnExactAlphaOfWrongFalsely : Prop := fnExactAlphaOfRow.holds Try.pinned (OpenSpec.ofChange fnExactAlphaOfWrong)

/-- 'laws.FnExactAlphaMems': WHATEVER THE INPUT: true; the input reads as it did. -/
def fnExactAlphaMemsSpec : ChangeSpec := { name := "fnExactAlphaMems", fn := fun _ => fun
  | [d1, d2] => { results := [.lit (.bool true)], args := [d1, d2] }
  | _ => none }
def fnExactAlphaMemsRow : OpenClaim := { program := "ytgamdkokmkagaaa", sum := "9bdda96c0a3bea69218f0039e481f61782b5444cc79e0780286ee64c54416bff", func := "loop.example/s01311/laws.FnExactAlphaMems", spec := "fnExactAlphaMems", plainKeys := false, apart := false }
def FnExactAlphaMemsSaid : Prop := fnExactAlphaMemsRow.holds Try.pinned (OpenSpec.ofChange fnExactAlphaMemsSpec)

/-- ITS FALSE NEIGHBOUR: 'it returns false'. Refute it at one input. -/
def fnExactAlphaMemsWrong : ChangeSpec := { name := "fnExactAlphaMems", fn := fun _ => fun
  | [d1, d2] => { results := [.lit (.bool false)], args := [d1, d2] }
  | _ => none }
def FnExactAlphaMemsWrongFalsely : Prop := fnExactAlphaMemsRow.holds Try.pinned (OpenSpec.ofChange fnExactAlphaMemsWrong)

/- THE SECOND FORM. 'bulk': how many values and letters a reading holds, each counted each time it is reached (what is shared counts as often as it is met; a slice's spare places count too). A statement '..UptoSaid' is the law's where the arguments, and the package variables that the reading takes, are together of bulk at most 1048576: NARROWER than '..Said'. Prove '..Said' where nothing that the law and all that it calls make is longer than what came in: it says more and counts as full. Else prove '..UptoSaid'. A law counts once. -/
mutual
def uptoBulk {H : Type} : DataW H → Nat
  | .lit (.string bytes) => bytes.length + 1
  | .lit _ => 1
  | .nil => 1
  | .ptr d => uptoBulk d + 1
  | .slice elems spare => uptoBulkAll elems + uptoBulkAll spare + 1
  | .agg parts => uptoBulkAll parts + 1
  | .iface _ d => uptoBulk d + 1
  | .map entries => uptoBulkEntries entries + 1
  | .held _ => 1
def uptoBulkAll {H : Type} : List (DataW H) → Nat
  | [] => 0
  | d :: r => uptoBulk d + uptoBulkAll r
def uptoBulkEntries {H : Type} : List (Lit × DataW H) → Nat
  | [] => 0
  | x :: r => uptoBulkEntry x + uptoBulkEntries r
def uptoBulkEntry {H : Type} : Lit × DataW H → Nat
  | (.string bytes, d) => bytes.length + uptoBulk d + 1
  | (_, d) => uptoBulk d + 1
 end
def uptoSmall : (H : Type) → List (DataW H) → Bool := fun _ ds => decide (uptoBulkAll ds ≤ 1048576)
def OpenSpec.upto (s : _root_.Go.ChangeSpec) : _root_.Go.OpenSpec := { _root_.Go.OpenSpec.ofChange s with cond := some uptoSmall }

/-- 'laws.FnStore', WHERE WHAT IT READS IS OF BULK AT MOST 1048576: true; the input reads as it did. -/
def fnStoreUptoRow : OpenClaim := { program := "ytgamdkokmkagaaa", sum := "9bdda96c0a3bea69218f0039e481f61782b5444cc79e0780286ee64c54416bff", func := "loop.example/s01311/laws.FnStore", spec := "fnStore", unfollowed := true, recurses := true, plainKeys := false, apart := false, narrowed := true }
def FnStoreUptoSaid : Prop := fnStoreUptoRow.holds Try.pinned (OpenSpec.upto fnStoreSpec)

/-- 'laws.FnExactStoreValid', WHERE WHAT IT READS IS OF BULK AT MOST 1048576: true; the input reads as it did. -/
def fnExactStoreValidUptoRow : OpenClaim := { program := "ytgamdkokmkagaaa", sum := "9bdda96c0a3bea69218f0039e481f61782b5444cc79e0780286ee64c54416bff", func := "loop.example/s01311/laws.FnExactStoreValid", spec := "fnExactStoreValid", plainKeys := false, apart := false, narrowed := true }
def FnExactStoreValidUptoSaid : Prop := fnExactStoreValidUptoRow.holds Try.pinned (OpenSpec.upto fnExactStoreValidSpec)

/-- 'laws.FnExactAssert', WHERE WHAT IT READS IS OF BULK AT MOST 1048576: true; the input reads as it did. -/
def fnExactAssertUptoRow : OpenClaim := { program := "ytgamdkokmkagaaa", sum := "9bdda96c0a3bea69218f0039e481f61782b5444cc79e0780286ee64c54416bff", func := "loop.example/s01311/laws.FnExactAssert", spec := "fnExactAssert", unfollowed := true, recurses := true, plainKeys := false, apart := false, narrowed := true }
def FnExactAssertUptoSaid : Prop := fnExactAssertUptoRow.holds Try.pinned (OpenSpec.upto fnExactAssertSpec)

/-- 'laws.FnExactRetract', WHERE WHAT IT READS IS OF BULK AT MOST 1048576: true; the input reads as it did. -/
def fnExactRetractUptoRow : OpenClaim := { program := "ytgamdkokmkagaaa", sum := "9bdda96c0a3bea69218f0039e481f61782b5444cc79e0780286ee64c54416bff", func := "loop.example/s01311/laws.FnExactRetract", spec := "fnExactRetract", unfollowed := true, recurses := true, plainKeys := false, apart := false, narrowed := true }
def FnExactRetractUptoSaid : Prop := fnExactRetractUptoRow.holds Try.pinned (OpenSpec.upto fnExactRetractSpec)

/-- 'laws.FnExactModify', WHERE WHAT IT READS IS OF BULK AT MOST 1048576: true; the input reads as it did. -/
def fnExactModifyUptoRow : OpenClaim := { program := "ytgamdkokmkagaaa", sum := "9bdda96c0a3bea69218f0039e481f61782b5444cc79e0780286ee64c54416bff", func := "loop.example/s01311/laws.FnExactModify", spec := "fnExactModify", unfollowed := true, recurses := true, plainKeys := false, apart := false, narrowed := true }
def FnExactModifyUptoSaid : Prop := fnExactModifyUptoRow.holds Try.pinned (OpenSpec.upto fnExactModifySpec)

/-- 'laws.FnExactCheckRules', WHERE WHAT IT READS IS OF BULK AT MOST 1048576: true; the input reads as it did. -/
def fnExactCheckRulesUptoRow : OpenClaim := { program := "ytgamdkokmkagaaa", sum := "9bdda96c0a3bea69218f0039e481f61782b5444cc79e0780286ee64c54416bff", func := "loop.example/s01311/laws.FnExactCheckRules", spec := "fnExactCheckRules", inPlace := ["internal/bytealg.IndexByteString", "maps.clone"], recurses := true, plainKeys := false, apart := false, narrowed := true }
def FnExactCheckRulesUptoSaid : Prop := fnExactCheckRulesUptoRow.holds Try.pinned (OpenSpec.upto fnExactCheckRulesSpec)

/-- 'laws.FnExactAlphaOf', WHERE WHAT IT READS IS OF BULK AT MOST 1048576: true; the input reads as it did. -/
def fnExactAlphaOfUptoRow : OpenClaim := { program := "ytgamdkokmkagaaa", sum := "9bdda96c0a3bea69218f0039e481f61782b5444cc79e0780286ee64c54416bff", func := "loop.example/s01311/laws.FnExactAlphaOf", spec := "fnExactAlphaOf", plainKeys := false, apart := false, narrowed := true }
def FnExactAlphaOfUptoSaid : Prop := fnExactAlphaOfUptoRow.holds Try.pinned (OpenSpec.upto fnExactAlphaOfSpec)

/-- 'laws.FnExactAlphaMems', WHERE WHAT IT READS IS OF BULK AT MOST 1048576: true; the input reads as it did. -/
def fnExactAlphaMemsUptoRow : OpenClaim := { program := "ytgamdkokmkagaaa", sum := "9bdda96c0a3bea69218f0039e481f61782b5444cc79e0780286ee64c54416bff", func := "loop.example/s01311/laws.FnExactAlphaMems", spec := "fnExactAlphaMems", plainKeys := false, apart := false, narrowed := true }
def FnExactAlphaMemsUptoSaid : Prop := fnExactAlphaMemsUptoRow.holds Try.pinned (OpenSpec.upto fnExactAlphaMemsSpec)

end Rows
end Go.Proofs.Ytgamdkokmkagaaa
