/-
  No cell of these rows narrows 'for every input' (looked for: loops, veiled, ifaces, maps, wideKeys, modest, calm, conditions, laid).
  DERIVED. THE GIVEN ROWS OF THIS SEAT. 3 by the template 'for every input the law returns true; each argument reads behind the call as it read before'; 0 by the template 'total and deterministic' (their statements: YtmmdlgjmplddiaaGreatTotals.lean).
  GIVEN WITH THE SEED: the statements are not yours to turn. If you find one false, say at which input.
  Laid BY PROGRAM, IN A SANDBOX (cutbox-rows.mjs): the forced cells as the released guide's own fill.sh prints them over the translation 29d6f84d50dc40f8… (all of the seat's roots in one cut). By AI agents, Wed Nov 11 2026. No macro, syntax, notation, axiom, sorry.
-/
import Derived.Test.YtmmdlgjmplddiaaGreatChecked
import GoSem.Claim
import GoSem.ClaimJoined
import GoSem.ClaimMapViews
import Derived.JoinedTies
import Derived.KernelRfl
namespace Go.Proofs.YtmmdlgjmplddiaaGreat
/- THE CELL 'sum', in the pinned program and in every row, IS THE sha256 OF THE DUMP (.gsa) THAT YtmmdlgjmplddiaaGreatProg.lean LOADS. Nothing in Lean hashes anything: it is a label: what it is worth is what the hold of that sum in a sandbox is worth. -/
noncomputable def Tryz.pinned : Pinned := { name := "ytmmdlgjmplddiaagreat", sum := "29d6f84d50dc40f83c94252fff14b630bddffdef64c73125c0d63b184d039f83", checked := Tryz.checked }
namespace Rows
def none {H : Type} : Left H := { results := [], args := [] }

/-- 'laws.FnHolds': WHATEVER THE INPUT: true; the input reads as it did. -/
def fnHoldsSpec : ChangeSpec := { name := "fnHolds", fn := fun _ => fun
  | [d] => { results := [.lit (.bool true)], args := [d] }
  | _ => none }
def fnHoldsRow : OpenClaim := { program := "ytmmdlgjmplddiaagreat", sum := "29d6f84d50dc40f83c94252fff14b630bddffdef64c73125c0d63b184d039f83", func := "loop.example/s01311/laws.FnHolds", spec := "fnHolds", inPlace := ["internal/bytealg.IndexByteString", "maps.clone"], unfollowed := true, recurses := true, plainKeys := false, apart := false }
def FnHoldsSaid : Prop := fnHoldsRow.holds Tryz.pinned (OpenSpec.ofChange fnHoldsSpec)

/-- ITS FALSE NEIGHBOUR: 'it returns false'. Refute it at one input. -/
def fnHoldsWrong : ChangeSpec := { name := "fnHolds", fn := fun _ => fun
  | [d] => { results := [.lit (.bool false)], args := [d] }
  | _ => none }
def FnHoldsWrongFalsely : Prop := fnHoldsRow.holds Tryz.pinned (OpenSpec.ofChange fnHoldsWrong)

/-- 'laws.FnAlpha': WHATEVER THE INPUT: true; the input reads as it did. -/
def fnAlphaSpec : ChangeSpec := { name := "fnAlpha", fn := fun _ => fun
  | [d] => { results := [.lit (.bool true)], args := [d] }
  | _ => none }
def fnAlphaRow : OpenClaim := { program := "ytmmdlgjmplddiaagreat", sum := "29d6f84d50dc40f83c94252fff14b630bddffdef64c73125c0d63b184d039f83", func := "loop.example/s01311/laws.FnAlpha", spec := "fnAlpha", inPlace := ["internal/bytealg.IndexByteString", "maps.clone"], recurses := true, plainKeys := false, apart := false }
def FnAlphaSaid : Prop := fnAlphaRow.holds Tryz.pinned (OpenSpec.ofChange fnAlphaSpec)

/-- ITS FALSE NEIGHBOUR: 'it returns false'. Refute it at one input. -/
def fnAlphaWrong : ChangeSpec := { name := "fnAlpha", fn := fun _ => fun
  | [d] => { results := [.lit (.bool false)], args := [d] }
  | _ => none }
def FnAlphaWrongFalsely : Prop := fnAlphaRow.holds Tryz.pinned (OpenSpec.ofChange fnAlphaWrong)

/-- 'laws.FnAgenda': WHATEVER THE INPUT: true; the input reads as it did. -/
def fnAgendaSpec : ChangeSpec := { name := "fnAgenda", fn := fun _ => fun
  | [d] => { results := [.lit (.bool true)], args := [d] }
  | _ => none }
def fnAgendaRow : OpenClaim := { program := "ytmmdlgjmplddiaagreat", sum := "29d6f84d50dc40f83c94252fff14b630bddffdef64c73125c0d63b184d039f83", func := "loop.example/s01311/laws.FnAgenda", spec := "fnAgenda", inPlace := ["internal/bytealg.IndexByteString", "maps.clone"], unfollowed := true, recurses := true, plainKeys := false, apart := false }
def FnAgendaSaid : Prop := fnAgendaRow.holds Tryz.pinned (OpenSpec.ofChange fnAgendaSpec)

/-- ITS FALSE NEIGHBOUR: 'it returns false'. Refute it at one input. -/
def fnAgendaWrong : ChangeSpec := { name := "fnAgenda", fn := fun _ => fun
  | [d] => { results := [.lit (.bool false)], args := [d] }
  | _ => none }
def FnAgendaWrongFalsely : Prop := fnAgendaRow.holds Tryz.pinned (OpenSpec.ofChange fnAgendaWrong)

/- THE SECOND FORM. 'bulk': how many values and letters a reading holds, each counted each time it is reached (what is shared counts as often as it is met; a slice's spare places count too). A statement '..UptoSaid' is the law's where the arguments, and the package variables that the reading takes, are together of bulk at most 1048576: NARROWER than '..Said'. Prove '..Said' where nothing that the law and all that it calls make is longer than what came in: it says more and counts as full. Else prove '..UptoSaid'. A law counts once. -/
mutual
def uptoBulk {H : Type} : DataW H → Nat
  | .lit (.string bytes) => bytes.length + 1
  | .lit _ => 1
  | .nil => 1
  | .ptr d => uptoBulk d + 1
  | .slice elems spare => uptoBulkAll elems + uptoBulkAll spare + 1
  | .agg parts => uptoBulkAll parts + 1
  | .iface _ d => uptoBulk d + 1
  | .map entries => uptoBulkEntries entries + 1
  | .held _ => 1
def uptoBulkAll {H : Type} : List (DataW H) → Nat
  | [] => 0
  | d :: r => uptoBulk d + uptoBulkAll r
def uptoBulkEntries {H : Type} : List (Lit × DataW H) → Nat
  | [] => 0
  | x :: r => uptoBulkEntry x + uptoBulkEntries r
def uptoBulkEntry {H : Type} : Lit × DataW H → Nat
  | (.string bytes, d) => bytes.length + uptoBulk d + 1
  | (_, d) => uptoBulk d + 1
 end
def uptoSmall : (H : Type) → List (DataW H) → Bool := fun _ ds => decide (uptoBulkAll ds ≤ 1048576)
def OpenSpec.upto (s : _root_.Go.ChangeSpec) : _root_.Go.OpenSpec := { _root_.Go.OpenSpec.ofChange s with cond := some uptoSmall }

/-- 'laws.FnHolds', WHERE WHAT IT READS IS OF BULK AT MOST 1048576: true; the input reads as it did. -/
def fnHoldsUptoRow : OpenClaim := { program := "ytmmdlgjmplddiaagreat", sum := "29d6f84d50dc40f83c94252fff14b630bddffdef64c73125c0d63b184d039f83", func := "loop.example/s01311/laws.FnHolds", spec := "fnHolds", inPlace := ["internal/bytealg.IndexByteString", "maps.clone"], unfollowed := true, recurses := true, plainKeys := false, apart := false, narrowed := true }
def FnHoldsUptoSaid : Prop := fnHoldsUptoRow.holds Tryz.pinned (OpenSpec.upto fnHoldsSpec)

/-- 'laws.FnAlpha', WHERE WHAT IT READS IS OF BULK AT MOST 1048576: true; the input reads as it did. -/
def fnAlphaUptoRow : OpenClaim := { program := "ytmmdlgjmplddiaagreat", sum := "29d6f84d50dc40f83c94252fff14b630bddffdef64c73125c0d63b184d039f83", func := "loop.example/s01311/laws.FnAlpha", spec := "fnAlpha", inPlace := ["internal/bytealg.IndexByteString", "maps.clone"], recurses := true, plainKeys := false, apart := false, narrowed := true }
def FnAlphaUptoSaid : Prop := fnAlphaUptoRow.holds Tryz.pinned (OpenSpec.upto fnAlphaSpec)

/-- 'laws.FnAgenda', WHERE WHAT IT READS IS OF BULK AT MOST 1048576: true; the input reads as it did. -/
def fnAgendaUptoRow : OpenClaim := { program := "ytmmdlgjmplddiaagreat", sum := "29d6f84d50dc40f83c94252fff14b630bddffdef64c73125c0d63b184d039f83", func := "loop.example/s01311/laws.FnAgenda", spec := "fnAgenda", inPlace := ["internal/bytealg.IndexByteString", "maps.clone"], unfollowed := true, recurses := true, plainKeys := false, apart := false, narrowed := true }
def FnAgendaUptoSaid : Prop := fnAgendaUptoRow.holds Tryz.pinned (OpenSpec.upto fnAgendaSpec)

end Rows
end Go.Proofs.YtmmdlgjmplddiaaGreat
