/-
  DERIVED. GIVEN WITH THE SEED: THE CARDS: each row of YtgkoiojelckblaaGreatDoorRows.lean that lists a variable, with what it lists TIED to the program's text (the seventh form; the later family's looks); each row that meets fmt, with fmt's text TOLD by the authors' own Lean function (tested against real Go, not proved from fmt's source: count such statements apart). THE CARD IS WHAT COUNTS. Prove the row's statement (the work); the ties are given (YtgkoiojelckblaaGreatDoorTie.lean); close each card by the builder's one call (the guide's Derived/Test/ToyasCard.lean, 'card_holds'). Laid BY PROGRAM, IN A SANDBOX (cutbox-door.mjs). By AI agents, Wed Nov 11 2026. No macro, syntax, notation, axiom, sorry.
-/
import Derived.Test.YtgkoiojelckblaaGreatDoorRows
import GoSem.ClaimSeven
namespace Go.Proofs.YtgkoiojelckblaaGreatDoor
namespace Rows

/-- THE TIED CARD OF 'laws.FnGarbage'. -/
def fnGarbageCard : Claim7 := { stood := { row := fnGarbageRow, standIns := [], harness := (true, "8c008ec96025a8817e609c2709ec56560eb6243bf1124eae56ca630b9bb218cd"), looks := true }, kinds := [], alts := [], goes := true, laidByText := true, laidKinds := [.data, .data, .data, .handle, .sentinel, .sentinel, .data], laidTests := true, laidLooks := .later }
def FnGarbageCardSaid : Prop := Claim7.holds Tryz.pinned (.plain (OpenSpec.ofChange fnGarbageSpec)) fnGarbageCard

/-- THE SECOND FORM's CARD OF 'laws.FnGarbage'. -/
def fnGarbageUptoCard : Claim7 := { stood := { row := fnGarbageUptoRow, standIns := [], harness := (true, "8c008ec96025a8817e609c2709ec56560eb6243bf1124eae56ca630b9bb218cd"), looks := true }, kinds := [], alts := [], goes := true, laidByText := true, laidKinds := [.data, .data, .data, .handle, .sentinel, .sentinel, .data], laidTests := true, laidLooks := .later }
def FnGarbageUptoCardSaid : Prop := Claim7.holds Tryz.pinned (.plain (OpenSpec.upto fnGarbageSpec)) fnGarbageUptoCard
end Rows
end Go.Proofs.YtgkoiojelckblaaGreatDoor
