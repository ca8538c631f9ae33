/-
  DERIVED. GIVEN WITH THE SEED: THE CARDS: each row of YtjjjagepnnbebaaGreatDoorRows.lean that lists a variable, with what it lists TIED to the program's text (the seventh form; the later family's looks); each row that meets fmt, with fmt's text TOLD by the authors' own Lean function (tested against real Go, not proved from fmt's source: count such statements apart). THE CARD IS WHAT COUNTS. Prove the row's statement (the work); the ties are given (YtjjjagepnnbebaaGreatDoorTie.lean); close each card by the builder's one call (the guide's Derived/Test/ToyasCard.lean, 'card_holds'). Laid BY PROGRAM, IN A SANDBOX (cutbox-door.mjs). By AI agents, Wed Nov 11 2026. No macro, syntax, notation, axiom, sorry.
-/
import Derived.Test.YtjjjagepnnbebaaGreatDoorRows
import GoSem.ClaimSeven
namespace Go.Proofs.YtjjjagepnnbebaaGreatDoor
namespace Rows

/-- THE TIED CARD OF 'laws.FnParsePrint'. -/
def fnParsePrintCard : Claim7 := { stood := { row := fnParsePrintRow, standIns := [], harness := (true, "22d0124e21b1643fefb8042810e159e82a05c6f6b5b923d719d529bdf6f35031"), looks := true }, kinds := [], alts := [], laidByText := true, laidKinds := [.data, .data, .data, .handle, .sentinel, .sentinel, .data], laidTests := true, laidLooks := .later }
def FnParsePrintCardSaid : Prop := Claim7.holds Tryz.pinned (.plain (OpenSpec.ofChange fnParsePrintSpec)) fnParsePrintCard

/-- THE TIED CARD OF 'laws.FnFixed'. -/
def fnFixedCard : Claim7 := { stood := { row := fnFixedRow, standIns := [], harness := (true, "22d0124e21b1643fefb8042810e159e82a05c6f6b5b923d719d529bdf6f35031"), looks := true }, kinds := [], alts := [], laidByText := true, laidKinds := [.data, .data, .data, .handle, .sentinel, .sentinel, .data], laidTests := true, laidLooks := .later }
def FnFixedCardSaid : Prop := Claim7.holds Tryz.pinned (.plain (OpenSpec.ofChange fnFixedSpec)) fnFixedCard

/-- THE SECOND FORM's CARD OF 'laws.FnParsePrint'. -/
def fnParsePrintUptoCard : Claim7 := { stood := { row := fnParsePrintUptoRow, standIns := [], harness := (true, "22d0124e21b1643fefb8042810e159e82a05c6f6b5b923d719d529bdf6f35031"), looks := true }, kinds := [], alts := [], laidByText := true, laidKinds := [.data, .data, .data, .handle, .sentinel, .sentinel, .data], laidTests := true, laidLooks := .later }
def FnParsePrintUptoCardSaid : Prop := Claim7.holds Tryz.pinned (.plain (OpenSpec.upto fnParsePrintSpec)) fnParsePrintUptoCard

/-- THE SECOND FORM's CARD OF 'laws.FnFixed'. -/
def fnFixedUptoCard : Claim7 := { stood := { row := fnFixedUptoRow, standIns := [], harness := (true, "22d0124e21b1643fefb8042810e159e82a05c6f6b5b923d719d529bdf6f35031"), looks := true }, kinds := [], alts := [], laidByText := true, laidKinds := [.data, .data, .data, .handle, .sentinel, .sentinel, .data], laidTests := true, laidLooks := .later }
def FnFixedUptoCardSaid : Prop := Claim7.holds Tryz.pinned (.plain (OpenSpec.upto fnFixedSpec)) fnFixedUptoCard
end Rows
end Go.Proofs.YtjjjagepnnbebaaGreatDoor
