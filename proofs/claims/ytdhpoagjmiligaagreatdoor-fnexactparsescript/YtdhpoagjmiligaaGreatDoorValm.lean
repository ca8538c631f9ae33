/-
  OUR OWN TEXT. Good values, slots, facts; valid stores: the plain mathematics.
-/
import Derived.Test.YtdhpoagjmiligaaGreatDoorMemm
namespace Go.Proofs.YtdhpoagjmiligaaGreatDoor

def gVal (v : V) : Bool := (v.kind == 0 && v.sym.toList.isEmpty) || (v.kind == 1 && (v.num == 0 && gSym v.sym.data.toList))
end Go.Proofs.YtdhpoagjmiligaaGreatDoor
