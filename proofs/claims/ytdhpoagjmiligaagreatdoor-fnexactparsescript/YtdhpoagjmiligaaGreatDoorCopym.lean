/-
  OUR OWN TEXT. 'copy' of elements that are structs of some cells.
-/
import Derived.Test.YtdhpoagjmiligaaGreatDoorOwnm
import Derived.Laws.CopyOwn
namespace Go.Proofs.YtdhpoagjmiligaaGreatDoor
open Go.RowKit

end Go.Proofs.YtdhpoagjmiligaaGreatDoor
