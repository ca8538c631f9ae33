/-
  OUR OWN TEXT. The program's side of Chapter 1: good values.
-/
import Derived.Test.YtgkoiojelckblaaGreatDoorKah
namespace Go.Proofs.YtgkoiojelckblaaGreatDoor
open Go.RowKit

end Go.Proofs.YtgkoiojelckblaaGreatDoor
