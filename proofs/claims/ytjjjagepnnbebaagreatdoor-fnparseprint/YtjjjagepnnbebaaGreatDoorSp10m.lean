/-
  OUR OWN TEXT. The model's side of Chapter 1: good values.
-/
import Derived.Test.YtjjjagepnnbebaaGreatDoorSymm
import Derived.Test.YtjjjagepnnbebaaGreatDoorKae
import Derived.Deep.RegionHeld3
import Derived.Deep.DrawnRows
namespace Go.Proofs.YtjjjagepnnbebaaGreatDoor
open Go.RowKit
attribute [local go_sem ↓] Go.wp_at_zero Go.wp_at_succ

end Go.Proofs.YtjjjagepnnbebaaGreatDoor
