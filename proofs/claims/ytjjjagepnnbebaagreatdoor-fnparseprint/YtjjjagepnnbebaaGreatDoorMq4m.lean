/-
  OUR OWN TEXT. The model's parser: classes, limits (written by genmq4.py).
-/
import Derived.Test.YtjjjagepnnbebaaGreatDoorKbb
namespace Go.Proofs.YtjjjagepnnbebaaGreatDoor
open Go.RowKit
attribute [local go_sem ↓] Go.wp_at_zero Go.wp_at_succ

end Go.Proofs.YtjjjagepnnbebaaGreatDoor
