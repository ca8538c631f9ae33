/-
  OUR OWN TEXT. The model's parser: classes, limits (written by genmq4.py).
-/
import Derived.Test.YtgkoiojelckblaaGreatDoorKbd
namespace Go.Proofs.YtgkoiojelckblaaGreatDoor
open Go.RowKit
attribute [local go_sem ↓] Go.wp_at_zero Go.wp_at_succ

end Go.Proofs.YtgkoiojelckblaaGreatDoor
