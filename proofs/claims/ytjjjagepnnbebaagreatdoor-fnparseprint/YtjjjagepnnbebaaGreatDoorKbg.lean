/-
  OUR OWN TEXT. Mq5, Mq6, one behind the other.
-/
import Derived.Test.YtjjjagepnnbebaaGreatDoorMq4m
import Derived.Test.YtjjjagepnnbebaaGreatDoorKbb
namespace Go.Proofs.YtjjjagepnnbebaaGreatDoor
open Go.RowKit
attribute [local go_sem ↓] Go.wp_at_zero Go.wp_at_succ

end Go.Proofs.YtjjjagepnnbebaaGreatDoor

namespace Go.Proofs.YtjjjagepnnbebaaGreatDoor
open Go.RowKit

theorem andP_ok {α β : Type} {x : α} {l : List Wd} {k : α → List Wd → Px β} : andP (.ok (x, l)) k = k x l := rfl
end Go.Proofs.YtjjjagepnnbebaaGreatDoor
