/-
  OUR OWN TEXT. The program's ParseScript.
-/
import Derived.Test.YtjjjagepnnbebaaGreatDoorKbh
import Derived.Test.YtjjjagepnnbebaaGreatDoorKbg
namespace Go.Proofs.YtjjjagepnnbebaaGreatDoor
open Go.RowKit
attribute [local go_sem ↓] Go.wp_at_zero Go.wp_at_succ
def zn9{α:Type}(r:Px α):Except Flt Unit:=match r with
 | .error f=>.error f
 | .ok _=>.ok ()
theorem zdX.below{w w':World}{pb mb:Nat}{f:Bs->Option Nat}(h:zdX w pb mb f)(hb:Below w.heap.size w w'):zdX w' pb mb f:=h.block (hb.block mb h.lt)
end Go.Proofs.YtjjjagepnnbebaaGreatDoor
