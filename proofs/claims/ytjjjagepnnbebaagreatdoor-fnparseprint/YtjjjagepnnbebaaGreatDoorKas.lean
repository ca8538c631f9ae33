/-
  OUR OWN TEXT. Sc1, Sc2, Sc3a0, Sc4h, one behind the other.
-/
import Derived.Test.YtjjjagepnnbebaaGreatDoorChkm
import Derived.Test.YtjjjagepnnbebaaGreatDoorSp10m
import Derived.Test.YtjjjagepnnbebaaGreatDoorKam
import Derived.Deep.RegionHeld3
import Derived.Deep.DrawnRows
import Derived.BigQuiet
import Derived.Laws.BytesArg
namespace Go.Proofs.YtjjjagepnnbebaaGreatDoor
open Go.RowKit
attribute [local go_sem ↓] Go.wp_at_zero Go.wp_at_succ

end Go.Proofs.YtjjjagepnnbebaaGreatDoor

namespace Go.Proofs.YtjjjagepnnbebaaGreatDoor
open Go.RowKit
attribute [local go_sem ↓] Go.wp_at_zero Go.wp_at_succ

/-- Strings that lie in memory. -/
def strR (_ : World) (r : List Value) (x : ByteArray) : Prop := r = [.string x]
theorem strR_any {w w' : World} {r : List Value} {x : ByteArray} (h : strR w r x) : strR w' r x := h
abbrev StrsAt (q : Option Nat) (w : World) (a : Option Addr) (xs : List ByteArray) : Prop := RowsAt strR q 9 1 w a xs
theorem StrsAt.below {q : Option Nat} {w w' : World} {a : Option Addr} {xs : List ByteArray} (h : StrsAt q w a xs) (hb : Below w.heap.size w w') : StrsAt q w' a xs := RowsAt.below h (fun _ _ _ h => strR_any h) hb
end Go.Proofs.YtjjjagepnnbebaaGreatDoor

namespace Go.Proofs.YtjjjagepnnbebaaGreatDoor
open Go.RowKit
attribute [local go_sem ↓] Go.wp_at_zero Go.wp_at_succ

/-- The loop over the arguments, by itself. -/
theorem argsGo_cons {S : List Sp} {x : Int} {r : List Int} {nx : Nat} : argsGo S (x :: r) nx = if decide (0 ≤ x) && (decide (x < (S.length : Int)) && decide ((S[x.toNat]?.getD (0, 0)).1 = nx)) then argsGo S r (x.toNat + 1) else none := rfl

end Go.Proofs.YtjjjagepnnbebaaGreatDoor

namespace Go.Proofs.YtjjjagepnnbebaaGreatDoor
open Go.RowKit
attribute [local go_sem ↓] Go.wp_at_zero Go.wp_at_succ

end Go.Proofs.YtjjjagepnnbebaaGreatDoor
