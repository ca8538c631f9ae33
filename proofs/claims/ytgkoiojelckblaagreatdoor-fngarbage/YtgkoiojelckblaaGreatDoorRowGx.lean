/-
  OUR OWN TEXT. FnGarbage: a world that holds the variables is one.
-/
import Derived.Test.YtgkoiojelckblaaGreatDoorRowGw
import Derived.Test.YtgkoiojelckblaaGreatDoorCards
import Derived.Test.YtgkoiojelckblaaGreatDoorTie
import Derived.WalkKit
import Derived.ProofKit
import Derived.OpenShut
import Derived.ShutString
import Derived.ChangeOld
import Derived.Below
import Derived.OpenVars
import Derived.MakeChecks
import Derived.Deep.DeepHandedRow
import Derived.Lib.LaidTab
import Derived.LaidHandle
import Derived.Lay
namespace Go.Proofs.YtgkoiojelckblaaGreatDoor

/-- A block's cells put in. -/
def setVar (g : Nat) (cs : Array Value) (h : Array Obj) : Array Obj := h.modify g fun
  | .cells _ t frozen => .cells cs t frozen
  | o => o
set_option maxRecDepth 100000 in
set_option maxHeartbeats 6400000 in
theorem gb_hok (os : Os) : Input.okWideB Tryz.prog ((World.layVars Tryz.prog { World.holding Tryz.prog os ⟨#[], #[], []⟩ with heap := setVar 0 #[.iface 215 (.agg #[.pointer (some ⟨8, 109, none⟩)])] (World.holding Tryz.prog os ⟨#[], #[], []⟩).heap } laidP).forCall (fun _ _ => 0) ⟨#[], #[.slice none 0 0, .slice none 0 0], []⟩) 3 ⟨#[], #[.slice none 0 0, .slice none 0 0], []⟩ = true := by kernel_rfl
set_option maxRecDepth 100000 in
set_option maxHeartbeats 6400000 in
theorem gb_hv (os : Os) : ((World.layVars Tryz.prog { World.holding Tryz.prog os ⟨#[], #[], []⟩ with heap := setVar 0 #[.iface 215 (.agg #[.pointer (some ⟨8, 109, none⟩)])] (World.holding Tryz.prog os ⟨#[], #[], []⟩).heap } laidP).forCall (fun _ _ => 0) ⟨#[], #[.slice none 0 0, .slice none 0 0], []⟩).variablesB Tryz.prog = true := by kernel_rfl
set_option maxRecDepth 100000 in
set_option maxHeartbeats 6400000 in
theorem gb_hr (os : Os) : (((World.layVars Tryz.prog { World.holding Tryz.prog os ⟨#[], #[], []⟩ with heap := setVar 0 #[.iface 215 (.agg #[.pointer (some ⟨8, 109, none⟩)])] (World.holding Tryz.prog os ⟨#[], #[], []⟩).heap } laidP).forCall (fun _ _ => 0) ⟨#[], #[.slice none 0 0, .slice none 0 0], []⟩).heap.toList.drop Tryz.prog.globals.size).take ((begin Tryz.prog (fun _ _ => 0) default).world.heap.size - Tryz.prog.globals.size) = (begin Tryz.prog (fun _ _ => 0) default).world.heap.toList.drop Tryz.prog.globals.size := by kernel_rfl
end Go.Proofs.YtgkoiojelckblaaGreatDoor
