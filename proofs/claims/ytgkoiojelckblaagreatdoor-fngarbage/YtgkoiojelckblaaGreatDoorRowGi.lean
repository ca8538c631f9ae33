/-
  OUR OWN TEXT. FnGarbage: what is read in that world.
-/
import Derived.Test.YtgkoiojelckblaaGreatDoorRowGx
import Derived.Test.YtgkoiojelckblaaGreatDoorCards
import Derived.Test.YtgkoiojelckblaaGreatDoorTie
import Derived.WalkKit
import Derived.ProofKit
import Derived.OpenShut
import Derived.ShutString
import Derived.ChangeOld
import Derived.Below
import Derived.OpenVars
import Derived.MakeChecks
import Derived.Deep.DeepHandedRow
import Derived.Lib.LaidTab
import Derived.LaidHandle
import Derived.Lay
namespace Go.Proofs.YtgkoiojelckblaaGreatDoor

set_option maxRecDepth 100000 in
set_option maxHeartbeats 6400000 in
theorem gb_hx (os : Os) (H : Type) (enc : TypeId × Value → H) : DataW.whole enc Tryz.prog ((World.layVars Tryz.prog { World.holding Tryz.prog os ⟨#[], #[], []⟩ with heap := setVar 0 #[.iface 215 (.agg #[.pointer (some ⟨8, 109, none⟩)])] (World.holding Tryz.prog os ⟨#[], #[], []⟩).heap } laidP).forCall (fun _ _ => 0) ⟨#[], #[.slice none 0 0, .slice none 0 0], []⟩).memory Tryz.f3.params.toList Rows.fnGarbageSpec.vars false #[Value.slice none 0 0, Value.slice none 0 0].toList 8 = some ([.nil, .nil], [Rows.laid_loop_example_s01311_impl_testWords], MemPlace.row ⟨1, 0, none⟩ 7) := by kernel_rfl
set_option maxRecDepth 100000 in
set_option maxHeartbeats 6400000 in
theorem gb_hl (os : Os) : laidMetH Tryz.prog Rows.fnGarbageRow.laid ((World.layVars Tryz.prog { World.holding Tryz.prog os ⟨#[], #[], []⟩ with heap := setVar 0 #[.iface 215 (.agg #[.pointer (some ⟨8, 109, none⟩)])] (World.holding Tryz.prog os ⟨#[], #[], []⟩).heap } laidP).forCall (fun _ _ => 0) ⟨#[], #[.slice none 0 0, .slice none 0 0], []⟩).memory := laidMetH_of_parts (laidMet_of_run' 8 (by as_aux_lemma => kernel_rfl) (by as_aux_lemma => kernel_rfl)) (by as_aux_lemma => kernel_rfl)
set_option maxRecDepth 100000 in
set_option maxHeartbeats 6400000 in
theorem gb_hs (os : Os) (H : Type) (enc : TypeId × Value → H) : (OpenSpec.ofChange Rows.fnGarbageSpec).bare.sizedB enc Tryz.prog Tryz.f3 false ((World.layVars Tryz.prog { World.holding Tryz.prog os ⟨#[], #[], []⟩ with heap := setVar 0 #[.iface 215 (.agg #[.pointer (some ⟨8, 109, none⟩)])] (World.holding Tryz.prog os ⟨#[], #[], []⟩).heap } laidP).forCall (fun _ _ => 0) ⟨#[], #[.slice none 0 0, .slice none 0 0], []⟩).memory #[.slice none 0 0, .slice none 0 0] 8 = true := by kernel_rfl
end Go.Proofs.YtgkoiojelckblaaGreatDoor
