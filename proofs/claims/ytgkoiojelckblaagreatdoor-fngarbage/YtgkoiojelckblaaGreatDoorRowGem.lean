/-
  OUR OWN TEXT. FnGarbage: the row, lifted.
-/
import Derived.Test.YtgkoiojelckblaaGreatDoorRowGdm
import Derived.Test.YtgkoiojelckblaaGreatDoorRowGi
import Derived.Test.YtgkoiojelckblaaGreatDoorCards
import Derived.Test.YtgkoiojelckblaaGreatDoorTie
import Derived.WalkKit
import Derived.ProofKit
import Derived.OpenShut
import Derived.ShutString
import Derived.ChangeOld
import Derived.Below
import Derived.OpenVars
import Derived.MakeChecks
import Derived.Deep.DeepHandedRow
import Derived.Lib.LaidTab
import Derived.LaidHandle
import Derived.Lay
namespace Go.Proofs.YtgkoiojelckblaaGreatDoor
open Go.ChangeShapes Go.WideShapes Go.ChangeAt Go.RowKit Go.Joins
open Go.ChangeMaps (open_string shut_string)

set_option maxRecDepth 100000 in
set_option maxHeartbeats 6400000 in
theorem gb_lifted (os : Os) (started : os.Started) (H : Type) (enc : TypeId × Value → H) (F : Stop.Interp) :
    ReturnsInHanded {} Tryz.checked os 3 .any ((OpenSpec.ofChange Rows.fnGarbageSpec).preRow enc Tryz.prog Tryz.f3 Rows.fnGarbageRow.domain false Rows.fnGarbageRow.laid) (((OpenSpec.ofChange Rows.fnGarbageSpec).at F).post enc Tryz.prog Tryz.f3 false true false false) := by
  refine returnsInHanded_of_row (C := Tryz.checked) (s := OpenSpec.ofChange Rows.fnGarbageSpec) ownK started (by as_aux_lemma => kernel_rfl) Tryz.func3
    (witness_row_at (enc := enc) (C := Tryz.checked) false (World.layVars Tryz.prog { World.holding Tryz.prog os ⟨#[], #[], []⟩ with heap := setVar 0 #[.iface 215 (.agg #[.pointer (some ⟨8, 109, none⟩)])] (World.holding Tryz.prog os ⟨#[], #[], []⟩).heap } laidP) #[.slice none 0 0, .slice none 0 0] (World.layVars_os _ _ _) (gb_hv os) (gb_hr os) (gb_hok os)
      (OpenSpec.preRow_of_cond 8 (gb_hx os H enc) (by as_aux_lemma => kernel_rfl) (fun k hk => by cases hk) (gb_hs os H enc) (gb_hl os))) ?_
  intro W base args ds gs before hval hW _ _ _ hL _ _
  exact gb_contract H enc W base args ds gs before hval hW hL
end Go.Proofs.YtgkoiojelckblaaGreatDoor
