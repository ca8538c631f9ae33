/-
  OUR OWN TEXT. FnGarbage: what is computed off the program.
-/
import Derived.Test.YtgkoiojelckblaaGreatDoorRows
import Derived.Test.YtgkoiojelckblaaGreatDoorCards
import Derived.Test.YtgkoiojelckblaaGreatDoorTie
import Derived.WalkKit
import Derived.ProofKit
import Derived.OpenShut
import Derived.ShutString
import Derived.ChangeOld
import Derived.Below
import Derived.OpenVars
import Derived.MakeChecks
import Derived.Deep.DeepHandedRow
import Derived.Lib.LaidTab
import Derived.LaidHandle
import Derived.Lay
namespace Go.Proofs.YtgkoiojelckblaaGreatDoor

theorem and_mkG {a b : Bool} (ha : a = true) (hb : b = true) : (a && b) = true := by rw [ha, hb]; rfl
set_option maxHeartbeats 6400000 in
/-- The facts that are computed off the program. -/
theorem gb_closed : joinedFacts Tryz.pinned.checked.prog 3 Tryz.f3 (OpenSpec.ofChange Rows.fnGarbageSpec).bare Rows.fnGarbageRow = true := by
  unfold joinedFacts
  repeat' (with_reducible apply and_mkG)
  all_goals (as_aux_lemma => kernel_rfl)
end Go.Proofs.YtgkoiojelckblaaGreatDoor
