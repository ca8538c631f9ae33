/-
  OUR OWN TEXT. Two small facts of the program that every row asks.
-/
import Derived.Test.YtofmgaebgojonaaRd
namespace Go.Proofs.Ytofmgaebgojonaa
theorem ownK : ownKnob Try.prog.godebug = none := by kernel_rfl
theorem cellsSt0 : Try.prog.cellsOf 24 = 4 := by kernel_rfl
end Go.Proofs.Ytofmgaebgojonaa
