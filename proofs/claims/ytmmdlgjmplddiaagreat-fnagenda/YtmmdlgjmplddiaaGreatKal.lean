/-
  OUR OWN TEXT. Sz1, Sz, one behind the other.
-/
import Derived.Test.YtmmdlgjmplddiaaGreatKai
import Derived.Test.YtmmdlgjmplddiaaGreatKag
namespace Go.Proofs.YtmmdlgjmplddiaaGreat
open Go.RowKit
end Go.Proofs.YtmmdlgjmplddiaaGreat
namespace Go.Proofs.YtmmdlgjmplddiaaGreat
open Go.RowKit
end Go.Proofs.YtmmdlgjmplddiaaGreat
