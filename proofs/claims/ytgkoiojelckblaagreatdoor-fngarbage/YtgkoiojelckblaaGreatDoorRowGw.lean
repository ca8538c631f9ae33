/-
  OUR OWN TEXT. FnGarbage: the list of variables that are laid.
-/
import Derived.Test.YtgkoiojelckblaaGreatDoorRows
namespace Go.Proofs.YtgkoiojelckblaaGreatDoor

def laidP : List (String × DataW Unit) := [("math/bits.deBruijn32tab", Rows.laid_math_bits_deBruijn32tab), ("math/bits.deBruijn64tab", Rows.laid_math_bits_deBruijn64tab), ("internal/strconv.uint64pow10", Rows.laid_internal_strconv_uint64pow10), ("strconv.ErrRange", Rows.laid_strconv_ErrRange), ("strconv.ErrSyntax", Rows.laid_strconv_ErrSyntax), ("loop.example/s01311/impl.testWords", Rows.laid_loop_example_s01311_impl_testWords)]
def laidE : List (String × DataW Unit) := [("errors.errorType", Rows.laid_errors_errorType)]
end Go.Proofs.YtgkoiojelckblaaGreatDoor
