/-
  OUR OWN TEXT. THE STATEMENT FnExactEvalExprSaid: for all exprs and binds that can be read, and every number, the law returns true, and they read behind the call as before it.
-/
import Derived.Test.YtpiglmkpmlogjaaRowEv
import Derived.Test.YtpiglmkpmlogjaaEw7
namespace Go.Proofs.Ytpiglmkpmlogjaa

theorem fnExactEvalExpr_holds : Rows.FnExactEvalExprSaid :=
  fnExactEvalExpr_of (fun es a c a2 cb bs i _ _ w hv hbd hl hl2 ho hfe hfb => sEval_any es a c a2 cb bs i w hv hbd hl hl2 ho hfe hfb)
#print axioms fnExactEvalExpr_holds
end Go.Proofs.Ytpiglmkpmlogjaa
