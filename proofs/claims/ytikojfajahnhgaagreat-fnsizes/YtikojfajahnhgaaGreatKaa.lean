import Derived.Test.YtikojfajahnhgaaGreatQz
set_option linter.all false
namespace Go.Proofs.YtikojfajahnhgaaGreat
open Go.Proofs.Tryz
def zt2{a b:Bool}(O:a=true)(c:b=true):(a&&b)=true:=by rw[O,c];rfl
set_option maxHeartbeats 6400000 in
def zb:joinedFacts Tryz.pinned.checked.prog 4 Tryz.f4 Rows.fnSizesSpec Rows.fnSizesRow=true:=by
 unfold joinedFacts
 repeat' (with_reducible apply zt2)
 all_goals (as_aux_lemma=>kernel_rfl)
end Go.Proofs.YtikojfajahnhgaaGreat
