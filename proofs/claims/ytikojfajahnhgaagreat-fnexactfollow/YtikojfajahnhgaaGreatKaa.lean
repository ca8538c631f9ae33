import Derived.Test.YtikojfajahnhgaaGreatQz
set_option linter.all false
namespace Go.Proofs.YtikojfajahnhgaaGreat
open Go.Proofs.Tryz
def zu9{a b:Bool}(O:a=true)(c:b=true):(a&&b)=true:=by rw[O,c];rfl
set_option maxHeartbeats 6400000 in
def xn:joinedFacts Tryz.pinned.checked.prog 5 Tryz.f5 Rows.fnExactFollowSpec Rows.fnExactFollowRow=true:=by
 unfold joinedFacts
 repeat' (with_reducible apply zu9)
 all_goals (as_aux_lemma=>kernel_rfl)
end Go.Proofs.YtikojfajahnhgaaGreat
