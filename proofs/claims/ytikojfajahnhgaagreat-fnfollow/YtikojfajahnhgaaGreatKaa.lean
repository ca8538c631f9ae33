import Derived.Test.YtikojfajahnhgaaGreatQz
set_option linter.all false
namespace Go.Proofs.YtikojfajahnhgaaGreat
open Go.Proofs.Tryz
def zvb{a b:Bool}(O:a=true)(c:b=true):(a&&b)=true:=by rw[O,c];rfl
set_option maxHeartbeats 6400000 in
def zq8:joinedFacts Tryz.pinned.checked.prog 3 Tryz.f3 Rows.fnFollowSpec Rows.fnFollowRow=true:=by
 unfold joinedFacts
 repeat' (with_reducible apply zvb)
 all_goals (as_aux_lemma=>kernel_rfl)
end Go.Proofs.YtikojfajahnhgaaGreat
