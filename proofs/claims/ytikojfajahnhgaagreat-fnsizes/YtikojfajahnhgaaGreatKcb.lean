import Derived.Test.YtikojfajahnhgaaGreatKca
import Derived.Test.YtikojfajahnhgaaGreatKaa
set_option linter.all false
namespace Go.Proofs.YtikojfajahnhgaaGreat
attribute [local simp] At I6 Pn mzI
attribute [local go_sem] At I6 Pn
open Go.ChangeShapes Go.WideShapes Go.ChangeAt Go.RowKit Go.Joins Go.Proofs.Tryz
theorem fnSizes_holds:Rows.FnSizesSaid:=
 OpenClaim.holds_of_wide 4 Tryz.f4 rfl rfl rfl rfl rfl rfl rfl ⟨rfl,rfl,rfl,rfl,rfl⟩ rfl rfl rfl rfl rfl (by as_aux_lemma=>kernel_rfl) func4 zb
  (of_decide_eq_true (by as_aux_lemma=>kernel_rfl)) (by unfold Func.isWrapper;first|(rw[if_pos Mr];kernel_rfl)|(rw[if_neg Mr];exact⟨rfl,rfl⟩))
  (λa O H enc _=>x_ a O H enc)
#print axioms fnSizes_holds
end Go.Proofs.YtikojfajahnhgaaGreat
