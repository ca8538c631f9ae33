import Derived.Test.YtikojfajahnhgaaGreatKal
set_option linter.all false
namespace Go.Proofs.YtikojfajahnhgaaGreat
attribute [local simp] At I6 Pn mzI
attribute [local go_sem] At I6 Pn
open Go.RowKit Go.Proofs.Tryz
attribute [local go_sem ↓] wp_at_zero wp_at_succ
def EZ{a b:ByteArray}:(a.toList==b.toList)=decide (a=b):=by
 rw[<-beq_toListBytes];by_cases h:a=b
 .subst h;rw[beq_toListBytes];simp
 rw[decide_eq_false h,beq_toListBytes];simp only[beq_eq_false_iff_ne,ne_eq,WP];intro e;exact h (K7 e)
def veq{v u:V}(h1:(v.u==u.u)=true)(h2:(v.num==u.num)=true)(h3:(v.J.toList==u.J.toList)=true):v=u:=by
 rw[EZ]at h3;exact V.same qw qu Mt
def tY{v u:V}{l l'}(h:v=u):decide (v::l=u::l')=decide (l=l'):=by
 subst h;by_cases e:l=l'<;>simp[e]
def uE{v u:V}{l l'}(h:v≠u):decide (v::l=u::l')=false:=by
 simp[h]
end Go.Proofs.YtikojfajahnhgaaGreat
