import Derived.Test.YtikojfajahnhgaaGreatKaq
set_option linter.all false
namespace Go.Proofs.YtikojfajahnhgaaGreat
attribute [local simp] At I6 Pn mzI
attribute [local go_sem] At I6 Pn
open Go.Proofs.Tryz
def tM{last f}(h:Hj last f=true):last<f.tag:=by
 unfold Hj at h;simp only[yk,decide_eq_true_eq]at h;omega
def iP:∀{fs:List F}{last:Int},BO last fs=true->∀f∈fs,last<f.tag
 |[],_,_,f,a=>by simp at a
 |g::r,last,h,f,a=>by
  simp only[BO,yk]at h
  have b:=tM h.1
  rcases yO.1 a with rfl|a
  .exact b
  have:=iP h.2 f a
  omega
def IC(fs:List F)(c:Cn)(d:Cp):Prop:=c.neg=d.neg/\c.at_=d.at_/\c.ah=d.ah/\c.aq=d.aq/\c.facts=fs.filter (Ae d.aq)
def zna{α:Type}{p q}:∀l:List α,(l.filter p).any q=l.any (λx=>p x&&q x):=qe
end Go.Proofs.YtikojfajahnhgaaGreat
