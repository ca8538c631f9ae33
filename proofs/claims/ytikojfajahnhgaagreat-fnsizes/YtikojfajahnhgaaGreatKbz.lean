import Derived.Test.YtikojfajahnhgaaGreatKbw
set_option linter.all false
namespace Go.Proofs.YtikojfajahnhgaaGreat
attribute [local simp] At I6 Pn mzI
attribute [local go_sem] At I6 Pn
open Go.RowKit Go.Deep Go.Proofs.Tryz
def xB:prog.cellsOf 5=1:=qg
def sA{a}(h:(Lit.int .u8 a).wf=true):0<=a/\a<256:=by
 have O:IntKind.u8.min=0:=rfl;have b:IntKind.u8.max=255:=rfl;simp[Lit.wf]at h;omega
section
variable {H : Type} {enc : TypeId × Value -> H} {w : World} {base : Nat} {spare : Nat -> Bool} {held : Bool}
def jh{n cs x}(h:DataW.trod enc prog w base spare held n 22 cs=some x):∃a k c,cs=[.slice a k c]/\JD w a k:=by
 obtain⟨a,c,vs,e,m,_,_,hu⟩:=tO (R:=λ_ r(u:Nat)=>r=[.int .u8 (u:Int)]) (Ok:=λu=>u<256) (0:Nat) 22 5 5 1 underlying22 xB qd (λn cs x h d=>by
  match cs,d with
  |[v0],_=>
   obtain⟨k,g,_,O⟩:=DataW.trod_int underlying5 h;obtain⟨p,q⟩:=sA O;refine⟨k.toNat,?_,qd⟩;rw[g,Int.toNat_of_nonneg p]) h
 refine⟨a,vs.length,c,e,λj hj=>?_⟩;obtain⟨b,o,r,l,_,_,d,i⟩:=m j vs[j] (by simp[hj]);have f:=d 0 _ (by rw[i];rfl);refine⟨b,o,vs[j],l,?_,hu _ (YI hj),?_⟩
 .exact yO w ⟨b,_,none⟩ f
 simpa using f
end
end Go.Proofs.YtikojfajahnhgaaGreat
