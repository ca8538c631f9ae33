import Derived.Test.YtikojfajahnhgaaGreatKbz
import Derived.Test.YtikojfajahnhgaaGreatKby
set_option linter.all false
set_option maxRecDepth 100000
namespace Go.Proofs.YtikojfajahnhgaaGreat
attribute [local simp] At I6 Pn mzI
attribute [local go_sem] At I6 Pn
open Go.ChangeShapes Go.WideShapes Go.ChangeAt Go.RowKit Go.Joins Go.Proofs.Tryz
open Go.ChangeMaps (open_string shut_string)
def x_(s:Os)(O:s.Started)(H:Type)(enc:TypeId × Value->H) :
  ReturnsInHanded {} Tryz.checked s 4 .any (Rows.fnSizesSpec.pre6 enc prog Tryz.f4 Rows.fnSizesRow.domain false) (Rows.fnSizesSpec.post enc prog Tryz.f4 false true false false):=by
 refine returnsInHanded_of_change (C:=Tryz.checked) Z6 O qg func4
  (ChangeSpec.witness6 (enc:=enc) (C:=Tryz.checked) false ⟨#[],#[.slice none 0 0,.slice none 0 0],[]⟩ 8 qg qg qg qg) ?_
 intro W base args U gs before af z ay _;have d:∀(j:Nat)t v,Tryz.f4.params[j]?=some t->args[j]?=some v->Value.okWide prog W .any base t v:=af;have I:=z;obtain⟨p,q,u,L,rfl,aB,aH⟩:=z;have y:DataW.TrodAll enc prog W 0 (λ_=>true) true Tryz.f4.params.toList args.toList U p:=u;rw[params4]at y d;obtain⟨f,aI,d0,aE,R,q0,aj,rfl,rfl,k,Y⟩:=trodAll_cons y;obtain⟨v1,aA,d1,az,N,Z,ax,rfl,rfl,A,r1⟩:=trodAll_cons Y;obtain⟨rfl,rfl,rfl⟩:=trodAll_nil r1;obtain rfl:args=#[f,v1]:=by cases args;simp_all
 obtain⟨rfl,rfl⟩:=trodVars_none L;have g:=k;have T:∀x∈R,x.block<W.heap.size:=by obtain⟨m,b⟩:=g;exact DataW.trod_lt m _ _ _ b
 have B:=A;have M:∀x∈N,x.block<W.heap.size:=by obtain⟨m,b⟩:=B;exact DataW.trod_lt m _ _ _ b
 obtain⟨sa,sn,sc,rfl⟩:=okWide_slice underlying22 (d 0 22 f rfl rfl);obtain⟨ta,tn,tc,rfl⟩:=okWide_slice underlying22 (d 1 22 v1 rfl rfl);obtain⟨m1,D⟩:=k;obtain⟨aK,aD,aG,n,E⟩:=jh D;simp only[Value.cells,Yu,and_true,YX]at n;obtain⟨rfl,rfl,rfl⟩:=n;obtain⟨m2,K⟩:=A;obtain⟨aJ,aF,aC,r,G⟩:=jh K;simp only[Value.cells,Yu,and_true,YX]at r;obtain⟨rfl,rfl,rfl⟩:=r;clear u af;refine(sV _ _ _ _ _ _ W E G).j λe W'⟨J,bel⟩=>?_;subst J;exact⟨_,rfl,_,_,_,[],_,[],I,trodAll_mk1 (shut_bool underlying4 _),(trodAll_cons_mk (Below.trod Sr qg (of_decide_eq_true qg) g bel T) (trodAll_cons_mk (Below.trod Sr qg (of_decide_eq_true qg) B bel M) trodAll_mk0)),rfl,bel.frame _,λh=>by cases h⟩
end Go.Proofs.YtikojfajahnhgaaGreat
