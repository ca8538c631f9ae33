import Derived.Test.YtikojfajahnhgaaGreatKax
import Derived.Test.YtikojfajahnhgaaGreatKaw
set_option linter.all false
namespace Go.Proofs.YtikojfajahnhgaaGreat
attribute [local simp] At I6 Pn mzI
attribute [local go_sem] At I6 Pn
open Go.RowKit Go.Proofs.Tryz
attribute [local go_sem ↓] wp_at_zero wp_at_succ
set_option maxHeartbeats 1600000 in
def ziu(a:Option Addr)(c:Nat)(es:List Ex)(S:List Sp)(e:Ex)(w:World){q:Option Nat}(hv:BP q w a es)(hl:es.length<=60)(hS:AY es S)(i:es[S.length]?=some e)(A:e.le maxLen)(O:0<=e.op)(Y:e.op<256) :
  Ca 234 #[.slice a es.length c,I6 (S.length:Int)] w λn w'=>n=.returned (.bool (Bv S e).isSome)/\Bw w w':=by
 obtain⟨t,y⟩:=A;have L:S.length<es.length:=(yf.1 i).1;have d:=hv;obtain⟨b,o,rfl,z,E,J,K,B,H,C,G,I⟩:=hv.get i;clear z hv;by_cases x:e.kind=0
 .have g:(e.kind==0)=true:=by simp[x]
  cases l:(e.op==0)<;>cases k:(e.a==0)<;>cases j:(e.b==0)<;>cases m:e.var.toList.isEmpty
  all_goals
   go_enter func234,ntmps234;go_wp2_with (go_at_call 176;refine(S0 e.val _ y).ac ?_;rintro n w' ⟨rfl,f⟩);go_ret
  all_goals first
   |exact⟨AE (by simp[Bv,CQ,BT,g,l,k,j,m]),Af⟩
   |exact⟨AE (by simp[Bv,CQ,BT,g,l,k,j,m];cases Bu e.val<;>rfl),Af.aj f⟩
 by_cases s:e.kind=1
 .have g:(e.kind==0)=false:=by simp[s]
  have r:(e.kind==1)=true:=by simp[s]
  cases l:(e.op==0)<;>cases k:(e.a==0)<;>cases j:(e.b==0)<;>cases m:Aw e.var.data.toList
  all_goals
   go_enter func234,ntmps234;go_wp2_with (first|(go_at_call 116;refine(Hg e.var _ t).ac ?_;rintro n w' ⟨rfl,rfl⟩)|(go_at_call 267;refine(MU e.val _).ac ?_;rintro n w' ⟨rfl,f⟩));go_ret
  all_goals first
   |exact⟨AE (by simp[Bv,CQ,g,r,l,k,j,m]),Af⟩
   |exact⟨AE (by simp[Bv,CQ,g,r,l,k,j,m];cases Cr e.val<;>rfl),Af.aj f⟩
 have g:(e.kind==0)=false:=by simpa using x
 have r:(e.kind==1)=false:=by simpa using s
 by_cases k2:e.kind=2
 .clear E J K B H C G I;cases p:DY e.op
  .exact tC _ c es S e w d i O Y k2 p
  cases u:e.var.toList.isEmpty
  .exact gE _ c es S e w d i O Y k2 p (by rw[u];rfl)
  cases v:Cr e.val
  .exact gE _ c es S e w d i O Y k2 p (by rw[v];simp)
  exact tH _ c es S e w d hl hS i O Y k2 p u v
 have D:(e.kind==2)=false:=QC;cases l:(e.op==0)<;>cases k:(e.a==0)<;>cases j:(e.b==0)
 all_goals
  go_enter func234,ntmps234;go_wp2;go_ret;exact⟨AE (by simp[Bv,g,r,D]),Af⟩
end Go.Proofs.YtikojfajahnhgaaGreat
