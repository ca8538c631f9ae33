import Derived.Test.YtikojfajahnhgaaGreatKav
set_option linter.all false
set_option maxRecDepth 10000
namespace Go.Proofs.YtikojfajahnhgaaGreat
attribute [local simp] At I6 Pn mzI
attribute [local go_sem] At I6 Pn
open Go.RowKit Go.Proofs.Tryz
attribute [local go_sem ↓] wp_at_zero wp_at_succ
set_option maxHeartbeats 12800000 in
def tH(a c es S e w){q}(hv:BP q w a es)(hl:es.length<=60)(hS:AY es S)(he:es[S.length]?=some e)(I:0<=e.op)(W:e.op<256)(z:e.kind=2)(u:DY e.op=true)(Z:e.var.toList.isEmpty=true)(E:Cr e.val=true) :
  Ca 234 #[.slice a es.length c,I6 (S.length:Int)] w λe' w'=>e'=.returned (.bool (Bv S e).isSome)/\Bw w w':=by
 have aF:S.length<es.length:=(yf.1 he).1;have hv0:=hv;obtain⟨b,o,rfl,H,c0,c1,c2,c3,c4,c5,c6,c7⟩:=hv.get he;clear H hv;have Y:(Bv S e).isSome=(if CN S e then Ia S e.a e.b else none).isSome:=by simp[Bv,z]
 have B3:∀o D A,Bw w (((w.alloc o).drew.alloc D).alloc A):=λo D A=>((Ez o).drew.alloc qe _).alloc qg _;have aE:=VA e.op;obtain⟨hIs,hZ⟩:=Ak (Uw e.op I W) (λw=>MU e.val w);rw[z]at c0;have h1:(e.op==0)=false:=by
  cases h:(e.op==0)
  .rfl
  have R:e.op=0:=qq;rw[R]at u;exact absurd u qh
 rw[u]at hIs;rw[E]at hZ;have hw:IntKind.i64.wrap ((S.length:Int)-1)=(S.length:Int)-1:=by rw[yS];omega
 by_cases O:e.b=(S.length:Int)-1
 .by_cases d:e.b<0
  .rw[show(Bv S e).isSome=false by rw[Y];simp[CN,show¬0<=e.b by omega]];have C:(e.b != (S.length:Int)-1)=false:=by simp[O]
   have L:decide (e.b<0)=true:=decide_eq_true d;clear O d hv0 hS Y;exact J8
  have L:decide (e.b<0)=false:=decide_eq_false d;have C:(e.b != (S.length:Int)-1)=false:=by simp[O]
  by_cases r:e.a<0
  .rw[show(Bv S e).isSome=false by rw[Y];simp[CN,show¬0<=e.a by omega]];have T:decide (e.a<0)=true:=decide_eq_true r;clear O d r hv0 hS Y;exact J8
  have T:decide (e.a<0)=false:=decide_eq_false r;obtain⟨f,m⟩:=Ym (show 0<=e.b by omega);have B:f+1=S.length:=qd;obtain⟨sb,af⟩:∃s,S[f]?=some s:=⟨S[f]'(by omega),qe⟩
  obtain⟨n,x⟩:=Ym (show 0<=e.a by omega);have g:CN S e=true:=by
   simp only[CN,u,BT,Z,E,YP,yk,decide_eq_true_eq];exact⟨O,qd,qd⟩
  have y:(Bv S e).isSome=(Ia S e.a e.b).isSome:=by rw[Y,g];rfl
  have av:=hS.bn f sb af;have aG:IntKind.i64.wrap ((sb.1:Int)-1)=(sb.1:Int)-1:=by rw[yS];omega
  have hF:=Aa (show∀w',BP q w' (some ⟨b,o,none⟩) es->Ca 236 #[.slice (some ⟨b,o,none⟩) es.length c,I6 e.b] w' λe U=>e=.returned (I6 (sb.1:Int))/\U=w' fromλw' h=>by
   rw[m];exact SI (some ⟨b,o,none⟩) c es S f sb w' h hS af)
  cases hd:(e.a==(sb.1:Int)-1)
  .have p:¬e.a=(sb.1:Int)-1:=qw;rw[show(Bv S e).isSome=false by
    rw[y];unfold Ia;rw[m,YK,af];cases S[e.a.toNat]?<;>simp[p]]
   clear m x af av B hS g y Y p O d r;exact J8
  have N:e.a=(sb.1:Int)-1:=qw;obtain⟨sa,t⟩:∃s,S[n]?=some s:=⟨S[n]'(by omega),qe⟩
  rw[show(Bv S e).isSome=decide (1+max sa.2 sb.2<=20) by
   rw[y];unfold Ia;have M:decide ((n:Int)=(sb.1:Int)-1)=true:=decide_eq_true qd;rw[m,x,YK,YK,af,t];simp only[M,YP];by_cases G:1+max sa.2 sb.2<=20
   .rw[decide_eq_true G];rfl
   rw[decide_eq_false G];rfl]
  have hDp:=Aa (λw'(h:BP q w' (some ⟨b,o,none⟩) es)=>lG (some ⟨b,o,none⟩) c es S.length n f sa.2 sb.2 e w' h he z x m (hS.aZ n sa t) (hS.aZ f sb af) (k_ (some ⟨b,o,none⟩) c es S w' h hS n sa t) (k_ (some ⟨b,o,none⟩) c es S w' h hS f sb af));clear x t m af av B hS g y Y N O d r;exact J8
 rw[show(Bv S e).isSome=false by rw[Y];simp[CN,O]];have C:(e.b != (S.length:Int)-1)=true:=by simp[O]
 clear O hv0 hS Y;exact J8
end Go.Proofs.YtikojfajahnhgaaGreat
