import Derived.Test.YtikojfajahnhgaaGreatKai
set_option linter.all false
set_option maxHeartbeats 12800000
set_option maxRecDepth 10000
namespace Go.Proofs.YtikojfajahnhgaaGreat
open Go.RowKit Go.Proofs.Tryz
attribute [local go_sem ↓] wp_at_zero wp_at_succ
attribute [local simp] At I6 Pn mzI Bk
attribute [local go_sem] At I6 Pn Bk
def h_(a c es S e w){q}(hv:EI q w a es)(he:es[S.length]?=some e)(af:0<=e.op)(ah:e.op<256)(f:e.w=2)(O:Eh e.op=false) :
  Ca 234 #[.slice a es.length c,I6 (S.length:Int)] w λe' w'=>e'=.returned (.bool (DY S e).isSome)/\Bw w w':=by
 have p:S.length<es.length:=(yf.1 he).1;have hv0:=hv;obtain⟨b,o,rfl,n,c0,c1,c2,c3,c4,c5,c6,c7⟩:=hv.get he;have m:(DY S e).isSome=(if EW S e then JC S e.a e.b else none).isSome:=by simp[DY,f]
 have B3:∀o d g,Bw w (((w.alloc o).drew.alloc d).alloc g):=λo d g=>((Gp o).drew.alloc qf _).alloc qe _;have r:=f_ e.op;obtain⟨hIs,hZ⟩:=An (ZB e.op af ah) (λw=>PT e.val w);rw[f]at c0;rw[show(DY S e).isSome=false by rw[m];simp[EW,O]];rw[O]at hIs;cases h1:(e.op==0)
 .exact MQ
 cases h2:(e.a==0)
 .exact MQ
 cases h3:(e.b==0)<;>exact MQ
def mB(a c es S e w){q}(hv:EI q w a es)(he:es[S.length]?=some e)(p:0<=e.op)(r:e.op<256)(f:e.w=2)(O:Eh e.op=true)(n:(e.F.toList.isEmpty&&E4 e.val)=false) :
  Ca 234 #[.slice a es.length c,I6 (S.length:Int)] w λe' w'=>e'=.returned (.bool (DY S e).isSome)/\Bw w w':=by
 have x:S.length<es.length:=(yf.1 he).1;have hv0:=hv;obtain⟨b,o,rfl,t,c0,c1,c2,c3,c4,c5,c6,c7⟩:=hv.get he;have ah:(DY S e).isSome=(if EW S e then JC S e.a e.b else none).isSome:=by simp[DY,f]
 have B3:∀o d g,Bw w (((w.alloc o).drew.alloc d).alloc g):=λo d g=>((Gp o).drew.alloc qf _).alloc qe _;have u:=f_ e.op;obtain⟨hIs,hZ⟩:=An (ZB e.op p r) (λw=>PT e.val w);rw[f]at c0;have h1:(e.op==0)=false:=by
  cases h:(e.op==0)
  .rfl
  have s:e.op=0:=qu;rw[s]at O;exact absurd O qi
 rw[O]at hIs;cases m:e.F.toList.isEmpty
 .rw[show(DY S e).isSome=false by rw[ah];simp[EW,DA,m]];exact MQ
 have af:E4 e.val=false:=by simpa[m] using n
 rw[show(DY S e).isSome=false by rw[ah];simp[EW,af]];rw[af]at hZ;exact MQ
def Qa(w:Aa)(o O a):(((w.alloc o).alloc O).alloc a).drew.heap.size=w.heap.size+3:=qf
def zmO{S a b s}(h:JC S a b=some s):∃sa sb,S[b.toNat]?=some sb/\S[a.toNat]?=some sa/\a=(sb.1:Int)-1/\1+max sa.2 sb.2<=20/\s=(sa.1,1+max sa.2 sb.2):=by
 unfold JC at h;split at h
 .rename_i sb sa d e;split at h
  .rename_i c;simp only[ym,decide_eq_true_eq]at c;injection h with h;exact⟨sa,sb,d,e,c.1,c.2,h.z⟩
  .cases h
 cases h
def zmB{S e s}(h:DY S e=some s):(e.w=0/\(e.op=0/\e.a=0/\e.b=0)/\e.F.toList=[]/\Dk e.val=true/\s=(S.length,0))∨(e.w=1/\(e.op=0/\e.a=0/\e.b=0)/\AP e.F.data.toList=true/\(e.val.w=0/\e.val.num=0/\e.val.O.toList=[])/\s=(S.length,0))∨(e.w=2/\Eh e.op=true/\e.F.toList=[]/\(e.val.w=0/\e.val.num=0/\e.val.O.toList=[])/\(e.b=(S.length:Int)-1/\0<=e.b/\0<=e.a)/\JC S e.a e.b=some s):=by
 unfold DY at h;split at h
 .rename_i k;split at h
  .rename_i g;injection h with h;simp[MC,DA]at g k;exact .inl ⟨k,⟨g.1.1,g.1.2.1,g.1.2.2⟩,g.2.1,g.2.2,h.z⟩
  cases h
 split at h
 .rename_i k;split at h
  .rename_i g;injection h with h;simp[MC,E4,DA]at g k;exact .inr (.inl ⟨k,⟨g.1.1,g.1.2.1,g.1.2.2⟩,g.2.1,⟨g.2.2.1,g.2.2.2.1,g.2.2.2.2⟩,h.z⟩)
  cases h
 split at h
 .rename_i k;split at h
  .rename_i g;simp[EW,E4,DA]at g k;exact .inr (.inr ⟨k,g.1,g.2.1,⟨g.2.2.1.1,g.2.2.1.2.1,g.2.2.1.2.2⟩,⟨g.2.2.2.1,g.2.2.2.2.1,g.2.2.2.2.2⟩,h⟩)
  .cases h
 cases h
def zlJ(e a c S s){q}(w)(hv:Jz q w a S)(hl:S.length<=60)(J:e.le maxLen)(U:0<=e.op)(N:e.op<256)(hd:∀(i:Nat)(s:Sp),S[i]?=some s->s.1<=i/\s.2<=20)(h:DY S e=some s) :
  Ca 250 #[.agg #[I6 e.w,.int .u8 e.op,.string e.F,I6 e.val.w,I6 e.val.num,.string e.val.O,I6 e.a,I6 e.b],.slice a S.length c] w λr w'=>
   r=.returned (.tuple #[.agg #[I6 (s.1:Int),I6 (s.2:Int)],.bool true])/\Bw w w':=by
 obtain⟨u,W⟩:=J;rcases zmB h with⟨k0,⟨Y,T,L⟩,h4,M,rfl⟩|⟨k1,⟨Y,T,L⟩,M,⟨g,k,t⟩,rfl⟩|⟨D,E,z,⟨g,k,t⟩,⟨I,d,y⟩,A⟩
 .clear h;go_enter func250,ntmps250;go_wp2
  first
  |(go_region_law (first|(go_simp;go_at_call 256;refine(VP e.val _ W).j ?_;rintro B w' ⟨rfl,hb'⟩;have x:Bw w w':=Cq.drew.c (hb'.j (by rw[Qa];omega));have n:At w' (w.heap.size+1) 0 (I6 0):=zab hb' ql;have o:At w' (w.heap.size+1) 1 (I6 0):=zab hb' ql;have g:At w' (w.heap.size+1+1) 0 (I6 (S.length:Int)):=zab hb' ql;have k:At w' (w.heap.size+1+1) 1 (I6 0):=zab hb' ql;have R:w'.frozen? ⟨w.heap.size+1,0,none⟩=false:=qM;have az:w'.frozen? ⟨w.heap.size+1,1,none⟩=false:=qM)))
  |fail
  all_goals go_wp2
  all_goals refine bodyPost_ret (v:=.tuple #[.agg #[I6 (S.length:Int),I6 0],.bool true]) (by simp[results,results250,go_sem,n,o]) rfl ⟨?_,?_⟩
  all_goals first|rfl|exact(x.setCell qf _).setCell qf _
 .clear h;go_enter func250,ntmps250;go_wp2
  first
  |(go_region_law (first|(go_simp;go_at_call 197;refine(LP e.F _ u).j ?_;rintro B w' ⟨rfl,rfl⟩)))
  |fail
  all_goals go_wp2
  all_goals refine bodyPost_ret (v:=.tuple #[.agg #[I6 (S.length:Int),I6 0],.bool true]) (by simp[results,results250,go_sem]) rfl ⟨?_,?_⟩
  all_goals first|rfl|(repeat first|exact Cq|refine Below.drew ?_|refine Kz ?_ qv _;done)
 obtain⟨sa,sb,f,l,Z,G,rfl⟩:=zmO A;obtain⟨H,m⟩:=Yk y;obtain⟨C,p⟩:=Yk d;rw[p,YG]at f;rw[m,YG]at l;have O:=λw h=>ziq e a c S (q:=q) w h hl D U N z g k t E H C sa sb m p l f qd qd (hd C sb f).2 (hd H sa l).2;simp only[D]at O;rw[decide_eq_true G]at O;have K:=Ad O;clear O h A I d y m p l f Z E z g k t G hd;go_enter func250,ntmps250;go_wp2_with (go_at_call 274;refine(K _ (hv.e Cq)).j ?_;rintro B w' ⟨rfl,hb'⟩;have n:At w' (w.heap.size+1) 0 (I6 0):=zab hb' ql;have o:At w' (w.heap.size+1) 1 (I6 0):=zab hb' ql;have R:w'.frozen? ⟨w.heap.size+1,0,none⟩=false:=qM;have az:w'.frozen? ⟨w.heap.size+1,1,none⟩=false:=qM);have x:Bw w w':=Cq.thn hb';refine bodyPost_ret (v:=.tuple #[.agg #[I6 (sa.1:Int),I6 ((1+max sa.2 sb.2:Nat):Int)],.bool true]) (by simp[results,results250,go_sem,n,o]) rfl ⟨rfl,(x.setCell qf _).setCell qf _⟩
def zpH(x:Ru)(m k d g n l){q}(w)(f:EI q w d x.A)(hl:x.A.length<=60)(I:FD Ex.le maxLen x.A)(M:Jd x.A)(hF:(Dv [] x.A).length=x.A.length) :
  Ca 199 #[.agg #[.string x.name,.int .i64 x.aq,.slice m x.x.length k,.slice d x.A.length g,.slice n x.K.length l]] w λe w'=>
   (∃a c,e=.returned (.tuple #[.slice a (Dv [] x.A).length c,.bool true])/\Jz none w' a (Dv [] x.A))/\Bw w w':=by
 have Y:=Ad hF;go_enter func199,ntmps199;go_wp2
 go_loopw [4,12] (λv i wr=>∃(S:BS)(a:Af)(c:Nat),S.length<=x.A.length/\i=.int .i64 (S.length:Int)/\v=.slice a S.length c/\Bt x.A S/\Dv [] x.A=Dv S (x.A.drop S.length)/\wr.ownsRow w.heap.size 375 2 (.slice a S.length c) S.length (S.flatMap JH)/\Bw w wr) (λ_ i _=>x.A.length-(intOf i).toNat)
 .exact⟨[],none,0,qf,rfl,rfl,Bt.nil _,rfl,yJ _ _ _ _,Ar⟩
 obtain⟨S,a,c,hk,rfl,rfl,hS,U,p,t⟩:=hrel;have HG:Hid (Dv [] x.A=Dv S (x.A.drop S.length)):=U;have B:=Ad p;by_cases E:S.length<x.A.length
 .obtain⟨e,O⟩:∃e,x.A[S.length]?=some e:=⟨x.A[S.length],by simp[E]⟩
  obtain⟨b,o,rfl,hq,c0,c1,c2,c3,c4,c5,c6,c7⟩:=(f.e t).get O;have D:Hid (x.A.drop S.length=e::x.A.drop (S.length+1)):=Dx O;have W:=I.2 e (yd O);obtain⟨R,u⟩:=M e (yd O);have hd:Hid (∀(i:Nat)(s:Sp),S[i]?=some s->s.1<=i/\s.2<=20):=show∀(i:Nat)(s:Sp),S[i]?=some s->s.1<=i/\s.2<=20 fromλi s h=>⟨hS.bf i s h,hS.aS i s h⟩
  have Z:=Ad hS;cases r:DY S e with
  |none=>exact absurd Y (by rw[HG.o,D.o,Dv,r];exact Nat.ne_of_lt E)
  |some s=>
   have HN:Hid (Dv [] x.A=Dv (S++[s]) (x.A.drop (S.length+1))):=show Dv [] x.A=_ from by rw[HG.o,D.o,Dv,r]
   go_wp2_with (first|(go_at_call 250;refine(zlJ e a c S s _ ((Jz.owns B).e Ar) qd W R u hd r).rtn λy H=>?_;have C:Bw wr y:=Ar.thn H;have u:=Ad (AZ B C))|(at_builtin;refine Dp qh (.tmp 25) (.tmp 27) 310 qh w.heap.size 375 _ 2 16 underlying310 xK qh qd _ S.length _ qh ((u.alloc _).alloc _) (some ⟨y.heap.size+1,0,none⟩) 1 1 qh (JH s) qh (λe=>qo) (CH _ _ _ _ qf) (zm2 s) qj qd (by have h1:=t.size;have h2:=C.size;simp;omega) ?_;intro J L w2 N T ax));have G:Bw w y:=t.thn C;have z:=G.size;go_roundw
   case rel=>
    refine⟨S++[s],J,L,qe,qf,qf,Z.snoc O r,?_,?_,?_⟩
    .rw[HN.o];simp
    .have:=N.o;rw[Yy];simpa[JH] using this
    .exact((G.alloc z _).alloc qe _).grown T qe (λj hj=>(u.lt j hj).1)
   case measure=>simp[intOf];omega
 go_wp2;have HN:Hid (Dv [] x.A=S):=show Dv [] x.A=S from by
  exact TM
 refine bodyPost_ret (v:=.tuple #[.slice a S.length c,.bool true]) (by simp[results,results199,go_sem]) rfl ⟨⟨a,c,OG,?_⟩,t⟩;rw[HN.o];exact Jz.owns B
set_option maxHeartbeats 12800000 in
def wJ(a c es S e w){q}(hv:EI q w a es)(hl:es.length<=60)(hS:Bt es S)(he:es[S.length]?=some e)(N:0<=e.op)(L:e.op<256)(z:e.w=2)(t:Eh e.op=true)(T:e.F.toList.isEmpty=true)(D:E4 e.val=true) :
  Ca 234 #[.slice a es.length c,I6 (S.length:Int)] w λe' w'=>e'=.returned (.bool (DY S e).isSome)/\Bw w w':=by
 have aG:S.length<es.length:=(yf.1 he).1;have hv0:=hv;obtain⟨b,o,rfl,I,c0,c1,c2,c3,c4,c5,c6,c7⟩:=hv.get he;clear I hv;have af:(DY S e).isSome=(if EW S e then JC S e.a e.b else none).isSome:=by simp[DY,z]
 have B3:∀o A G,Bw w (((w.alloc o).drew.alloc A).alloc G):=λo A G=>((Gp o).drew.alloc qf _).alloc qe _;have aH:=f_ e.op;obtain⟨hIs,hZ⟩:=An (ZB e.op N L) (λw=>PT e.val w);rw[z]at c0;have h1:(e.op==0)=false:=by
  cases h:(e.op==0)
  .rfl
  have R:e.op=0:=qu;rw[R]at t;exact absurd t qi
 rw[t]at hIs;rw[D]at hZ;have hw:IntKind.i64.wrap ((S.length:Int)-1)=(S.length:Int)-1:=by rw[Yh];omega
 by_cases O:e.b=(S.length:Int)-1
 .by_cases d:e.b<0
  .rw[show(DY S e).isSome=false by rw[af];simp[EW,show¬0<=e.b by omega]];have H:(e.b != (S.length:Int)-1)=false:=Qk;have M:decide (e.b<0)=true:=decide_eq_true d;clear O d hv0 hS af;exact MQ
  have M:decide (e.b<0)=false:=decide_eq_false d;have H:(e.b != (S.length:Int)-1)=false:=Qk;by_cases r:e.a<0
  .rw[show(DY S e).isSome=false by rw[af];simp[EW,show¬0<=e.a by omega]];have Y:decide (e.a<0)=true:=decide_eq_true r;clear O d r hv0 hS af;exact MQ
  have Y:decide (e.a<0)=false:=decide_eq_false r;obtain⟨f,n⟩:=Yk (show 0<=e.b by omega);have B:f+1=S.length:=qd;obtain⟨sb,ah⟩:∃s,S[f]?=some s:=⟨S[f]'(by omega),qf⟩
  obtain⟨m,x⟩:=Yk (show 0<=e.a by omega);have g:EW S e=true:=by
   simp only[EW,t,DA,T,D,YK,ym,decide_eq_true_eq];exact⟨O,qd,qd⟩
  have y:(DY S e).isSome=(JC S e.a e.b).isSome:=by rw[af,g];rfl
  have E:=hS.bf f sb ah;have Z:IntKind.i64.wrap ((sb.1:Int)-1)=(sb.1:Int)-1:=by rw[Yh];omega
  have hF:=Ad (show∀w',EI q w' (some ⟨b,o,none⟩) es->Ca 236 #[.slice (some ⟨b,o,none⟩) es.length c,I6 e.b] w' λe J=>e=.returned (I6 (sb.1:Int))/\J=w' fromλw' h=>by
   rw[n];exact VQ (some ⟨b,o,none⟩) c es S f sb w' h hS ah)
  cases hd:(e.a==(sb.1:Int)-1)
  .have p:¬e.a=(sb.1:Int)-1:=qz;rw[show(DY S e).isSome=false by
    rw[y];unfold JC;rw[n,YG,ah];cases S[e.a.toNat]?<;>simp[p]]
   clear n x ah E B hS g y af p O d r;exact MQ
  have U:e.a=(sb.1:Int)-1:=qz;obtain⟨sa,u⟩:∃s,S[m]?=some s:=⟨S[m]'(by omega),qf⟩
  rw[show(DY S e).isSome=decide (1+max sa.2 sb.2<=20) by
   rw[y];unfold JC;have W:decide ((m:Int)=(sb.1:Int)-1)=true:=decide_eq_true qd;rw[n,x,YG,YG,ah,u];simp only[W,YK];by_cases C:1+max sa.2 sb.2<=20
   .rw[decide_eq_true C];rfl
   rw[decide_eq_false C];rfl]
  have hDp:=Ad (λw'(h:EI q w' (some ⟨b,o,none⟩) es)=>q_ (some ⟨b,o,none⟩) c es S.length m f sa.2 sb.2 e w' h he z x n (hS.aS m sa u) (hS.aS f sb ah) (rH (some ⟨b,o,none⟩) c es S w' h hS m sa u) (rH (some ⟨b,o,none⟩) c es S w' h hS f sb ah));clear x u n ah E B hS g y af U O d r;exact MQ
 rw[show(DY S e).isSome=false by rw[af];simp[EW,O]];have H:(e.b != (S.length:Int)-1)=true:=Qk;clear O hv0 hS af;exact MQ
end Go.Proofs.YtikojfajahnhgaaGreat
