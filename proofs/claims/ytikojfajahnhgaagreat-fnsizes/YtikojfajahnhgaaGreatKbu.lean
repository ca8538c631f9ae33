import Derived.Test.YtikojfajahnhgaaGreatKbd
import Derived.Test.YtikojfajahnhgaaGreatKbe
set_option linter.all false
set_option maxRecDepth 100000
namespace Go.Proofs.YtikojfajahnhgaaGreat
attribute [local simp] At I6 Pn mzI
attribute [local go_sem] At I6 Pn
open Go.RowKit Go.Proofs.Tryz
attribute [local go_sem ↓] wp_at_zero wp_at_succ
def T0(nm:ByteArray)(sal:Int)(p e a:Value):Value:=.agg #[.string nm,.int .i64 sal,p,e,a]
def RB(w:World)(b:Nat)(nm:ByteArray)(sal:Int)(p e a:Value):Prop:=w.heap[b]?=some (.cells #[.string nm,.int .i64 sal,p,e,a] 53 (0,0))
def PB(w:World)(b:Nat)(neg:Bool)(cls:ByteArray)(t:Value):Prop:=w.heap[b]?=some (.cells #[.bool neg,.string cls,t] 152 (0,0))
def PB.G{w b neg a t}(h:PB w b neg a t):(At w b 0 (.bool neg)/\At w b 1 (.string a)/\At w b 2 t)/\(∀j,w.frozen? ⟨b,j,none⟩=false)/\b<w.heap.size:=by
 unfold PB at h;refine⟨⟨?_,?_,?_⟩,λj=>?_,Ak h⟩<;>simp[World.cell?,World.frozen?,h]
abbrev Bp:Value:=.slice none 0 0
def RB.G{w b c sal p e a}(h:RB w b c sal p e a):(At w b 0 (.string c)/\At w b 1 (I6 sal)/\At w b 2 p/\At w b 3 e/\At w b 4 a)/\(∀j,w.frozen? ⟨b,j,none⟩=false)/\b<w.heap.size:=by
 unfold RB at h;refine⟨⟨?_,?_,?_,?_,?_⟩,λj=>?_,Ak h⟩<;>simp[World.cell?,World.frozen?,h]
def jW:(prog.info? 9).map (λi=>(i.zero,i.size,i.bytes))=some (some (.string ⟨#[]⟩),1,16):=qg
def tz:(prog.info? 189).map (λi=>(i.zero,i.size,i.bytes))=some (some (.agg #[I6 0,I6 0,.string ⟨#[]⟩,I6 0,I6 0,.string ⟨#[]⟩]),6,64):=qg
def tU:(prog.info? 152).map (λi=>(i.zero,i.size,i.bytes))=some (some (.agg #[.bool false,.string ⟨#[]⟩,.slice none 0 0]),3,48):=qg
def zl(a:List ByteArray):∀u∈a.map Value.string,u.oneCell'=true:=by
 intro u hu;obtain⟨s,_,rfl⟩:=yz.1 hu;rfl
def tS{w:World}{base n e a c xs}(h:w.ownsRow base e 1 (.slice a n c) n xs):(a=none->n=0)/\∀b,a=some b->∀(j:Nat)u,xs[j]?=some u->w.cell? (b.add j)=some u:=by
 constructor
 .intro O;rcases h.2 with⟨_,f⟩|⟨g,cap,l,d,_⟩
  .exact f
  subst O;simp at d
 intro b O j u hu;obtain⟨g,i,_,k,_⟩:=BM h hu;rw[i]at O;injection O with O;subst O;rw[Wl,Yc];exact k
def tI(k)(a:k<10):(⟨#[114]⟩:ByteArray)++GG k=Ji k:=by
 have:∀k:Fin 10,(⟨#[114]⟩:ByteArray)++GG k.val=Ji k.val:=qh;exact this ⟨k,a⟩
def PK(L:List MB)(K:List ByteArray)(pos:Nat):Prop:=Ee (L.map Prod.fst) [] 1=.inr K/\Ad (L.map Prod.fst)=pos
def PK.nil:PK [] [] 0:=⟨rfl,rfl⟩
def PK.snoc{L K b H pos O neg a ts v}(h:PK L K pos)(e:Cq ts K=some H)(c:O=pos/\neg=true∨O=pos+1/\neg=false)(d:b=(if neg then K else H)):PK (L++[(⟨neg,a,ts⟩,v)]) b O:=by
 constructor
 .rw[yF,d];exact XW h.1 (p:=⟨neg,a,ts⟩) e
 have:=h.2;unfold Ad at this⊢;rw[yF,List.countP_append,this];rcases c with⟨rfl,rfl⟩|⟨rfl,rfl⟩<;>rfl
def tL{K t}(h:La K t)(hk:(t.u==2)=true):Uu t.A:=by
 refine⟨h.1.1,?_⟩;have a:=h.1.2.2;have e:t.u=2:=OW;simp[CY,e]at a;exact a.2.1
def Ss:(prog.info? 227).map (λi=>(i.zero,i.size,i.bytes))=some (some (.agg #[I6 0,I6 0,.string ⟨#[]⟩,.slice none 0 0]),4,56):=qg
def AB(w:World)(b:Nat)(x0 x1 x2 x3:Value):Prop:=w.heap[b]?=some (.cells #[x0,x1,x2,x3] 227 (0,0))
def AB.G{w b x0 x1 c a}(h:AB w b x0 x1 c a):(At w b 0 x0/\At w b 1 x1/\At w b 2 c/\At w b 3 a)/\(∀j,w.frozen? ⟨b,j,none⟩=false)/\b<w.heap.size:=by
 unfold AB at h;exact Zt
def Qs.cm{g b o O u v x}(h:Qs g b O u v)(f:g<b):Qs g b O u (v.setCell ⟨b,o,none⟩ x):=
 ⟨h.rest.setCell (yk _) _,λk e d h2 a=>(yE _ _ _ _ qu).c (h.block k e d h2 a),h.bc.bW (An.setCell qf _)⟩
def QB.aY{w:World}{b base d o:Nat}{x0 x1 f g:Value}{a:Option Addr}{c:Nat}{xs:List Ex}{t:TypeId}{O:Array Value}{k:Nat × Nat}{v:Value}(h:QB w b base x0 x1 f g a c xs)(hd:w.heap[d]?=some (.cells O t k))(j:t≠53)(i:t≠225):QB (w.setCell ⟨d,o,none⟩ v) b base x0 x1 f g a c xs:=by
 refine⟨(yE _ _ _ _ (λe=>?_)).c h.1,Hc h.2.1 hd i,h.2.2⟩;have l:b=d:=e;subst l;exact Cf hd h.1 j
def AQ(K:List ByteArray)(pos:Nat)(w:World)(b base:Nat)(x0 x1 x2:Value)(Ys:List N6):Prop:=∃(aa:Option Addr)(ac:Nat)(a:Option Addr)(c:Nat)(xs:List Ex)(m:Nat),QB w b base x0 x1 x2 (.slice aa Ys.length ac) a c xs/\(xs.length<=7*m/\xs.length<=50+m/\m<=3*Ys.length/\Fr K pos 0 xs (Ys.map Prod.fst))/\Eh w base aa ac Ys
def SQ{K pos m m' xs ys}{a:List N6}{A v}(h:Fr K pos 0 xs (a.map Prod.fst))(b:Dv A=true/\A.args.length<=6/\DF pos A=true)(ht:Cj K xs.length ys A.args)(c:(xs++ys).length<=7*m')(d:(xs++ys).length<=50+m')(e:m'<=m+3)(O:m<=3*a.length) :
  (xs++ys).length<=7*m'/\(xs++ys).length<=50+m'/\m'<=3*(a++[(A,v)]).length/\Fr K pos 0 (xs++ys) ((a++[(A,v)]).map Prod.fst):=by
 refine⟨c,d,qf,?_⟩;rw[yF];exact h.snoc b Mq
def uF(pos):Dv ⟨4,0,⟨#[]⟩,[]⟩=true/\(⟨4,0,⟨#[]⟩,[]⟩:Ac).args.length<=6/\DF pos ⟨4,0,⟨#[]⟩,[]⟩=true:=⟨by simp[Dv,JL],qe,by simp[DF]⟩
def tT{pos:Nat}{z}(h:1<=z/\z<=(pos:Int))(a:pos<=3):Dv ⟨2,z,⟨#[]⟩,[]⟩=true/\(⟨2,z,⟨#[]⟩,[]⟩:Ac).args.length<=6/\DF pos ⟨2,z,⟨#[]⟩,[]⟩=true:=⟨by simp[Dv,JL,Mv];omega,qe,by simp[DF];omega⟩
def s8{pos:Nat}{z O}(h:1<=z/\z<=(pos:Int))(a:pos<=3)(b:O.length<=3):Dv ⟨3,z,⟨#[]⟩,O⟩=true/\(⟨3,z,⟨#[]⟩,O⟩:Ac).args.length<=6/\DF pos ⟨3,z,⟨#[]⟩,O⟩=true:=⟨by simp[Dv,JL,Mv];omega,qf,by simp[DF];omega⟩
def ra{pos a O}(h:Uv a)(b:O.length<=3):Dv ⟨1,0,a,O⟩=true/\(⟨1,0,a,O⟩:Ac).args.length<=6/\DF pos ⟨1,0,a,O⟩=true:=⟨by simp[Dv,h.2],qf,by simp[DF]⟩
def Eh.snoc{w b base a d c e Y x}(h:Eh w base a c Y)(hx:N9 w base x)(ho:b.ownsRow base 227 4 (.slice d (Y.length+1) e) (Y.length+1) (Y.flatMap Ff++Ff x))(f:w.grownBy b (Value.slice a Y.length c).ownBlock):Eh b base d e (Y++[x]):=by
 refine⟨QV,λy hy=>?_⟩;have O:N9 w base y:=by
  exact oK
 exact⟨O.1,Hv (t:=227) O.2 f (λk g=>AO h.1 g) qh⟩
def kS{P:World->Prop}{w}{a pos:Nat}{b O x0 x1 c d}(e:AB w a x0 x1 c d)(f:1<=O/\O<=(pos:Int))(h:∀wt z,(1<=z/\z<=(pos:Int))->AB wt a (I6 b) (I6 z) c d->Turned w wt a->P wt):P ((w.setCell ⟨a,0,none⟩ (I6 b)).setCell ⟨a,1,none⟩ (I6 O)):=
 h _ O f (by have:=Co (i:=1) (Co (i:=0) e (I6 b)) (I6 O);simpa[AB] using this) (Turned.setCells [I6 b,I6 O] 0 w a)
def jw{P:World->Prop}{w a x0 x1 b c v}(d:AB w a x0 x1 b c)(h:∀wt,AB wt a v x1 b c->Turned w wt a->P wt):P (w.setCell ⟨a,0,none⟩ v):=
 h _ (by have:=Co (i:=0) d v;simpa[AB] using this) (Turned.setCells [v] 0 w a)
def iz{P:World->Prop}{w a x0 x1 b d v}(c:AB w a x0 x1 b d)(h:∀wt,AB wt a x0 x1 b v->Turned w wt a->P wt):P (w.setCell ⟨a,3,none⟩ v):=
 h _ (by have:=Co (i:=3) c v;simpa[AB] using this) (Turned.setCells [v] 3 w a)
def zH{P:World->Prop}{w a x0 x1 d b v}(c:AB w a x0 x1 d b)(h:∀wt,AB wt a x0 x1 v b->Turned w wt a->P wt):P (w.setCell ⟨a,2,none⟩ v):=
 h _ (by have:=Co (i:=2) c v;simpa[AB] using this) (Turned.setCells [v] 2 w a)
def Rs.qs{g b o u v}(h:Qs g b o u v)(w0)(O:Rs g w0 u)(i:w0.heap.size<=b)(f:∀k,o=some k->w0.heap.size<=k):Rs g w0 v:=
 ⟨⟨O.1.rest.c h.rest,λk d a=>(h.block k (yg d O.1.rest.size) (λe=>a Gx) qd (λe=>by have:=f k e;omega)).c (O.1.block k d a)⟩,h.bc⟩
def PO.qs{w w' base g b o a c L cb}(h:PO w base a c L)(p:Qs g b o w w')(r:g<base)(l:w.heap[b]?=some (.cells cb 53 (0,0)))(q:o=none):PO w' base a c L:=by
 subst q;have key:∀{e:TypeId}{m:Nat}{v:Value}{n:Nat}{xs:List Value},w.ownsRow base e m v n xs->e≠53->w'.ownsRow base e m v n xs:=λd f=>Bv d λk j=>p.block k (d.lt k j).2 (by have:=(d.lt k j).1;omega) (λe=>by
  obtain⟨cc,O⟩:=AO d j;subst e;exact Cf O l f) qe
 exact⟨key h.1 qh,λx i=>⟨(h.2 x i).1,key (h.2 x i).2.1 qh,(h.2 x i).2.2⟩⟩
def Lw{n c:Nat}(h:n%8=c):(n:Int)%8=(c:Int):=qd
def uL:(prog.info? 53).map (·.size)=some 5:=qg
def np{P:Prop}(h:P:=by
 go_wp2_with fail
 go_meet;exact⟨wb.heap.size,true,cls,rfl,by omega,heap_alloc_new _ _,aJ,by simp,bX.o.C ((yX _ _).alloc (yu _) _)⟩
 ):P:=h
def TS{P:Prop}(h:P:=by have:=Co (i:=4) af.o.1 (.slice a9 (Ys.length+1) c9);simpa using this):P:=h
set_option maxHeartbeats 12800000 in
def ziz(g k:Nat)(w)(h:DQ w g)(a:k<10) :
  Ca 141 #[.pointer (some ⟨g,0,none⟩),.int .i64 (k:Int)] w λe w'=>∃x:GI,e=.returned (T0 x.nm x.W x.pv x.ev x.av)/\Pg k x.ru/\(-9223372036854775808<=x.W/\x.W<=9223372036854775807)/\IY w' w.heap.size x/\Rs g w w':=by
 have H:=Af h;have aC:=h.lt;clear h;have HA:=Er w;have dT:=Af (λo=>H.o.C (HA.o o));go_enter func141,ntmps141;go_wp2_with fail;refine(Fc g _ (dT.o _)).j ?_;rintro e w1 ⟨n1,ff,rfl,dj⟩;obtain⟨cR,R1⟩:=Ah (Dd dj (heap_alloc_new _ _) qd) ((Rs.of H.o (HA.o _)).c dj);have a2:w.heap.size<w1.heap.size:=Ak cR.o;clear dj HA dT H;go_wp2_with fail;refine(xZ k w1 a).j ?_;rintro e w2 ⟨rfl,b8⟩;have e9:=b8.size;obtain⟨dP,R2⟩:=Ah ((b8.block _ a2).c cR.o) (R1.o.C b8);clear b8 cR R1;go_upto_if 28 with fail;refine Be ?_;intro w3 bY d6;obtain⟨nm,dd⟩:∃nm,nm=(⟨#[114]⟩:ByteArray)++GG k:=⟨_,rfl⟩
 have dX:=Af (show nm=Ji k from by rw[dd];exact tI k a);have fF:=bY.size;have cH:=Af (show RB w3 w.heap.size _ _ _ _ _ from(bY.block _ qd).c dP.o);have Q3:=Af (show RB w3 w2.heap.size _ _ _ _ _ from d6);have R3:=Af (R2.o.C bY);clear bY d6 dP R2
 go_cut [] (λf=>∃sal,(-9223372036854775808<=sal/\sal<=9223372036854775807)/\RB f w2.heap.size (⟨#[114]⟩++GG k) sal Bp Bp Bp/\RB f w.heap.size ⟨#[]⟩ 0 Bp Bp Bp/\Rs g w f)
 case first=>
  obtain⟨⟨f0,f1,f2,f3,f4⟩,z,ef⟩:=Q3.o.G;have z1:=z 1;clear z;by_cases dR:n1=255
  .subst dR;go_wp2_with fail;go_meet;exact⟨-9223372036854775808,qd,by have:=Co (i:=1) Q3.o (.int .i64 (-9223372036854775808));simpa[RB] using this,(yE _ _ _ _ qf).c cH.o,R3.o.ac qd aC⟩
  .have eQ:¬(n1:Int)=255:=qd;go_wp2_with fail
   go_meet;exact⟨_,qd,Q3.o,cH.o,R3.o⟩
 case rest=>
  obtain⟨sal,dx,hq,bM,hR⟩:=hcut;obtain⟨Q4,dS,R4⟩:=AA hq bM hR;obtain⟨n0,eH⟩:∃n0,n0=1+n1/5%4:=⟨_,rfl⟩
  have dz:1+(n1:Int)/5%4=(n0:Int):=qd;have eW:1<=n0/\n0<=4:=qd;obtain⟨b,eb⟩:∃b,b=w2.heap.size:=⟨_,rfl⟩
  have eT:w.heap.size<b:=qd;have fg:=hR.1.rest.size;rw[<-eb]at Q4⊢;clear hq bM hR Q3 cH R3 eH eb;rw[<-dd]at Q4;clear dd;go_wp2_with fail;clear dz
  go_loopw [7,8,9] (λee kv nv wr=>∃(pos:Nat)(L:List MB)(pa:Option Addr)(pc:Nat)(ka:Option Addr)(kn kc:Nat)(K:List ByteArray),ee=.int .i64 (pos:Int)/\kv=.slice ka kn kc/\nv=.int .i64 ((n0:Int)-(L.length:Int))/\pos<=3/\pos<=L.length/\L.length<=6/\(pos=0->L.length<=5)/\RB wr b nm sal (.slice pa L.length pc) Bp Bp/\RB wr w.heap.size ⟨#[]⟩ 0 Bp Bp Bp/\PO wr w.heap.size pa pc L/\GH K wr w.heap.size ka kn kc/\kn<=3*L.length/\PK L K pos/\Rs g w wr) (λ_ _ nv _=>(intOf nv+10).toNat)
  case atStart=>exact⟨0,[],none,0,none,0,0,[],rfl,rfl,qe,qd,qe,qe,qe,Q4.o,dS.o,PO.nil _ _,⟨qd,[],⟨rfl,rfl⟩,qe,yN _ _ _ _⟩,qe,PK.nil,R4.o⟩
  case round=>
   obtain⟨pos,L,pa,pc,ka,kn,kc,K,rfl,rfl,rfl,dc,fG,en,ba,hq,bM,dN,bF,fI,dY,hR⟩:=hrel;have cW:=Af dY;clear dY;obtain⟨Q,b6,PL,KO,R⟩:=DE hq bM dN bF hR;have dO:=hR.1.rest.size;clear hq bM dN bF hR Q4 dS R4;by_cases fH:L.length<n0∨pos=0
   .go_upto_region 8 with fail
    go_cut [39] (λc f=>c=.bool true/\wr=f)
    case first=>
     by_cases fE:L.length<n0
     .have d4:(0:Int)<(n0:Int)-(L.length:Int):=qd;exact Zw
     .have d4:¬(0:Int)<(n0:Int)-(L.length:Int):=qd;have fi:((pos:Int)==0)=true:=by simp;omega
      go_wp2_with fail
      go_meet;exact⟨qe,rfl⟩
    case rest=>
     obtain⟨cv,di⟩:=hcut;subst cv;subst di;have dU:=Af R.o.2;go_wp2_with fail;refine(Fc g _ dU.o).j ?_;rintro e wa ⟨n2,fe,rfl,cT⟩;have RA:=Af cT;have fj:=cT.1.rest.size;clear cT dU;go_upto_region 11 with fail
     go_cut [11] (λpv f=>∃(pb:Nat)(neg:Bool)(cls:ByteArray),pv=.pointer (some ⟨pb,0,none⟩)/\wr.heap.size<=pb/\PB f pb neg cls Bp/\Uv cls/\(neg=false->pos≠3)/\Rs g wr f)
     case first=>
      by_cases fC:n2%4=3
      .go_wp2_with fail;refine(Xu n2 wa).j ?_;rintro e wb ⟨cls,aJ,rfl,ad⟩;have bX:=Af (RA.o.C ad);have eG:=ad.size;clear ad;exact np
      .have eV:((n2:Int)%4==3)=false:=by simp;omega
       go_wp2_with fail;refine(Xu n2 wa).j ?_;rintro e wb ⟨cls,aJ,rfl,ad⟩;have bX:=Af (RA.o.C ad);have eG:=ad.size;clear ad;cases aU:((pos:Int)==3)
       rotate_left
       .have HP:=Af aU;exact np
       .have HP:=Af aU;go_wp2_with fail;go_meet;exact⟨wb.heap.size,false,cls,rfl,qd,heap_alloc_new _ _,aJ,λ_ hh=>by subst hh;simp at aU,bX.o.C ((yX _ _).alloc (yu _) _)⟩
     case rest=>
      obtain⟨pb,neg,cls,rfl,an,bp,aJ,ag,ce⟩:=hcut;obtain⟨wp,rfl⟩:∃v,v=wc:=⟨wc,rfl⟩
      obtain⟨P1,RP,Q1⟩:=AA bp ce (show RB wp b nm sal (.slice pa L.length pc) Bp Bp from Dd ce Q.o qd);have fB:=ce.1.rest.size;clear bp ce RA;go_upto_region 12 with fail
      go_cut [61] (λc f=>c=.bool (((L.length:Int)==5)&&((pos:Int)==0))/\wp=f)
      case first=>
       obtain⟨⟨f0,f1,f2,f3,f4⟩,z,ef⟩:=Q1.o.G;clear z;cases h5:((L.length:Int)==5)
       .go_wp2_with fail
        go_meet;exact⟨by simp[h5],rfl⟩
       .cases d5:((pos:Int)==0)
        .go_wp2_with fail
         go_meet;exact⟨by simp[h5,d5],rfl⟩
        .go_wp2_with fail
         go_meet;exact⟨by simp[h5,d5],rfl⟩
      case rest=>
       obtain⟨cv,di⟩:=hcut;subst cv;subst di;go_upto_if 61 with fail
       go_cut [] (λf=>∃D,PB f pb D cls Bp/\(D=false->pos≠3)/\(L.length=5->pos=0->D=false)/\Rs g wr f)
       case first=>
        obtain⟨⟨p0,p1,p2⟩,z,e0⟩:=P1.o.G;have z0:=z 0;clear z;cases bZ:(((L.length:Int)==5)&&((pos:Int)==0))
        .go_wp2_with fail
         go_meet;exact⟨neg,P1.o,ag,λh1 h2=>by rw[h1,h2]at bZ;simp at bZ,RP.o⟩
        .go_wp2_with fail
         go_meet;refine⟨false,?_,λ_ h3=>by rw[h3]at bZ;simp at bZ,λ_ _=>rfl,RP.o.ac an qd⟩;have:=Co (i:=0) P1.o (.bool false);simpa[PB] using this
       case rest=>
        obtain⟨D,aF,dg,cK,cO⟩:=hcut;obtain⟨wq,rfl⟩:∃v,v=wc:=⟨wc,rfl⟩
        obtain⟨P2,RQ⟩:=Ah aF cO;have el:=cO.1.rest.size;have aX:g<wr.heap.size:=qd;obtain⟨bU,ks,ci,cj,bm⟩:=KO.o.rs RQ.o aC;obtain⟨cM,cy,dL⟩:=AA (tS bm) ci cj;clear aF cO bm ci cj P1 RP Q1 ag;go_upto_region 16 with(first|(at_builtin;refine CN qi (.tmp 63) (.tmp 64) 185 qi wq.heap.size 9 _ 1 16 underlying185 jW qi qd _ 0 [] qi (yN _ _ _ _) ka kn kc qi (ks.map Value.string) (by simp[cy.o.2]) cM.o.1 cM.o.2 (zl ks) qj qd (yu _) ?_;intro a3 c3 w3 dZ b4 et;simp only[Yc])|fail);obtain⟨RH,dD,P3⟩:=AA (RQ.o.grown b4.o (λk a=>by simp[Value.ownBlock]at a) aX) (show GH K w3 wr.heap.size a3 kn c3 from⟨bU,ks,cy.o,dL.o,by have:=dZ.o;rw[Yc,yY]at this;exact CA this el⟩) (show PB w3 pb D cls Bp from(b4.o.block pb (Ak P2.o) (by simp[Value.ownBlock])).c P2.o);have e6:=b4.o.size;clear dZ b4 et cM cy dL P2 RQ
        go_cut [13] (λmv f=>∃m0:Nat,m0<=3/\mv=.int .i64 (m0:Int)/\Below w3.heap.size w3 f)
        case first=>
         have h6:n2/12%6=0∨n2/12%6=1∨n2/12%6=2∨n2/12%6=3∨n2/12%6=4∨n2/12%6=5:=qd;rcases h6 with h6|h6|h6|h6|h6|h6
         all_goals
          go_wp2_with fail
          go_meet
         .exact⟨1,qd,rfl,(yX _ _).alloc (yu _) _⟩
         .exact⟨2,qd,rfl,(yX _ _).alloc (yu _) _⟩
         .exact⟨2,qd,rfl,(yX _ _).alloc (yu _) _⟩
         .exact⟨1,qd,rfl,(yX _ _).alloc (yu _) _⟩
         .exact⟨0,qd,rfl,(yX _ _).alloc (yu _) _⟩
         .exact⟨3,qd,rfl,(yX _ _).alloc (yu _) _⟩
        case rest=>
         obtain⟨m0,bP,rfl,bC⟩:=hcut;obtain⟨w4,rfl⟩:∃v,v=wc:=⟨wc,rfl⟩
         obtain⟨RI,SI,PI⟩:=AA (RH.o.C bC) (show GH K w4 wr.heap.size a3 kn c3 from by obtain⟨U,Y,q3,q4,q5⟩:=dD.o;exact⟨U,Y,q3,q4,AF q5 bC⟩) (show PB w4 pb D cls Bp from(bC.block pb (Ak P3.o)).c P3.o);have e7:=bC.size;clear bC RH dD P3;obtain⟨wR,rfl⟩:∃v,v=wr:=⟨wr,rfl⟩
         go_wp2_with fail
         go_loopw [12,13] (λhv mv wr=>∃(j:Nat)(ha:Option Addr)(hn hc:Nat)(ta:Option Addr)(tc:Nat)(ts:List Tm)(Hh:List ByteArray),mv=.int .i64 (j:Int)/\hv=.slice ha hn hc/\ts.length+j=m0/\GH Hh wr wR.heap.size ha hn hc/\hn<=kn+ts.length/\Cq ts K=some Hh/\PB wr pb D cls (.slice ta ts.length tc)/\wr.ownsRow wR.heap.size 189 6 (.slice ta ts.length tc) ts.length (ts.flatMap Fu)/\(∀t∈ts,NP t)/\Rs g wR wr) (λ_ mv _=>(intOf mv).toNat)
         case atStart=>exact⟨m0,a3,kn,c3,none,0,[],K,rfl,rfl,qe,SI.o,qe,rfl,PI.o,yN _ _ _ _,qe,RI.o⟩
         case round=>
          obtain⟨j,ha,hn,hc,ta,tc,ts,Hh,rfl,rfl,hj,bF,fz,dG,bp,dM,cm,cV⟩:=hrel;obtain⟨HJ,ec⟩:=Ah hj dG;clear dG;have eE:ts.length<=3:=qd;have eN:j<=3:=qd;obtain⟨bu,cZ,bW,cC,Ri⟩:=DE bF bp dM cm cV;have fh:=cV.1.rest.size;clear hj bF bp dM cm cV SI PI RI;by_cases cS:j=0
          .clear HJ;subst cS;obtain⟨RW,Qi,dV,bT,dB,dp,NX⟩:=Jj (R.o.c Ri.o) (show RB wr b nm sal (.slice pa L.length pc) Bp Bp from Dd Ri.o Q.o qd) (show RB wr w.heap.size ⟨#[]⟩ 0 Bp Bp Bp from Dd Ri.o b6.o qd) (PL.o.rs Ri.o aC) (KO.o.rs Ri.o aC) (show GH Hh wr w.heap.size ha hn hc from by obtain⟨U,Y,q3,q4,q5⟩:=bu.o;exact⟨U,Y,q3,q4,CA q5 dO⟩) (show Gb wr w.heap.size (⟨D,cls,ts⟩,.slice ta ts.length tc) from⟨⟨ta,tc,rfl⟩,CA bW.o dO,aJ,eE,cC.o⟩);obtain⟨⟨p0,p1,p2⟩,z,eU⟩:=cZ.o.G;clear z bu bW cC Q b6 PL KO R;go_upto_if 95 with fail
           go_cut [7,8] (λpv kv f=>∃(az:Nat)(bE:Option Addr)(a8 bA:Nat)(K':List ByteArray),pv=.int .i64 (az:Int)/\kv=.slice bE a8 bA/\(az=pos/\D=true∨az=pos+1/\D=false)/\GH K' wr w.heap.size bE a8 bA/\K'=(if D then K else Hh)/\a8<=3*L.length+3/\wr=f)
           case first=>
            cases a5:D
            .rw[a5]at p0;go_wp2_with fail;go_meet;exact⟨pos+1,ha,hn,hc,Hh,qm,rfl,.inr ⟨rfl,by first|rfl|exact a5⟩,dp.o,by simp[a5],qd,rfl⟩
            .rw[a5]at p0;go_wp2_with fail;go_meet;exact⟨pos,ka,kn,kc,K,rfl,rfl,.inl ⟨rfl,by first|rfl|exact a5⟩,dB.o,by simp[a5],qd,rfl⟩
           case rest=>
            obtain⟨az,bE,a8,bA,K',rfl,rfl,bj,aS,eM,eX,eJ⟩:=hcut;subst eJ;obtain⟨eC,dt⟩:=Ah aS bj;clear aS bj dB dp;obtain⟨⟨f0,f1,f2,f3,f4⟩,z,ez⟩:=Qi.o.G;clear z;have aO:=Er wr;have TY:=Af (λo k a=>AO (AF bT.o.1 (aO.o o)) (k:=k) a);go_wp2_with (first|(at_builtin;refine CN qi (.tmp 100) (.tmp 102) 49 qi w.heap.size 152 _ 3 48 underlying49 tU qi qd _ L.length _ qi (AF bT.o.1 (aO.o _)) (some ⟨_,0,none⟩) 1 1 qi (CW (⟨D,cls,ts⟩,.slice ta ts.length tc)) qi (λe=>qo) (Cv _ _ _ _ qe) (zoe _ rfl) qj qd qf ?_;intro a9 c9 r aE l bn;have Q9:=Af (show RB r b nm sal (.slice pa L.length pc) Bp Bp from Ef (((aO.o _).block _ ez).c Qi.o) l.o (TY.o _) qh);obtain⟨⟨k0,k1,k2,k3,k4⟩,z,ek⟩:=Q9.o.G;have z2:=z 2;clear z)|fail);go_roundw
            case rel=>
             have dk:GH K' r w.heap.size bE a8 bA:=by
              obtain⟨U,Y,q3,q4,q5⟩:=eC.o;exact⟨U,Y,q3,q4,Hv (AF q5 (aO.o _)) l.o (TY.o _) qh⟩
             have dv:PO r w.heap.size a9 c9 (L++[(⟨D,cls,ts⟩,.slice ta ts.length tc)]):=PO.snoc (bT.o.C (aO.o _)) (NX.o.C (aO.o _)) aE.o l.o;have d7:RB r w.heap.size ⟨#[]⟩ 0 Bp Bp Bp:=Ef (((aO.o _).block _ (Ak dV.o)).c dV.o) l.o (TY.o _) qh;have eA:Rs g w r:=(RW.o.C (aO.o _)).grown l.o (λk a=>(bT.o.1.lt k a).1) aC;have eh:az<=3/\az<=L.length+1/\(az=0->L.length+1<=5):=by
              rcases dt.o with⟨h1,h2⟩|⟨h1,h2⟩
              .refine⟨qd,qd,λh0=>?_⟩;have h5:=ba qd;by_cases ej:L.length=5
               .have:=cK ej qd;rw[h2]at this;cases this
               omega
              have:=dg h2;exact⟨qd,qd,λh0=>qd⟩
             refine⟨az,L++[(⟨D,cls,ts⟩,.slice ta ts.length tc)],a9,c9,bE,a8,bA,K',rfl,rfl,?_,eh.1,qf,qf,qf,?_,?_,?_,?_,qf,?_,eA.ac qd aC⟩
             .simp;omega
             .have:=Co (i:=2) Q9.o (.slice a9 (L.length+1) c9);simpa[RB] using this
             .exact(yE _ _ _ _ qf).c d7
             .exact dv.set Q9.o qh qh
             .obtain⟨U,Y,q3,q4,q5⟩:=dk;exact⟨U,Y,q3,q4,Hc q5 Q9.o qh⟩
             .exact cW.o.snoc ec.o dt.o eM
            case measure=>(simp[intOf];omega)
          have eD:(0:Int)<(j:Int):=qd;go_wp2_with fail;refine(zis Hh g ha hn hc wr Ri.o.2 (bu.o.on aX)).j ?_;rintro e w5 ⟨t,ht,rfl,a6⟩;obtain⟨du,dh,dK,R5⟩:=Bn (bu.o.rs a6 aX) (show PB w5 pb D cls (.slice ta ts.length tc) from Dd a6 cZ.o qd) (JJ bW.o a6 aX) (Ri.o.c a6);have eK:=a6.1.rest.size;rw[show Mm t=.agg #[.int .i64 t.u,.int .i64 t.op,.string t.A,.int .i64 t.val.u,.int .i64 t.val.num,.string t.val.J] from rfl];clear a6 bu cZ bW Ri;go_upto_if 81 with fail;refine Be ?_;intro w6 bf al;obtain⟨cD,cd,de,R6,bB⟩:=DE (show GH Hh w6 wR.heap.size ha hn hc from by obtain⟨U,Y,q3,q4,q5⟩:=du.o;exact⟨U,Y,q3,q4,AF q5 bf⟩) (show PB w6 pb D cls (.slice ta ts.length tc) from(bf.block pb (Ak dh.o)).c dh.o) (AF dK.o bf) (R5.o.C bf) al;have fA:=bf.size;clear bf al du dh dK R5
          go_cut [12] (λhv f=>∃(bG:Option Addr)(bh bO:Nat)(H':List ByteArray),hv=.slice bG bh bO/\GH H' f wR.heap.size bG bh bO/\bh<=kn+ts.length+1/\H'=(if t.u==2 then Hh++[t.A] else Hh)/\PB f pb D cls (.slice ta ts.length tc)/\f.ownsRow wR.heap.size 189 6 (.slice ta ts.length tc) ts.length (ts.flatMap Fu)/\f.heap[w5.heap.size]?=some (.cells #[.int .i64 t.u,.int .i64 t.op,.string t.A,.int .i64 t.val.u,.int .i64 t.val.num,.string t.val.J] 189 (0,0))/\Rs g wR f)
          case first=>
           obtain⟨t0,t1,t2,t3,t4,t5⟩:=DI bB.o;cases cB:(t.u==2)
           .go_wp2_with fail
            go_meet;exact⟨ha,hn,hc,Hh,rfl,cD.o,qd,by simp[cB],cd.o,de.o,bB.o,R6.o⟩
           .obtain⟨U,hs,Y,q3,q4⟩:=cD.o;obtain⟨cu,d8,eF⟩:=AA q4 Y q3;have eg:hn<=1000:=U;have bg:=Er w6;have ed:w5.heap.size<w6.heap.size:=Ak bB.o;clear U Y q3 q4;go_wp2_with (first|(at_builtin;refine CN qi (.tmp 82) (.tmp 85) 185 qi wR.heap.size 9 _ 1 16 underlying185 jW qi qd _ hn _ qi (AF cu.o (bg.o _)) (some ⟨_,0,none⟩) 1 1 qi ([.string t.A]) qi (λe=>qo) (Cv _ _ _ _ qe) qL qj qd qf ?_;intro a7 c7 w7 bb ae be)|fail);go_meet;have ty:=λk a=>AO (AF cu.o (bg.o (.cells #[.string t.A] 9))) (k:=k) a;exact⟨a7,hn+1,c7,hs++[t.A],rfl,⟨qd,hs++[t.A],⟨rfl,by simp[d8.o.2]⟩,by intro x hx;rcases yn.1 hx with hx|hx;exact eF.o x hx;simp at hx;exact hx▸tL ht cB,by simpa using bb.o⟩,qd,by rw[d8.o.1];simp[cB],Ef (((bg.o _).block _ (Ak cd.o)).c cd.o) ae.o ty qh,Hv (AF de.o (bg.o _)) ae.o ty qh,Ef (((bg.o _).block _ ed).c bB.o) ae.o ty qh,(R6.o.C (bg.o _)).grown ae.o (λk a=>(cu.o.lt k a).1) aX⟩
          case rest=>
           obtain⟨bG,bh,bO,H',rfl,aS,eR,ep,aF,cq,bi,cz⟩:=hcut;obtain⟨w8,rfl⟩:∃v,v=wc:=⟨wc,rfl⟩
           obtain⟨ei,eO,cF,R8⟩:=Bn aS aF cq cz;have eS:w5.heap.size<w8.heap.size:=Ak bi;have dm:pb<w8.heap.size:=Ak aF;have fd:=cz.1.rest.size;obtain⟨t0,t1,t2,t3,t4,t5⟩:=DI bi;obtain⟨⟨p0,p1,p2⟩,z,_⟩:=aF.G;have bL:=Er w8;have TY:=Af (λo k a=>AO (AF cF.o (bL.o o)) (k:=k) a);clear aS aF cq bi cz z cD cd de R6 bB;go_wp2_with (first|(at_builtin;refine CN qi (.tmp 88) (.tmp 90) 150 qi wR.heap.size 189 _ 6 64 underlying150 tz qi qd _ ts.length _ qi (AF cF.o (bL.o _)) (some ⟨_,0,none⟩) 1 1 qi (Fu t) qi (λe=>qo) (Cv _ _ _ _ qe) (OS t) qj qd qf ?_;intro a9 c9 r aE l bn;have b5:=Af (show PB r pb D cls (.slice ta ts.length tc) from Ef (((bL.o _).block _ dm).c eO.o) l.o (TY.o _) qh);obtain⟨⟨k0,k1,k2⟩,z,ek⟩:=b5.o.G;have z2:=z 2;clear z)|fail);go_roundw
           case rel=>
            have dk:GH H' r wR.heap.size bG bh bO:=by
             obtain⟨U,Y,q3,q4,q5⟩:=ei.o;exact⟨U,Y,q3,q4,Hv (AF q5 (bL.o _)) l.o (TY.o _) qh⟩
            refine⟨j-1,bG,bh,bO,a9,c9,ts++[t],H',?_,rfl,O4,?_,qf,by rw[ep];exact mr ec.o ht.2,?_,?_,?_,?_⟩
            .exact Nh
            .obtain⟨U,Y,q3,q4,q5⟩:=dk;exact⟨U,Y,q3,q4,Hc q5 b5.o qh⟩
            .have:=Co (i:=2) b5.o (.slice a9 (ts.length+1) c9);simpa[PB] using this
            .have:=Hc (o:=2) (x:=.slice a9 (ts.length+1) c9) aE.o b5.o qh;simpa using this
            .intro x hx;rcases yn.1 hx with hx|hx
             .exact cC.o x hx
             simp at hx;exact hx▸ht.1
            .exact((R8.o.C (bL.o _)).grown l.o (λk a=>(cF.o.lt k a).1) aX).ac an aX
           case measure=>(simp[intOf];omega)
   have fw:¬(0:Int)<(n0:Int)-(L.length:Int):=qd;have fu:((pos:Int)==0)=false:=by simp;omega
   have cP:1<=pos:=qd;have fy:1<=L.length:=qd;obtain⟨wz,rfl⟩:∃v,v=wr:=⟨wr,rfl⟩
   go_wp2_with fail;refine(Fc g wz R.o.2).j ?_;rintro e wL ⟨n3,fq,rfl,aT⟩;obtain⟨QL,dF,eI⟩:=AA (show RB wL b nm sal (.slice pa L.length pc) Bp Bp from Dd aT Q.o qd) (show RB wL w.heap.size ⟨#[]⟩ 0 Bp Bp Bp from Dd aT b6.o qd) (PL.o.rs aT aC);obtain⟨cE,RL⟩:=Ah ((KO.o.rs aT aC).q (g:=g) (B:=wL.heap.size) aC (show wL.heap[b]?=some (.cells _ 53 _) from QL.o) qh (yu _)) (R.o.c aT);have fv:=aT.1.rest.size;have ar:g<wL.heap.size:=qd;have aK:g<b:=qd;have a0:b<wL.heap.size:=Ak QL.o;have eP:=Af (show∀s∈K,Aq s.data.toList=true fromλs hs=>by obtain⟨_,ks,⟨rfl,_⟩,q,_⟩:=KO.o;exact(q s hs).2);clear aT Q b6 PL KO R;obtain⟨n5,eL⟩:∃n5,n5=1+n3%3:=⟨_,rfl⟩
   have ea:1+(n3:Int)%3=(n5:Int):=qd;have eZ:n5<=3:=qd;clear eL;go_wp2_with fail;clear ea
   go_loopw [15] (λnv wr=>∃(j:Nat)(Ys:List N6),nv=.int .i64 (j:Int)/\Ys.length+j=n5/\AQ K pos wr b wL.heap.size (.string nm) (.int .i64 sal) (.slice pa L.length pc) Ys/\Qs g b none wL wr) (λnv _=>(intOf nv).toNat)
   case atStart=>exact⟨n5,[],rfl,qe,⟨none,0,none,0,[],0,⟨QL.o,yN _ _ _ _,λx hx=>qB⟩,⟨qe,qe,qe,rfl⟩,Eh.nil _ _⟩,⟨yX _ _,λ_ _ _ _ _=>rfl,RL.o.2⟩⟩
   case round=>
    obtain⟨j,Ys,rfl,hj,⟨N,I,a1,c1,aI,m,dC,⟨bV,bS,bP,dW⟩,dA⟩,df⟩:=hrel;have bl:=Af dW;clear dW;have HJ:=Af hj;have eN:j<=3:=qd;have fl:Ys.length<=3:=qd;obtain⟨bH,bt,bc⟩:=AA dC dA df;have eY:=df.rest.size;clear hj dC dA df;by_cases cS:j=0
    .clear HJ;subst cS;obtain⟨ds,dw,Rz⟩:=AA (show RB wr w.heap.size ⟨#[]⟩ 0 Bp Bp Bp from(bc.o.block _ (Ak dF.o) qd qd qe).c dF.o) (eI.o.qs bc.o aC QL.o rfl) (Rs.qs bc.o w RL.o qd (λk a=>by cases a));obtain⟨⟨q0,U,Y,q3,q4⟩,z,fm⟩:=(show RB wr b nm sal (.slice pa L.length pc) (.slice a1 aI.length c1) (.slice N Ys.length I) from bH.o.1).G;clear z;go_wp2_with (first|(refine C7 qi 53 (.tmp 4) (.tmp 162) qi w.heap.size [.string nm,.int .i64 sal,.slice pa L.length pc,.slice a1 aI.length c1,.slice N Ys.length I] qi qi _ 53 ds.o qi uL (by intro u hu;simp at hu;rcases hu with rfl|rfl|rfl|rfl|rfl<;>rfl) ?_;intro wy eo d9)|fail);obtain⟨⟨f0,f1,f2,f3,f4⟩,z,fk⟩:=(show RB wy w.heap.size nm sal (.slice pa L.length pc) (.slice a1 aI.length c1) (.slice N Ys.length I) from eo.o).G;refine bodyPost_ret (v:=T0 nm sal (.slice pa L.length pc) (.slice a1 aI.length c1) (.slice N Ys.length I)) (by simp[results,results141,go_sem,f0,f1,f2,f3,f4,T0]) rfl ⟨⟨nm,sal,.slice pa L.length pc,.slice a1 aI.length c1,.slice N Ys.length I,L,aI,Ys⟩,rfl,⟨dX.o,K,pos,⟨?_,by simpa[GI.ru] using en,?_,cW.o.1,?_,cW.o.2,⟨cP,dc⟩,by simp[GI.ru];omega,by simp only[GI.ru];omega,bl.o⟩⟩,dx,?_,Rz.o.H d9.o (yu _) aC⟩
     .show Aq nm.data.toList=true;rw[dX.o];exact vT k a
     .intro p hp;obtain⟨x,hx,rfl⟩:=yz.1 hp;have hX:=dw.o.2 x hx;simp only[C_,yi,decide_eq_true_eq,Yy];exact⟨hX.2.2.1.2,by have:=hX.2.2.2.1;omega,λt ht=>(hX.2.2.2.2 t ht).2.2⟩
     .exact eP.o
     have sm:Bc Nn w.heap.size wr wy:=Bc.kept (λk a _=>d9.o.block k a) ds.o qh;have ao:Eh wr w.heap.size N I Ys:=⟨CA bt.o.1 qd,λy hy=>⟨(bt.o.2 y hy).1,CA (bt.o.2 y hy).2 qd⟩⟩
     exact IY.same ⟨⟨pa,pc,rfl,dw.o⟩,⟨a1,c1,rfl,CA bH.o.2.1 qd,bH.o.2.2⟩,N,I,rfl,ao⟩ sm
    have eD:(0:Int)<(j:Int):=qd;go_wp2_with fail;refine(Fc g wr bc.o.bc).j ?_;rintro e w4 ⟨n4,eu,rfl,bw⟩;obtain⟨cQ,cL,dQ⟩:=AA (bH.o.rs bw qd ar) (bt.o.rs bw ar) (bc.o.c (Qs.of (o:=none) bw) (Fs.refl _ _));have er:=bw.1.rest.size;clear bw bH bt bc;go_upto_region 32 with fail;refine Be ?_;intro w5 bz bI;obtain⟨M,bd⟩:∃M,M=w4.heap.size:=⟨_,rfl⟩
    rw[<-bd]at bI⊢;have au:=Af (show AB w5 M _ _ _ _ from bI);obtain⟨aP,aR,aM⟩:=AA (cQ.o.C bz) (cL.o.C bz) (dQ.o.C bz);obtain⟨dy,AN,EN⟩:=AA (cE.o.qs aM.o (λk a=>by cases a)) (λk(a:(Value.slice N Ys.length I).ownBlock=some k)=>(show k≠M by have:=(cL.o.1.lt k a).2;omega)) (λ(e:(Value.slice a1 aI.length c1).ownBlock=some M)=>by have:=(cQ.o.2.1.lt M e).2;omega:(Value.slice a1 aI.length c1).ownBlock≠some M);have aG:wL.heap.size<=M:=qd;have aw:M≠b:=qd;have eK:=bz.size;have ew:M<w5.heap.size:=Ak au.o;obtain⟨⟨b0,b1,b2,b3⟩,z,_⟩:=au.o.G;have z0:=z 0;have z1:=z 1;have z2:=z 2;have z3:=z 3;have cr:¬(pos:Int)=0:=qd;have dI:=Af (show 1<=wrap64 (1+(n4:Int)/8%(pos:Int))/\wrap64 (1+(n4:Int)/8%(pos:Int))<=(pos:Int) from by have h1:=Int.emod_nonneg ((n4:Int)/8) cr;have h2:=Int.emod_lt_of_pos ((n4:Int)/8) (show(0:Int)<(pos:Int) by omega);unfold wrap64;omega);clear bz bI bd cQ cL dQ z;have n:(n4%8=0∨n4%8=1∨n4%8=2)∨(n4%8=3∨n4%8=4)∨(n4%8=5∨n4%8=6)∨n4%8=7:=qd;have b9:=Af eu;rcases n with n|n|n|n
    .clear b9;rcases n with n|n|n
     all_goals
      have hI:=Lw n;clear n;have dJ:=Af (show((n4:Int)/8)=((n4/8:Nat):Int) by omega);go_upto_region 38 with fail;refine jw au.o ?_;intro w6 cf b7;obtain⟨dq,dE,dH,cN⟩:=Bn (aP.o.H b7 aw EN.o) (aR.o.H b7 AN.o au.o) (aM.o.H b7 aG ar) cf;clear b7 cf b0 b1 b2 b3 z0 z1 z2 z3 au aP aR aM dy;go_wp2_with fail;rw[dJ.o];refine(Xu (n4/8) w6).j ?_;rintro e eB ⟨cl,ap,rfl,bD⟩;obtain⟨ch,cg,cn⟩:=AA (dq.o.C bD) (dE.o.C bD) (dH.o.C bD);have a4:=Af (show AB eB M _ _ _ _ from(bD.block M (Ak cN.o)).c cN.o);obtain⟨⟨b0,b1,b2,b3⟩,z,e8⟩:=a4.o.G;have z2:=z 2;clear z bD dq dE dH cN dJ;go_upto_region 39 with fail;refine zH a4.o ?_;intro f aj O;obtain⟨aL,br,ay,aY⟩:=Bn (ch.o.H O aw EN.o) (cg.o.H O AN.o a4.o) (cn.o.H O aG ar) aj;have bN:=Af (cE.o.qs ay.o (λk a=>by cases a));clear O aj b0 b1 b2 b3 z2 a4 ch cg cn;go_wp2_with fail;refine(nN K m g b wL.heap.size (.string nm) (.int .i64 sal) (.slice pa L.length pc) (.slice N Ys.length I) ka kn kc aK a0 a1 c1 aI f ay.o.bc aL.o bN.o ay.o.rest.size bV bS qd).j ?_;rintro e w7 ⟨ao,co,Z,a7,c7,cJ,ey,rfl,aQ,aD,⟨aB,bK,da,bQ,bR⟩,aN,c8⟩;obtain⟨ax,bJ,bv⟩:=AA (show AB w7 M (.int .i64 1) (.int .i64 0) (.string cl) (.slice none 0 0) from(aN.block M (Ak aY.o) qd aw EN.o).c aY.o) aD (CA aQ (base':=wL.heap.size) (by have:=ay.o.rest.size;omega));clear aQ;obtain⟨bo,aV⟩:=Ah (br.o.qs aN ar a0 (λk a=>AO aL.o.2.1 a)) (ay.o.c aN (.inr λk a=>(aL.o.2.1.lt k a).1));have cU:(Value.slice a7 cJ.length c7).ownBlock≠some M:=λe=>by
       obtain⟨cc,cA⟩:=AO aD.2.1 e;exact Cf cA ax.o qh
      have em:=aV.o.rest.size;obtain⟨⟨g0,g1,g2,g3⟩,z,dr⟩:=ax.o.G;have dl:=z 3;clear z aD aN c8 aY aL br ay bN;go_upto_region 49 with fail;refine iz ax.o ?_;intro wt aj O;obtain⟨cY,aq,E,aH,aZ⟩:=DE (Le bv.o (T:=[3]) (Bc.kept (λk a _=>O.block k a) ax.o qh) qh) (bJ.o.H O aw cU) (bo.o.H O AN.o ax.o) (aV.o.H O aG ar) aj;clear O aj g0 g1 g2 g3 dl ax bJ bo aV bv;obtain⟨⟨b0,b1,b2,b3⟩,z,bd⟩:=aZ.o.G;clear z;have bk:b<wt.heap.size:=Ak aq.o.1;have cX:wt.cell? ⟨b,4,none⟩=some (.slice N Ys.length I):=Ul;have d:=Er wt;have aW:=Af (λo k a=>AO (E.o.C (d.o o)).1 (k:=k) a);have cw:=aH.o.rest.size;go_wp2_with (first|(at_builtin;refine CN qi (.tmp 157) (.tmp 159) 51 qi wL.heap.size 227 _ 4 56 underlying51 Ss qi qd _ Ys.length _ qi ((E.o.C (d.o _)).1) (some ⟨_,0,none⟩) 1 1 qi ([(.int .i64 1),(.int .i64 0),(.string cl),(.slice ao Z.length co)]) qi (λe=>qo) (Cv _ _ _ _ qe) qr qj qd qf ?_;intro a9 c9 r aE l bn;have af:=Af (QB.grown (t:=227) (aq.o.C (d.o _)) l.o (aW.o _) qh qh);have cI:r.cell? ⟨b,4,none⟩=some (.slice N Ys.length I):=Uk;have cG:r.frozen? ⟨b,4,none⟩=false:=Um)|fail);go_roundw
      case rel=>
       have aA:=Eh.snoc (x:=((⟨1,0,cl,Z⟩:Ac),(.slice ao Z.length co))) (E.o.C (d.o _)) (show N9 _ _ ((⟨1,0,cl,Z⟩:Ac),(.slice ao Z.length co)) from⟨⟨_,_,rfl⟩,AF cY.o (d.o _)⟩) aE.o l.o;refine⟨j-1,Ys++[((⟨1,0,cl,Z⟩:Ac),(.slice ao Z.length co))],?_,O4,⟨a9,c9,a7,c7,_,_,⟨?_,Hc af.o.2.1 af.o.1 qh,af.o.2.2⟩,(by have:=SQ (v:=(.slice ao Z.length co)) bl.o (ra ap da) bK (aB▸bQ) (aB▸bR) qd bP;rw[<-aB]at this;exact this),aA.same (T:=[227,3]) (Bc.kept (λk a _=>yE _ _ _ _ a) af.o.1 qh) qh qh⟩,((aH.o.C (d.o _)).grown l.o (λk a=>(E.o.1.lt k a).1) ar).cm aK⟩
       .exact Nh
       .exact TS
      case measure=>(simp[intOf];omega)
    .clear b9;rcases n with n|n
     all_goals
      have hI:=Lw n;clear n;go_upto_region 49 with fail;refine kS au.o dI.o ?_;intro wt z hz aj O;obtain⟨aq,E,aH,aZ⟩:=Bn (aP.o.H O aw EN.o) (aR.o.H O AN.o au.o) (aM.o.H O aG ar) aj;clear O aj b0 b1 b2 b3 z0 z1 z2 z3 au aP aR aM;obtain⟨⟨b0,b1,b2,b3⟩,z,bd⟩:=aZ.o.G;clear z;have bk:b<wt.heap.size:=Ak aq.o.1;have cX:wt.cell? ⟨b,4,none⟩=some (.slice N Ys.length I):=Ul;have d:=Er wt;have aW:=Af (λo k a=>AO (E.o.C (d.o o)).1 (k:=k) a);have cw:=aH.o.rest.size;go_wp2_with (first|(at_builtin;refine CN qi (.tmp 157) (.tmp 159) 51 qi wL.heap.size 227 _ 4 56 underlying51 Ss qi qd _ Ys.length _ qi ((E.o.C (d.o _)).1) (some ⟨_,0,none⟩) 1 1 qi ([(.int .i64 2),(.int .i64 z),(.string ⟨#[]⟩),(.slice none 0 0)]) qi (λe=>qo) (Cv _ _ _ _ qe) qr qj qd qf ?_;intro a9 c9 r aE l bn;have af:=Af (QB.grown (t:=227) (aq.o.C (d.o _)) l.o (aW.o _) qh qh);have cI:r.cell? ⟨b,4,none⟩=some (.slice N Ys.length I):=Uk;have cG:r.frozen? ⟨b,4,none⟩=false:=Um)|fail);go_roundw
      case rel=>
       have aA:=Eh.snoc (x:=((⟨2,z,⟨#[]⟩,[]⟩:Ac),(.slice none 0 0))) (E.o.C (d.o _)) (show N9 _ _ ((⟨2,z,⟨#[]⟩,[]⟩:Ac),(.slice none 0 0)) from⟨⟨_,_,rfl⟩,AF (yN _ _ _ _) (d.o _)⟩) aE.o l.o;refine⟨j-1,Ys++[((⟨2,z,⟨#[]⟩,[]⟩:Ac),(.slice none 0 0))],?_,O4,⟨a9,c9,a1,c1,_,_,⟨?_,Hc af.o.2.1 af.o.1 qh,af.o.2.2⟩,(by have:=SQ (v:=(.slice none 0 0)) (m':=m) bl.o (tT hz dc) (ys:=[]) rfl (by simpa using bV) (by simpa using bS) qd bP;simpa using this),aA.same (T:=[227,3]) (Bc.kept (λk a _=>yE _ _ _ _ a) af.o.1 qh) qh qh⟩,((aH.o.C (d.o _)).grown l.o (λk a=>(E.o.1.lt k a).1) ar).cm aK⟩
       .exact Nh
       .exact TS
      case measure=>(simp[intOf];omega)
    .clear b9;rcases n with n|n
     all_goals
      have hI:=Lw n;clear n;go_upto_region 48 with fail;refine kS au.o dI.o ?_;intro f z hz aj O;obtain⟨aL,br,ay,aY⟩:=Bn (aP.o.H O aw EN.o) (aR.o.H O AN.o au.o) (aM.o.H O aG ar) aj;have bN:=Af (cE.o.qs ay.o (λk a=>by cases a));clear O aj b0 b1 b2 b3 z0 z1 z2 z3 au aP aR aM dy;go_wp2_with fail;refine(nN K m g b wL.heap.size (.string nm) (.int .i64 sal) (.slice pa L.length pc) (.slice N Ys.length I) ka kn kc aK a0 a1 c1 aI f ay.o.bc aL.o bN.o ay.o.rest.size bV bS qd).j ?_;rintro e w7 ⟨ao,co,Z,a7,c7,cJ,ey,rfl,aQ,aD,⟨aB,bK,da,bQ,bR⟩,aN,c8⟩;obtain⟨ax,bJ,bv⟩:=AA (show AB w7 M (.int .i64 3) (.int .i64 z) (.string ⟨#[]⟩) (.slice none 0 0) from(aN.block M (Ak aY.o) qd aw EN.o).c aY.o) aD (CA aQ (base':=wL.heap.size) (by have:=ay.o.rest.size;omega));clear aQ;obtain⟨bo,aV⟩:=Ah (br.o.qs aN ar a0 (λk a=>AO aL.o.2.1 a)) (ay.o.c aN (.inr λk a=>(aL.o.2.1.lt k a).1));have cU:(Value.slice a7 cJ.length c7).ownBlock≠some M:=λe=>by
       obtain⟨cc,cA⟩:=AO aD.2.1 e;exact Cf cA ax.o qh
      have em:=aV.o.rest.size;obtain⟨⟨g0,g1,g2,g3⟩,z,dr⟩:=ax.o.G;have dl:=z 3;clear z aD aN c8 aY aL br ay bN;go_upto_region 49 with fail;refine iz ax.o ?_;intro wt aj O;obtain⟨cY,aq,E,aH,aZ⟩:=DE (Le bv.o (T:=[3]) (Bc.kept (λk a _=>O.block k a) ax.o qh) qh) (bJ.o.H O aw cU) (bo.o.H O AN.o ax.o) (aV.o.H O aG ar) aj;clear O aj g0 g1 g2 g3 dl ax bJ bo aV bv;obtain⟨⟨b0,b1,b2,b3⟩,z,bd⟩:=aZ.o.G;clear z;have bk:b<wt.heap.size:=Ak aq.o.1;have cX:wt.cell? ⟨b,4,none⟩=some (.slice N Ys.length I):=Ul;have d:=Er wt;have aW:=Af (λo k a=>AO (E.o.C (d.o o)).1 (k:=k) a);have cw:=aH.o.rest.size;go_wp2_with (first|(at_builtin;refine CN qi (.tmp 157) (.tmp 159) 51 qi wL.heap.size 227 _ 4 56 underlying51 Ss qi qd _ Ys.length _ qi ((E.o.C (d.o _)).1) (some ⟨_,0,none⟩) 1 1 qi ([(.int .i64 3),(.int .i64 z),(.string ⟨#[]⟩),(.slice ao Z.length co)]) qi (λe=>qo) (Cv _ _ _ _ qe) qr qj qd qf ?_;intro a9 c9 r aE l bn;have af:=Af (QB.grown (t:=227) (aq.o.C (d.o _)) l.o (aW.o _) qh qh);have cI:r.cell? ⟨b,4,none⟩=some (.slice N Ys.length I):=Uk;have cG:r.frozen? ⟨b,4,none⟩=false:=Um)|fail);go_roundw
      case rel=>
       have aA:=Eh.snoc (x:=((⟨3,z,⟨#[]⟩,Z⟩:Ac),(.slice ao Z.length co))) (E.o.C (d.o _)) (show N9 _ _ ((⟨3,z,⟨#[]⟩,Z⟩:Ac),(.slice ao Z.length co)) from⟨⟨_,_,rfl⟩,AF cY.o (d.o _)⟩) aE.o l.o;refine⟨j-1,Ys++[((⟨3,z,⟨#[]⟩,Z⟩:Ac),(.slice ao Z.length co))],?_,O4,⟨a9,c9,a7,c7,_,_,⟨?_,Hc af.o.2.1 af.o.1 qh,af.o.2.2⟩,(by have:=SQ (v:=(.slice ao Z.length co)) bl.o (s8 hz dc da) bK (aB▸bQ) (aB▸bR) qd bP;rw[<-aB]at this;exact this),aA.same (T:=[227,3]) (Bc.kept (λk a _=>yE _ _ _ _ a) af.o.1 qh) qh qh⟩,((aH.o.C (d.o _)).grown l.o (λk a=>(E.o.1.lt k a).1) ar).cm aK⟩
       .exact Nh
       .exact TS
      case measure=>(simp[intOf];omega)
    clear b9;have hI:=Lw n;clear n;go_upto_region 49 with fail;refine jw au.o ?_;intro wt aj O;obtain⟨aq,E,aH,aZ⟩:=Bn (aP.o.H O aw EN.o) (aR.o.H O AN.o au.o) (aM.o.H O aG ar) aj;clear O aj b0 b1 b2 b3 z0 z1 z2 z3 au aP aR aM;obtain⟨⟨b0,b1,b2,b3⟩,z,bd⟩:=aZ.o.G;clear z;have bk:b<wt.heap.size:=Ak aq.o.1;have cX:wt.cell? ⟨b,4,none⟩=some (.slice N Ys.length I):=Ul;have d:=Er wt;have aW:=Af (λo k a=>AO (E.o.C (d.o o)).1 (k:=k) a);have cw:=aH.o.rest.size;go_wp2_with (first|(at_builtin;refine CN qi (.tmp 157) (.tmp 159) 51 qi wL.heap.size 227 _ 4 56 underlying51 Ss qi qd _ Ys.length _ qi ((E.o.C (d.o _)).1) (some ⟨_,0,none⟩) 1 1 qi ([(.int .i64 4),(.int .i64 0),(.string ⟨#[]⟩),(.slice none 0 0)]) qi (λe=>qo) (Cv _ _ _ _ qe) qr qj qd qf ?_;intro a9 c9 r aE l bn;have af:=Af (QB.grown (t:=227) (aq.o.C (d.o _)) l.o (aW.o _) qh qh);have cI:r.cell? ⟨b,4,none⟩=some (.slice N Ys.length I):=Uk;have cG:r.frozen? ⟨b,4,none⟩=false:=Um)|fail);go_roundw
    case rel=>
     have aA:=Eh.snoc (x:=((⟨4,0,⟨#[]⟩,[]⟩:Ac),(.slice none 0 0))) (E.o.C (d.o _)) (show N9 _ _ ((⟨4,0,⟨#[]⟩,[]⟩:Ac),(.slice none 0 0)) from⟨⟨_,_,rfl⟩,AF (yN _ _ _ _) (d.o _)⟩) aE.o l.o;refine⟨j-1,Ys++[((⟨4,0,⟨#[]⟩,[]⟩:Ac),(.slice none 0 0))],?_,O4,⟨a9,c9,a1,c1,_,_,⟨?_,Hc af.o.2.1 af.o.1 qh,af.o.2.2⟩,(by have:=SQ (v:=(.slice none 0 0)) (m':=m) bl.o (uF pos) (ys:=[]) rfl (by simpa using bV) (by simpa using bS) qd bP;simpa using this),aA.same (T:=[227,3]) (Bc.kept (λk a _=>yE _ _ _ _ a) af.o.1 qh) qh qh⟩,((aH.o.C (d.o _)).grown l.o (λk a=>(E.o.1.lt k a).1) ar).cm aK⟩
     .exact Nh
     .exact TS
    case measure=>(simp[intOf];omega)
end Go.Proofs.YtikojfajahnhgaaGreat
