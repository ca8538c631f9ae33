import Derived.Test.YtikojfajahnhgaaGreatKbx
import Derived.Test.YtikojfajahnhgaaGreatKbt
set_option linter.all false
set_option maxRecDepth 100000
namespace Go.Proofs.YtikojfajahnhgaaGreat
attribute [local simp] At I6 Pn mzI
attribute [local go_sem] At I6 Pn
open Go.RowKit Go.Proofs.Tryz
attribute [local go_sem ↓] wp_at_zero wp_at_succ
def Ml(x:MC):Wo:=⟨x.u,x.tag,x.z,x.vs⟩
structure OZ(w:World) (base:Nat) (a:Option Addr) (c:Nat) (N:List MC):Prop where
 row:w.ownsRow base 40 4 (.slice a N.length c) N.length (N.flatMap CX)
 P:∀x∈N,(∃sa sc,x.sv=.slice sa x.vs.length sc)/\w.ownsRow base 187 3 x.sv x.vs.length (x.vs.flatMap V.cells)/\Ir (Ml x)
def OO.oz{w base a c N}(h:OO w base a c N):OZ w base a c N:=⟨h.1,λx f=>by
 obtain⟨e,b,j,d,g,i,k⟩:=h.2 x f;exact⟨e,b,S1 Q6 Q6,yh g qh,Q6,d⟩⟩
def OZ.C{w w' base a c N}(h:OZ w base a c N)(d:Bw w w'):OZ w' base a c N:=⟨AF h.row d,λx b=>⟨(h.P x b).1,AF (h.P x b).2.1 d,(h.P x b).2.2⟩⟩
def OZ.fg{w base a c N}(h:OZ w base a c N):Oa w a (N.map Ml):=λi o f=>by
 rw[yA]at f;obtain⟨x,g,rfl⟩:=Yd.1 f;have key:=λj u(hj:(CX x)[j]?=some u)=>BM h.row (FK (cells:=CX) (m:=4) (λ_=>rfl) N i x j u g hj);obtain⟨k,O,_,p,_⟩:=key 0 _ rfl;obtain⟨y,l,_,s,_⟩:=key 1 _ rfl;obtain⟨v,n,_,q,_⟩:=key 2 _ rfl;obtain⟨t,b,_,d,_⟩:=key 3 _ rfl;rw[O]at l n b;cases l;cases n;cases b;obtain⟨⟨sa,r,e⟩,hv,_⟩:=h.P x (yd g);rw[e]at d hv;exact⟨k,0,sa,r,O,by simpa[Ml] using p,by simpa[Ml] using s,by simpa[Ml] using q,by simpa[Ml] using d,Bt.owns hv⟩
def OZ.snoc{w w' base a d c e N x}(h:OZ w base a c N)(j:x=⟨2,x.tag,⟨#[]⟩,.slice none 0 0,[]⟩)(n:0<=x.tag/\x.tag<=100)(O:w'.ownsRow base 40 4 (.slice d (N.length+1) e) (N.length+1) (N.flatMap CX++CX x))(l:w.grownBy w' (Value.slice a N.length c).ownBlock):OZ w' base d e (N++[x]):=by
 refine⟨qZ,λy b=>?_⟩;rcases yn.1 b with b|b
 .obtain⟨i,f,g⟩:=h.P y b;exact⟨i,Hv (t:=40) f l (λk m=>AO h.row m) qh,g⟩
 rw[yp.1 b,j];exact⟨⟨none,0,rfl⟩,yN _ _ _ _,S1 Q6 Q6,yk _,yk _,λv hv=>by cases hv⟩
def XD{cp sg}{c:List Wo}(i:0<=cp)(l:cp<=40)(b:∀o∈c,Ir o):∀k,∀f∈(Bb cp sg (c.take k)).1,AJ f
 |0=>λf a=>by cases a
 |k+1=>by
  have ih:=XD (sg:=sg) i l b k
  have m:=PH (sg:=sg) i l c k
  cases h:c[k]? with
  |none=>
   have hl:c.length<=k:=qq
   rw[yT hl]at ih
   rw[yT qd]
   exact ih
  |some o=>
   rw[Td h]
   unfold LU
   split
   .rename_i q
    obtain⟨K,s,d⟩:=mC o m q
    have O:=b o (yd h)
    intro f a
    simp only at a
    rw[d.eq]at a
    rcases yn.1 a with a|a
    .exact ih f (d.sub.subset a)
    obtain⟨r,j,t,n⟩:=d.bK f a
    refine⟨?_,by rw[j];exact O.len,by rw[j];exactλv hv=>(O.cd v hv).2.2⟩
    rcases n with⟨e,_⟩|⟨g,p,e⟩
    .rw[e]
     exact O.z
    rw[<-e]
    exact(ih g p).1
   exact ih
def UL.cl{rs b a w e w'}(h:UL (Hf rs b 40 false a a.length) w e w'):∃sa c,e=.returned (.slice sa a.length c)/\(∀i,i<a.length->∃g,sa=some ⟨g,0,none⟩/\g<w'.heap.size/\At w' g (i*5+4) (I6 (H8 rs b (Bb 40 false (a.take (i+1))).1)))/\Bw w w':=by
 obtain⟨sa,c,L,rfl,hS,d,k⟩:=h;have hl:L.length=a.length:=by simpa[Hf] using congrArg List.length d
 refine⟨sa,c,by rw[hl],λi n=>?_,k⟩;obtain⟨x,f⟩:=Ba (show i<L.length by omega);have p:x.size=H8 rs b (Bb 40 false (a.take (i+1))).1:=by
  have o:=congrArg (λl=>l[i]?) d;simpa[Hf,f,n] using o
 obtain⟨g,e,_,j,_⟩:=BM hS (FK (cells:=Sw) (m:=5) (λ_=>rfl) L i x 4 _ f rfl);refine⟨g,e,yO w' ⟨g,_,none⟩ j,?_⟩;rw[<-p];exact j
def sI{rs}(h:A8 rs=(0,0,0)):NC (A8 rs)=.agg #[I6 0,I6 0,I6 0]:=by rw[h];rfl
def tC(d)(hd:d=0∨d=1)(rs):K1 (DV d rs) rs.length=true:=by
 unfold K1 DV;simp only[yt,decide_true,WS,List.all_map,Yy];intro x _;rcases hd with rfl|rfl<;>rfl
def UX{rs r fs}(b:(A8 rs).1=0)(f:C8 fs=true)(a:r∈rs)(g:fs.length<=40):tokM r fs<=28500625446:=by
 have c:=(Mc b a).1;rw[iA (Qq b f a) (MV b a)];have:=U4 (MV b a) g c r.v.length c;have d:r.v.length*41^6<=6*41^6:=Yl _ c;have e:(41:Nat)^6=4750104241:=qh;rw[e]at this d;omega
structure Pc(w0:World) (sb:Nat) (os:List Wo) (k:Nat) (fa:Option Addr) (fc:Nat) (wr:World):Prop where
 box:wr.heap[sb]?=some (.cells #[.slice fa (Bb 40 false (os.take k)).1.length fc,I6 (Bb 40 false (os.take k)).2,I6 40,.bool false] 27 (0,0))
 dq:DT (λb=>b≠sb) wr fa (Bb 40 false (os.take k)).1
 cA:(Bb 40 false (os.take k)).1.length<=fc
 C:Bw w0 wr
def Pc.drew{w0 sb a k fa fc w}(h:Pc w0 sb a k fa fc w):Pc w0 sb a k fa fc w.drew:=⟨h.box,h.dq.kept λ_ _ _=>rfl,h.cA,h.C.drew⟩
def Xg{rs:List Ru}{fs j r}(h:rs[j]?=some r):(tokS (rs.take (j+1)) fs:Int)=(tokS (rs.take j) fs:Int)+(tokM r fs:Int):=by
 unfold tokS;rw[Fd _ h,WV];simp
def VO{rs fs}(c:(A8 rs).1=0)(a:C8 fs=true)(b:fs.length<=40):∀j,tokS (rs.take j) fs<=j*28500625446
 |0=>yk _
 |j+1=>by
  have O:=VO c a b j
  cases h:rs[j]? with
  |none=>
   have hl:rs.length<=j:=qq
   rw[yT hl]at O
   rw[yT qd]
   exact yh O (Yl _ (WJ _))
  |some r=>
   have e:=Xg (fs:=fs) h
   have d:=UX c a (yd h) b
   rw[Kb]
   generalize j*28500625446=A at *
   omega
def o9{P:Prop}(h:P:=by have:j*28500625446<=8*28500625446:=Yl _ (by omega);omega):P:=h
def nZ{P:Prop}(h:P:=by
 go_wp2_with fail;go_roundw
 case rel=>exact⟨j+1,by go_num,by omega,by rw[aQ.o,<-aO.o],bE.o⟩
 case measure=>(simp[intOf];omega)
 ):P:=h
set_option maxHeartbeats 25600000 in
def sV(a n c a2 n2 c2 w)(h:JD w a n)(h2:JD w a2 n2) :
  Ca 4 #[.slice a n c,.slice a2 n2 c2] w λe w'=>e=.returned (.bool true)/\Bw w w':=by
 obtain⟨HB,b4⟩:=Ah h h2;clear h h2;by_cases hn:(1048576:Int)<(n:Int)
 .go_enter func4,ntmps4;go_wp2_with fail;go_ret;exact⟨rfl,An⟩
 by_cases dE:(1048576:Int)<(n2:Int)
 .go_enter func4,ntmps4;go_wp2_with fail;go_ret;exact⟨rfl,An⟩
 have bT:n<=1048576:=qd;have bl:n2<=1048576:=qd;go_enter func4,ntmps4;go_wp2_with fail;refine(nP a n c w HB.o bT).j ?_;rintro e w1 ⟨U,J,M,dK,ac,dM,rfl,cI,cS,cA,bd,bX⟩;obtain⟨rs,a0⟩:∃rs,rs=M.map GI.ru:=⟨_,rfl⟩
 have bt:M.length=rs.length:=by rw[a0,yt]
 obtain⟨O,ci⟩:=Ah (show Rv rs by rw[a0];exact rW bd cA cI cS) (show Fa none w1 U rs by rw[a0];exact bd.eN);have bG:rs.length<=J:=by rw[<-bt];exact bd.cA
 have h8:rs.length<=8:=qd;rw[bt];have B1:=Aa bX;clear a0 bt bd cA cI cS bX;unfold I_;go_upto_region 4 with fail;refine Be ?_;intro w2 bN _;obtain⟨B2,b8⟩:=Ah (B1.o.thn bN) (ci.o.d bN);clear bN B1 ci;go_wp2_with fail;refine(mS a n c a2 n2 c2 w2 (HB.o.d B2.o) bT (b4.o.d B2.o) bl).j ?_;rintro e w3 ⟨dp,dh,N0,rfl,dy,cM,cX⟩;obtain⟨cw,B3⟩:=Ah cM.oz cX;clear cM cX;go_wp2_with fail
 go_loopw [7,8] (λov tv wr=>∃(t:Nat)(oa:Option Addr)(oc:Nat)(N:List MC),tv=I6 (t:Int)/\ov=.slice oa N.length oc/\1<=t/\t<=N.length+1/\N.length<=60/\(t=1->N.length<=24)/\OZ wr w2.heap.size oa oc N/\Bw w2 wr) (λ_ tv _=>(100-intOf tv).toNat)
 case atStart=>exact⟨1,dp,dh,N0,rfl,rfl,qd,qd,qd,λ_=>dy,cw.o,B3.o⟩
 case round=>
  obtain⟨t,oa,oc,N,rfl,rfl,cf,bY,cT,bi,cd,z⟩:=hrel;obtain⟨cH,s,HT⟩:=AA cd z (And.intro cf (And.intro bY bi));have c8:t<=61:=qd;clear cd z cf bY bi cw B3;go_upto_region 6 with fail
  go_cut [49] (λcv wx=>∃b:Bool,cv=.bool b/\(b=true->N.length<60)/\(b=false->2<=t)/\Bw wr wx)
  case first=>
   have HD:=Aa (mS a n c a2 n2 c2 wr (HB.o.d (B2.o.thn s.o)) bT (b4.o.d (B2.o.thn s.o)) bl);go_wp2_with fail;refine HD.o.j ?_;rintro e L ⟨dJ,dH,N',rfl,dz,_,cC⟩;have H:=Aa cC;obtain⟨m,hm⟩:∃m,m=N'.length:=⟨_,rfl⟩
   rw[<-hm]at dz⊢;clear hm cC HD;by_cases h1:(t:Int)<=2*(m:Int)+1
   .have R:=HT.o;go_wp2_with fail;go_meet;exact⟨decide ((N.length:Int)<60),rfl,λe=>(by have:=of_decide_eq_true e;omega),λe=>(by have:=of_decide_eq_false e;omega),H.o⟩
   .go_wp2_with fail
    go_meet;exact⟨false,rfl,λe=>qo,λ_=>qd,H.o⟩
  case rest=>
   obtain⟨b,rfl,aY,bQ,bJ⟩:=hcut;obtain⟨L,rfl⟩:∃v,v=wc:=⟨wc,rfl⟩
   obtain⟨aD,H⟩:=Ah (cH.o.C bJ) (s.o.thn bJ);have dG:w2.heap.size<=L.heap.size:=H.o.size;clear bJ cH s;cases b with
   |true=>
    have dB:=aY rfl;have HA:=Aa (λo=>An.alloc AH o:∀o,Bw L (L.alloc o));clear aY bQ;go_wp2_with (first|(at_builtin;refine CN qi (.tmp 52) (.tmp 55) 32 qi w2.heap.size 40 _ 4 56 underlying32 iF qi qd _ N.length _ qi (AF aD.o.row (HA.o _)) (some ⟨_,0,none⟩) 1 1 qi (CX ⟨2,(t:Int),⟨#[]⟩,.slice none 0 0,[]⟩) qi (λe=>qo) (Cv _ _ _ _ qe) (l9 _ ⟨none,0,0,rfl⟩) qj qd qf ?_;intro a9 c9 w9 dl cY dC)|fail);go_roundw
    case rel=>exact⟨t+1,a9,c9,N++[⟨2,(t:Int),⟨#[]⟩,.slice none 0 0,[]⟩],qm,qe,qd,by have:=HT.o;simp;omega,qf,λe=>by have:=HT.o;omega,(aD.o.C (HA.o _)).snoc rfl (by constructor<;>simp<;>omega) dl.o cY.o,(H.o.thn (HA.o _)).grown cY.o (yh H.o.size (HA.o _).size) (λg y=>(aD.o.row.lt g y).1)⟩
    case measure=>(simp[intOf];omega)
   |false=>
    have dx:=bQ rfl;obtain⟨p,a6⟩:∃p,p=N.map Ml:=⟨_,rfl⟩
    have cQ:N.length=p.length:=by rw[a6,yt]
    have bz:=Aa (show Oa L oa p by rw[a6];exact aD.o.fg);have aZ:=Aa (show∀o∈p,Ir o by
     rw[a6];intro o ho;obtain⟨x,hx,rfl⟩:=yz.1 ho;exact(aD.o.P x hx).2.2)
    have dL:1<=p.length:=by have:=HT.o;omega
    have dc:p.length<=60:=qd;rw[cQ];have aF:=Aa (b8.o.d H.o);have cP:=Aa (B2.o.thn H.o);clear aY bQ dx HT a6 cQ aD b8 B2 H c8 cT;have bA:=Aa (λ(u:World)(z:Bw L u)=>(show Ca 41 #[.slice U rs.length J] u λe w'=>e=.returned (.agg #[I6 0,I6 0,I6 0])/\Bw u w' by
     have:=X5 U J rs u (aF.o.d z) bG O.o.le O.o.dr;rwa [sI O.o.dN]at this))
    have bD:=Aa (λ(d:Int)(hd:d=0∨d=1)(ma:Option Addr)(mc:Nat)(u:World)(z:Bw L u)(hm:CU none u ma (DV d rs))=>(show Ca 10 #[.slice U rs.length J,.slice ma (DV d rs).length mc,I6 40,.bool false,.slice oa p.length oc] u λe w'=>∃sa sc,e=.returned (.slice sa p.length sc)/\(∀i,i<p.length->∃g,sa=some ⟨g,0,none⟩/\g<w'.heap.size/\At w' g (i*5+4) (I6 (H8 rs (DV d rs) (Bb 40 false (p.take (i+1))).1)))/\Bw u w' from by
     have I:(A8 rs).1=0:=by rw[O.o.dN]
     have h:=zoG rs (DV d rs) 40 false p U J ma mc oa oc u (aF.o.d z) bG O.o.le O.o.dr O.o.cd hm (bz.o.d z) aZ.o I (tC d hd rs) qh qh dc;exact h.j λe w' q=>q.cl))
    go_wp2_with fail;refine(xA rs U J L aF.o qd bA.o).j ?_;rintro e w5 ⟨⟨ma,mc,rfl,aN⟩,cz⟩;obtain⟨B5,cJ⟩:=Ah cz (CU.owns aN);clear cz aN;go_wp2_with fail;refine(bD.o 0 (.inl rfl) ma mc w5 B5.o cJ.o).j ?_;rintro e w6 ⟨sa,sc,rfl,B,cF⟩;obtain⟨b6,B6⟩:=Ah B (B5.o.thn cF);clear cF B cJ B5;go_wp2_with fail;refine(vU rs U J w6 (aF.o.d B6.o) qd (λu z=>bA.o u (B6.o.thn z))).j ?_;rintro e w7 ⟨⟨di,dv,rfl,aN⟩,bR⟩;obtain⟨B7,cV,cZ⟩:=AA (B6.o.thn bR) bR (CU.owns aN);clear bR aN;go_wp2_with fail;refine(bD.o 1 (.inr rfl) di dv w7 B7.o cZ.o).j ?_;rintro e w8 ⟨dO,dN,rfl,B,bI⟩;have ch:=Aa B;have cy:=Aa (cV.o.thn bI);have B8:=Aa (B7.o.thn bI);have bo:=Aa (show∀i,i<p.length->∃g,sa=some ⟨g,0,none⟩/\At w8 g (i*5+4) (I6 (H8 rs (DV 0 rs) (Bb 40 false (p.take (i+1))).1)) fromλi hi=>by
     obtain⟨g,e,_,hc⟩:=b6.o i hi;exact⟨g,e,zab cy.o hc⟩)
    clear bI B cZ B7 B6 cV cy b6 bA bD;have cD:((p.length:Int)==0)=false:=beq_eq_false_iff_ne.2 qd;go_upto_region 14 with fail;refine Be ?_;intro w9 cg bC;obtain⟨sb,cr⟩:∃b,b=w8.heap.size:=⟨_,rfl⟩
    rw[<-cr]at bC⊢;have cn:=Aa (show Pc w8 sb p 0 none 0 w9 from⟨bC,λi f hf=>Hx,yu _,cg⟩);have cR:w8.heap.size<=sb:=qd;obtain⟨bV,bO,dj⟩:=AA (bz.o.d B8.o) (aF.o.d B8.o) (cP.o.thn B8.o);clear cg bC cr bz aF B8 cP cD;go_wp2_with fail
    go_loopw [87] (λiv wr=>∃(k:Nat)(fa:Option Addr)(fc:Nat),iv=I6 (k:Int)/\k<=p.length/\Pc w8 sb p k fa fc wr) (λiv _=>p.length-(intOf iv).toNat)
    case atStart=>exact⟨0,none,0,rfl,yk _,cn.o⟩
    case round=>
     obtain⟨k,fa,fc,rfl,dI,cK⟩:=hrel;have SI:=Aa cK;clear cK cn;have aL:=PH (cp:=40) (sg:=false) qh qh p k;have aP:=XD (cp:=40) (sg:=false) qh qh aZ.o k;obtain⟨fs,bc⟩:∃fs,fs=(Bb 40 false (p.take k)).1:=⟨_,rfl⟩
     obtain⟨nx,Z⟩:∃nx,nx=(Bb 40 false (p.take k)).2:=⟨_,rfl⟩
     have aU:=SI.o.box;have aM:=SI.o.dq;have bk:=SI.o.cA;rw[<-bc,<-Z]at aU aL;rw[<-bc]at aM bk aP;obtain⟨HV,da,HBX,b9,s⟩:=DE aL aP aU aM SI.o.C;have dA:fs.length<=40:=by have:=aL.len;have:=aL.aM;omega
     obtain⟨co,dq⟩:=Ah bc Z;clear aL aP aU aM bc Z SI;by_cases hk:k<p.length
     .obtain⟨o,ho⟩:=Ba hk;obtain⟨ob,op,dw,dd,dr,o0,o1,o2,o3,cO⟩:=bV.o k o ho;obtain⟨HO,dt⟩:=Ah ho (aZ.o o (yd ho));subst dr;have x0:=zab s.o o0;have x1:=zab s.o o1;have x2:=zab s.o o2;have x3:=zab s.o o3;have bZ:=Aa (cO.d s.o);have z0:(0:Int)<=(k:Int):=qd;have z1:(k:Int)<(p.length:Int):=qd;clear o0 o1 o2 o3 cO ho;go_upto_region 17 with fail;refine Be ?_;intro cq aT bj;obtain⟨y0,y1,y2,y3⟩:=Ay bj;have ak:=(aT.block _ (Ak HBX.o)).c HBX.o;obtain⟨s0,s1,s2,s3⟩:=Ay ak;have ab:sb<cq.heap.size:=Ak ak;obtain⟨aV,a8⟩:=Ah ak aT;clear aT bj x0 x1 x2 x3 ak;go_wp2_with fail;refine(zv o dt.o (λb=>b≠sb) fa fc fs nx 40 false dw dd cq (b9.o.kept λg _ y=>a8.o.block g y) bk (bZ.o.d a8.o) qd da.o).j ?_;rintro e de ⟨a5,a7,r,hr,rfl,bm,bg,aR⟩;have hN:=uZ o HV.o;simp only[<-hr]at hN;obtain⟨cW,b7,cN⟩:=hN;have bH:Bb 40 false (p.take (k+1))=(r.fs,r.nx):=by rw[Td HO.o,<-co.o,<-dq.o,cW]
      rw[b7,cN];have aC:=Aa bH;have aE:=PH (cp:=40) (sg:=false) qh qh p (k+1);have hS1:=XD (cp:=40) (sg:=false) qh qh aZ.o (k+1);rw[bH]at aE hS1;dsimp only at aE hS1;obtain⟨cE,br,bq⟩:=AA aE hS1 (DT.j bm (Z':=λb=>b≠sb) λb z=>by rcases z with z|z;exact z;show b≠sb;omega);have bK:r.fs.length<=40:=by have:=aE.len;have:=aE.aM;omega
      have am:=(aR.block _ ab).c aV.o;obtain⟨aS,ce⟩:=Ah am ((s.o.thn a8.o).thn aR);obtain⟨t0,t1,t2,t3⟩:=Ay am;have fz:∀j,de.frozen? ⟨sb,j,none⟩=false:=λj=>by simp[World.frozen?,am]
      have z4:=fz 0;have z5:=fz 1;have z6:=fz 2;have z7:=fz 3;clear hr cW b7 cN bH aE hS1 bm aR fz am s0 s1 s2 s3 y0 y1 y2 y3 aV a8 bZ b9 HBX;go_upto_region 18 with fail;refine ST aS.o ?_;intro cG bf aX;obtain⟨aA,cm,aK⟩:=AA (bq.o.kept λg y _=>aX.block g y) (show Bw w8 cG from ce.o.c (aX.d cR)) bf;obtain⟨gs,bL⟩:∃gs,gs=r.fs:=⟨_,rfl⟩
      obtain⟨aa,bn⟩:∃aa,aa=r.nx:=⟨_,rfl⟩
      rw[<-bL,<-bn]at aC cE aK;rw[<-bL]at br aA bK bg;clear bf aX t0 t1 t2 t3 z4 z5 z6 z7 aS bq ce bL bn;have bW:C8 gs=true:=h9 cE.o;have I:(A8 rs).1=0:=by rw[O.o.dN]
      obtain⟨HG,D⟩:=Ah bW I;clear bW I;go_wp2_with fail
      go_loopw [14,97] (λtv Y wr=>∃(j:Nat),Y=I6 (j:Int)/\j<=rs.length/\tv=I6 (tokS (rs.take j) gs:Int)/\Bw cG wr) (λ_ Y _=>rs.length-(intOf Y).toNat)
      case atStart=>exact⟨0,rfl,yk _,rfl,An⟩
      case round=>
       obtain⟨j,rfl,ds,rfl,aG⟩:=hrel;have A:=Aa aG;have aW:=(aG.block _ (Ak aK.o)).c aK.o;have aJ:=Aa aW;have bh:sb<wr.heap.size:=Ak aW;have aI:=VO D.o HG.o bK (rs:=rs) j;obtain⟨T,R⟩:∃T,T=tokS (rs.take j) gs:=⟨_,rfl⟩
       rw[<-R]at aI⊢;have du:T<=228005003568:=by
        exact o9
       have aO:=Aa R;clear aG aW aI R;by_cases hj:j<rs.length
       .obtain⟨q,G⟩:=Ba hj;have ay:=yd G;obtain⟨rb,ro,a1,c1,a3,c3,a4,c4,bu,_,d0,d1,d2,d3,d4,hp,he,ha,bM⟩:=(bO.o.d (cm.o.thn A.o)).get G;subst bu;obtain⟨HP,HE,bU⟩:=AA hp he ha;have v0:(0:Int)<=(j:Int):=qd;have v1:(j:Int)<(rs.length:Int):=qd;have bS:=UX D.o HG.o ay bK;obtain⟨aQ,au⟩:=Ah (Xg (fs:=gs) G) ay;clear hp he ha G ay;go_upto_region 22 with fail;refine Be ?_;intro bP aj ar;obtain⟨r0,r1,r2,r3,r4⟩:=DN ar;have E:=Aa aj;have aH:=(aj.block _ bh).c aJ.o;obtain⟨s0,_,_,_⟩:=Ay aH;have cL:=Aa ((aA.o.kept λg _ y=>(A.o.thn E.o).block g y).at);have ax:=Aa (zlT q gs a1 c1 a3 c3 a4 c4 a5 a7 bP (HP.o.d E.o) (HE.o.d E.o) (bU.o.d E.o) bM ⟨qe,λx hx=>px⟩ (O.o.dr q au.o) (O.o.cd q au.o) cL.o qd br.o (Qq D.o HG.o au.o));obtain⟨K,hK⟩:∃K,K=tokM q gs:=⟨_,rfl⟩
        rw[<-hK]at ax bS aQ;clear aj ar d0 d1 d2 d3 d4 aH hK;go_wp2_with fail;refine ax.o.rtn λdk aw=>?_;have bE:=Aa ((A.o.thn E.o).thn aw);clear aw s0 r0 r1 r2 r3 r4 ax;exact nZ
       obtain rfl:j=rs.length:=qd;have hy:¬(rs.length:Int)<(rs.length:Int):=qd;have b5:=Aa (show T=tokS rs gs by rw[aO.o,yV]);obtain⟨s0,_,_,_⟩:=Ay aJ.o;obtain⟨dg,cB⟩:=Ah ((aA.o.kept λg _ y=>A.o.block g y).at) (cm.o.thn A.o);have b0:=Aa (zjO rs gs U J a5 a7 wr (bO.o.d cB.o) bG O.o.le O.o.dr dg.o qd br.o (vA D.o HG.o));go_wp2_with fail;refine b0.o.j ?_;rintro e dm ⟨qa,qc,rfl,aB⟩;have az:(EY gs 0 rs).length=insS rs gs:=xN (λr hr=>MV D.o hr) 0;obtain⟨m2,cj⟩:∃m,m=(EY gs 0 rs).length:=⟨_,rfl⟩
       rw[<-cj]at az⊢;have df:=gp D.o HG.o (l:=rs) (λ_ h=>h);obtain⟨g,y,W⟩:=bo.o k hk;obtain⟨g',bw,_,af⟩:=ch.o k hk;rw[aC.o,UP (λ_ h=>h) D.o HG.o,<-b5.o]at W;rw[aC.o,UE,<-az]at af;rw[<-az,<-b5.o]at df;subst y bw;have bB:=Aa (cB.o.thn aB);have c5:=zab bB.o W;have c6:=zab bB.o af;have cu:=Aa (show Pc w8 sb p (k+1) a5 a7 dm from⟨by rw[aC.o];exact(aB.block _ bh).c aJ.o,by rw[aC.o];exact aA.o.kept λg _ y=>(A.o.thn aB).block g y,by rw[aC.o];exact bg,bB.o⟩);have dD:¬(T:Int)<(m2:Int):=qd;clear cj aB az W af s0 b0;go_wp2_with fail;go_region;go_wp2_with fail;go_roundw
       case rel=>exact⟨k+1,a5,a7,qm,qd,cu.o.drew⟩
       case measure=>(simp[intOf];omega)
     obtain rfl:k=p.length:=qd;have hy:¬(p.length:Int)<(p.length:Int):=qd;obtain⟨s0,_,_,_⟩:=Ay HBX.o;have bv:=Aa (dj.o.thn s.o);by_cases hz:(0:Int)<(fs.length:Int)
     .go_wp2_with fail;go_ret;exact⟨rfl,bv.o⟩
     have cU:fs=[]:=YL.1 qd;have I:(A8 rs).1=0:=by rw[O.o.dN]
     obtain⟨g,y,W⟩:=bo.o (p.length-1) qd;obtain⟨g',bw,_,af⟩:=ch.o (p.length-1) qd;rw[show p.length-1+1=p.length by omega,<-co.o,cU]at W af;rw[UP (λ_ h=>h) I rfl]at W;rw[UE,ja I (λ_ h=>h)]at af;subst y bw;have c5:=zab s.o W;have c6:=zab s.o af;obtain⟨C5,C6,D⟩:=AA c5 c6 I;clear W af c5 c6 I cU;obtain⟨bF,bp⟩:∃u,u=wr:=⟨_,rfl⟩
     have dF:=Aa (show Bw bF bF from An);rw[<-bp]at C5 C6 s bv s0⊢;clear bp;go_wp2_with fail
     go_loopw [18,149] (λtv Y wr=>∃(j:Nat),Y=I6 (j:Int)/\j<=rs.length/\tv=I6 (tokS (rs.take j) []:Int)/\Bw bF wr) (λ_ Y _=>rs.length-(intOf Y).toNat)
     case atStart=>exact⟨0,rfl,yk _,rfl,An⟩
     case round=>
      obtain⟨j,rfl,ds,rfl,aG⟩:=hrel;have A:=Aa aG;have aI:=VO D.o (fs:=[]) rfl qe (rs:=rs) j;obtain⟨T,R⟩:∃T,T=tokS (rs.take j) []:=⟨_,rfl⟩
      rw[<-R]at aI⊢;have du:T<=228005003568:=by
       exact o9
      have aO:=Aa R;clear aG aI R;by_cases hj:j<rs.length
      .obtain⟨q,G⟩:=Ba hj;have ay:=yd G;obtain⟨rb,ro,a1,c1,a3,c3,a4,c4,bu,_,d0,d1,d2,d3,d4,hp,he,ha,bM⟩:=(bO.o.d (s.o.thn A.o)).get G;subst bu;obtain⟨HP,HE,bU⟩:=AA hp he ha;have v0:(0:Int)<=(j:Int):=qd;have v1:(j:Int)<(rs.length:Int):=qd;have bS:=UX D.o (fs:=[]) rfl ay qe;obtain⟨aQ,au⟩:=Ah (Xg (fs:=[]) G) ay;clear hp he ha G ay;go_upto_region 34 with fail;refine Be ?_;intro bP aj ar;obtain⟨r0,r1,r2,r3,r4⟩:=DN ar;have E:=Aa aj;have ax:=Aa (zmB q [] a1 c1 a3 c3 a4 c4 none 0 bP (HP.o.d E.o) (HE.o.d E.o) (bU.o.d E.o) bM ⟨qe,λx hx=>px⟩ (O.o.dr q au.o) (λi f hf=>Hx) qe (λf hf=>Hx) (Qq D.o rfl au.o));obtain⟨K,hK⟩:∃K,K=tokM q []:=⟨_,rfl⟩
       rw[<-hK]at ax bS aQ;clear aj ar d0 d1 d2 d3 d4 hK;go_wp2_with fail;refine ax.o.rtn λdk aw=>?_;have bE:=Aa ((A.o.thn E.o).thn aw);clear aw r0 r1 r2 r3 r4 ax;exact nZ
      obtain rfl:j=rs.length:=qd;have hy2:¬(rs.length:Int)<(rs.length:Int):=qd;have e1:(T:Int)=(tokS rs []:Int):=by rw[aO.o,yV]
      have c5:=zab A.o C5.o;have c6:=zab A.o C6.o;rw[<-e1]at c5;obtain⟨i1,hi1⟩:∃i,i=p.length-1:=⟨_,rfl⟩
      rw[<-hi1]at c5 c6;have hi2:(p.length:Int)-1=(i1:Int):=qd;have hi3:(i1:Int)<(p.length:Int):=qd;have hi4:(0:Int)<=(i1:Int):=qd;clear e1 hi1;go_wp2_with fail;go_ret;exact⟨rfl,bv.o.thn A.o⟩
end Go.Proofs.YtikojfajahnhgaaGreat
