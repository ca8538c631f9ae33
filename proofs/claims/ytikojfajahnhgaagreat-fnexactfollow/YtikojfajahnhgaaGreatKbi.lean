import Derived.Test.YtikojfajahnhgaaGreatKbh
set_option linter.all false
set_option maxHeartbeats 12800000
set_option maxRecDepth 100000
namespace Go.Proofs.YtikojfajahnhgaaGreat
attribute [local simp] At I6 Pn mzI
attribute [local go_sem] At I6 Pn
open Go.RowKit Go.Maps Go.Proofs.Tryz
variable{P:Prop}
attribute [local go_sem ↓] wp_at_zero wp_at_succ
def rE{k}(O:0<=k)(a:k<1000000):IntKind.i64.wrap (k+1)=k+1:=by
 exact Nc
def zy{α β:Type}(g:α->List β){l:List α}{j x}(h:l[j]?=some x):(l.take (j+1)).flatMap g=(l.take j).flatMap g++g x:=by
 rw[yY,h];simp
def zjD{α β:Type}(g:α->List β)(l:List α)(j):((l.take j).flatMap g).length<=(l.flatMap g).length:=by
 have h:l.flatMap g=(l.take j).flatMap g++(l.drop j).flatMap g:=by
  rw[<-Yu,Yz]
 rw[h,yR];omega
def LB(Z k c w)(O:Ed Z.adr Z.vw Z.ca w k c)(hu:Bl Z.adr Z.U w)(Y:Z.sa=(k:Int)->∃f,Z.sf=some f)(d j ts) :
  Ca 112 #[.agg #[I6 Z.sa,.pointer (Z.sf.map Z.adr)],I6 (k:Int),.agg #[d,j,Pn c.node,ts]] w λe w'=>∃fa fc,e=.returned (.slice fa (Ef Z k c).length fc)/\Hid (Jf w' fa (Ef Z k c) Z.adr)/\Bw w w':=by
 obtain⟨_,_,_,_,s,p⟩:=O;by_cases a:Z.sa=(k:Int)
 .obtain⟨f,l⟩:=Y a;have e:Ef Z k c=[f]:=by
   unfold Ef;rw[if_pos a,l];rfl
  rw[a,l,e];refine(uN k (some (Z.adr f)) d j _ ts w).ac λr w' q=>?_;obtain⟨b,t,o,n⟩:=q;refine⟨_,_,t,λi g m=>?_,n⟩;cases i with
  |zero=>
   cases m
   exact⟨b,0,rfl,o,(hu f (Z.sfU f l)).1.J n⟩
  |succ i=>simp at m
 have e:Ef Z k c=(Z.vw c.node).2.2:=by
  unfold Ef;rw[if_neg a]
 rw[e];refine(uB k c.node Z.sa _ d j ts _ _ _ w s a).ac λr w' q=>?_;exact⟨_,_,q.1,p.ck (CK.ab q.2),q.2⟩
def oN(h:P:=by go_simp;(go_at_call 114;refine(S7 Z p0 p1 p2 T f w6 aB.o aD aE.o).ac ?_;rintro e' w7 ⟨q0,q1,q2,rfl,aj,O⟩);(try go_wp2_with fail);refine hK.o _ _ trivial (λhHeld=>?_);clear hK K;(try simp only[pA,pZ,pS,pN]);have B7:=Aa (B6.o.aj O);have e9:=zab O e8;clear O;refine r1 5 λK hK=>?_;go_simp;refine hK.o _ _ trivial (λhHeld=>?_);clear hK K;(try simp only[pA,pZ,pS,pN])):=h
def oO(h:P:=by go_simp;refine hK.o _ _ trivial (λhHeld=>?_);clear hK K;(try simp only[pA,pZ,pS,pN]);refine r1 12 λK hK=>?_;go_simp;(go_at_call 114;refine(S7 Z p0 p1 p2 T f w6 aB.o aD aE.o).ac ?_;rintro e' w7 ⟨q0,q1,q2,rfl,aj,O⟩);(try go_wp2_with fail);refine hK.o _ _ trivial (λhHeld=>?_);clear hK K;(try simp only[pA,pZ,pS,pN]);have B7:=Aa (B6.o.aj O);have e9:=zab O e8;clear O):=h
def XO(h:P:=by
 have HBX:=Aa (ah.o rfl);clear ah ai;simp only[Bool.not_false];go_wp2_with fail;go_ret;exact .inr ⟨rfl,HBX.o⟩
 ):=h
def oX(h:P:=by
 go_simp;refine hK.o _ _ trivial (λhHeld=>?_);clear hK K;(try simp only[pA,pZ,pS,pN]);refine r1 12 λK hK=>?_;go_simp;(go_at_call 114;refine(S7 Z p0 p1 p2 T f w6 aB.o aD aE.o).ac ?_;rintro e' w7 ⟨q0,q1,q2,rfl,aj,O⟩);(try go_wp2_with fail);refine hK.o _ _ trivial (λhHeld=>?_);clear hK K;(try simp only[pA,pZ,pS,pN]);have B7:=Aa (B6.o.aj O);have e9:=zab O e8;clear O;refine r1 13 λK hK=>?_;go_simp;(go_at_call 109;(try rw[Y]);refine(HG1.o (pre++ys) w7 q0 q1 q2 (av.o.ar B7.o) (aL.o _ _ _ JR.o B7.o) au.o aj.o).ac ?_;intro e' w8 aq;obtain⟨b,rfl,ai,ah⟩:=aq.one;clear aq);(try go_wp2_with fail);refine hK.o _ _ trivial (λhHeld=>?_);clear hK K;(try simp only[pA,pZ,pS,pN]);refine sr 14 16 ?_;refine wpAnyH_done (by kernel_rfl) ?_ _;refine Yf ?_;clear Y HG1 au ay aj hHeld e0 e1 e2 e3 v0 v1 v2 e8 e9 d0 d1 d2 d3 u0 u1 u2 x0 ar hJ;cases b
 .have HBX:=Aa (ah.o rfl);clear ah ai;simp only[Bool.not_false];go_wp2_with fail;go_ret;exact .inr ⟨rfl,HBX.o⟩
 obtain⟨aw,am,ao,ak⟩:=ai.o rfl;obtain⟨ax,aA,az⟩:=AQ ao am ak;clear ao am ak ai ah;simp only[WU];go_wp2_with fail;go_roundw
 case rel=>exact⟨j+1,ys++aw,by go_num,by omega,by rw[aF.o,yJ,aC.o,aA.o],by rw[<-Yc];exact ax.o,KR.o.j ((CK.ab B7.o).j az.o)⟩
 case measure=>(simp;omega)
 ):=h
def rn(Z J Jx)(hJ:∀s W n,J s W->Bw W n->J s n)(c)(k:Nat)(d:Z.X[k]?=some c)(T p0 p1 p2 pre W)(aY:Ho Z W)(bd:LE Z p0 p1 p2 T)(m:∀f∈(Z.vw c.node).2.2,∀t∈c.cp.ah,t.fits T f)(aU:Z.sa=(k:Int)->∃f,Z.sf=some f/\∀t∈c.cp.ah,t.fits T f)(bg:J pre W)(B:c.cp.neg=false)(bp:c.cp.at_=T.length)(aD:T.length<3)(N r gN)(hr:r=(Ef Z k c).flatMap gN)(hN:pre.length+r.length<=N)(hz:∀f∈Ef Z k c,c.cp.ah.all (Aq T f)=false->gN f=[])(a7:∀f∈Ef Z k c,c.cp.ah.all (Aq T f)=true->∀(aK:List (Ft Z))(n:World)(q0 q1 q2:Option Addr),Ho Z n->J aK n->aK.length+(gN f).length<=N->LE Z q0 q1 q2 (T++[f])->Ca 109 #[I6 ((k:Int)+1),.agg #[.pointer q0,.pointer q1,.pointer q2],Pn Z.pb,Pn Z.yb,Pn Z.sb,Pn Z.xb] n (Mp Z J Jx aK (gN f) n)) :
   Ca 109 #[I6 (k:Int),.agg #[.pointer p0,.pointer p1,.pointer p2],Pn Z.pb,Pn Z.yb,Pn Z.sb,Pn Z.xb] W (Mp Z J Jx pre r W):=by
 have bo:=Z.small c (yd d);have bt:(Ef Z k c).length<=1000:=by
  unfold Ef;split
  .cases Z.sf<;>simp
  exact Z.few c (yd d)
 have aB:=Aa bd;have HI:=Aa a7;have HZ:=Aa hz;have aV:=Aa hr;have bl:=Aa hN;have aL:=Aa hJ;have HCX:=Aa d;obtain⟨g,bu,_⟩:=aY.cx k c d;have HF:=Aa (show∀f∈Ef Z k c,f∈Z.U/\∀t∈c.cp.ah,t.fits T f fromλf hf=>by
  unfold Ef at hf;split at hf
  .rename_i hs;obtain⟨f',e,h⟩:=aU hs;rw[e]at hf;simp at hf;subst hf;exact⟨Z.sfU f e,h⟩
  exact⟨Z.sub c (yd d) f hf,m f hf⟩)
 have aT:=Aa (λ(u:World)(hu:Ho Z u)=>LB Z k c u (hu.cx k c d) hu.us (λh=>(aU h).imp λf h=>h.1));have z1:(k:Int)<(Z.X.length:Int):=by have:=(yf.1 d).1;omega
 clear bd m a7 hz hr hN aU;obtain⟨fs,bc⟩:∃l,l=Ef Z k c:=⟨_,rfl⟩
 rw[<-bc]at aT HF HI HZ aV bt;clear bc;have bv:((k:Int)==(Z.X.length:Int))=false:=by simp;omega
 have z0:(0:Int)<=(k:Int):=qd;have a6:(k:Int)<1000000:=by have:=(yf.1 d).1;have:=Z.X6;omega
 go_enter func109,ntmps109;go_upto_region 1 with fail;refine Bt ?_;intro w0 D C;obtain⟨H,x⟩:∃b,b=W.heap.size:=⟨_,rfl⟩
 rw[<-x]at C⊢;obtain⟨t0,t1,t2⟩:=Ao C;obtain⟨aX,G⟩:=Ak C (aY.ar D);obtain⟨g0,_⟩:=Ay G.o.pl;obtain⟨g',a4,⟨c0,c1,c2,c3⟩,_⟩:=G.o.cx k c HCX.o;rw[bu]at g0 a4;cases a4;obtain⟨J0,B0⟩:=Ak (hJ _ _ _ bg D) D;rw[B]at c0;rw[bp]at c1;have bz:H<w0.heap.size:=As C;clear D C x d;go_upto_region 4 with fail;refine Bt ?_;intro w2 A I;obtain⟨L,aZ⟩:∃b,b=w0.heap.size:=⟨_,rfl⟩
 rw[<-aZ]at I⊢;obtain⟨d0,d1,d2,d3⟩:=AO I;obtain⟨R,aR,E,J2,B2⟩:=DU I ((A.block _ (As aX.o)).j aX.o) (G.o.ar A) (hJ _ _ _ J0.o A) (B0.o.aj A);obtain⟨s0,s1⟩:=Ay E.o.sd;have a8:=Aa (aT.o w2 E.o (.bool false) (I6 (T.length:Int)) (.slice c.ta c.cp.ah.length c.tc));clear aT;clear A I aZ t0 t1 t2 c0 c1 c2 c3 g0 G J0 B0 aX;go_wp2_with fail;refine a8.o.ac ?_;rintro e w3 ⟨fa,fc,rfl,bm,p⟩;obtain⟨br,bj,bq,J3,B3⟩:=DU ((p.block _ (As R.o)).j R.o) ((p.block _ (As aR.o)).j aR.o) (E.o.ar p) (hJ _ _ _ J2.o p) (B2.o.aj p);clear p a8 d0 d1 d2 d3 s0 s1 E J2 B2 R aR;go_wp2_with fail
 go_loopw [49] (λiv wr=>∃(j:Nat)(ys:List (Ft Z)),iv=I6 (j:Int)/\j<=fs.length/\ys.map (λy=>y.1)=(fs.take j).flatMap gN/\J (pre++ys) wr/\CK w3 wr) (mz fs.length)
 case atStart=>exact⟨0,[],rfl,yA _,rfl,by simpa using J3.o,λ_ _ _ _ h=>h⟩
 case round=>
  obtain⟨j,ys,rfl,bw,a0,a5,z⟩:=hrel;obtain⟨aC,JR,KR,av,bk,bn⟩:=Hl a0 a5 z (bq.o.ck z) (z _ _ _ _ br.o) (z _ _ _ _ bj.o);clear a0 a5 z J3;by_cases hj:j<fs.length
  .obtain⟨f,hf⟩:=AJ hj;have M:=yd hf;obtain⟨_,_,_,m1,_,_⟩:=av.o.cx k c HCX.o;obtain⟨hb,ho,rfl,ar,_⟩:=(bm.o.ck KR.o) j f hf;obtain⟨aQ,a9⟩:=HF.o f M;have bf:=Aa (av.o.us f aQ).1;have aE:=Aa aQ;obtain⟨d0,d1,d2,d3⟩:=AO bk.o;obtain⟨u0,u1,u2⟩:=Ao bn.o;have x0:=A3 av.o.sr;have y0:(0:Int)<=(j:Int):=qd;have y1:(j:Int)<(fs.length:Int):=qd;obtain⟨aF,ay⟩:=Ak (zy gN hf) (λw'(h:Bw wr w')=>MQ (.bool false) (I6 (T.length:Int)) (Pn c.node) (.pointer p0) (.pointer p1) (.pointer p2) (.pointer (some (Z.adr f))) c.cp.ah c.ta c.tc T f w' (m1.J h) ((aB.o.tok av.o.us).J h) (bf.o.J h) (yi bo qh) a9);clear m1 aQ a9;cases q:c.cp.ah.all (Aq T f)
   .have bi:=Aa (HZ.o f M q);rw[q]at ay;clear q hf;go_wp2_with fail;refine wp_region_noPanic ?_;refine wp_region_held_drew (S:=(λw'=>At w' L 0 (.bool false)/\At w' L 1 (I6 (T.length:Int))/\At w' L 2 (Pn c.node)/\At w' L 3 (.slice c.ta c.cp.ah.length c.tc)/\At w' H 0 (.pointer p0)/\At w' H 1 (.pointer p1)/\At w' H 2 (.pointer p2))) qf ?_ (λhHeld=>?_)
    ·(try dsimp only);exact⟨d0,d1,d2,d3,u0,u1,u2⟩
    refine sr 0 3 ?_;refine wpAnyH_ready (rs:=[3]) qf qe ?_;refine Yi (yj.j rfl) (λK hK=>?_) Ys;go_simp;(go_at_call 113;refine(ay.o _ Aj.drew).ac ?_;rintro e' w6 ⟨rfl,af⟩);(try go_wp2_with fail);refine hK.o _ _ (by(try dsimp only);exact⟨zab af d0,zab af d1,zab af d2,zab af d3,zab af u0,zab af u1,zab af u2⟩) λhHeld=>?_;clear hK K;(try simp only[pA,pZ,pS,pN]);have B6:=Aa (show Bw wr w6 from Aj.drew.j (af.ac qe));clear af;refine sr 4 16 ?_;refine wpAnyH_done qf ?_ _;refine Yf ?_;go_wp2_with fail;go_roundw
    case rel=>exact⟨j+1,ys,ql,qd,by rw[aF.o,bi.o,yM];exact aC.o,hJ _ _ _ JR.o B6.o,KR.o.j (CK.ab B6.o)⟩
    case measure=>(simp;omega)
   have HG1:=Aa (HI.o f M q);rw[q]at ay;have au:=Aa (show(pre++ys).length+(gN f).length<=N by have h1:=zjD gN fs (j+1);rw[aF.o,yR]at h1;have h2:=congrArg List.length aC.o;rw[yp]at h2;have h3:=congrArg List.length aV.o;have h4:=bl.o;rw[yR];omega);have Y:IntKind.i64.wrap ((k:Int)+1)=(k:Int)+1:=rE z0 a6;clear q hf;go_wp2_with fail;refine wp_region_noPanic ?_;refine wp_region_held_drew (S:=(λ_=>True)) qf ?_ (λhHeld=>?_)
   ·(try dsimp only)
    all_goals trivial
   refine sr 2 3 ?_;refine r2 0 1 (λK hK=>?_) λK hK=>?_
   focus
    go_simp;refine hK.o _ _ trivial (λhHeld=>?_);clear hK K;(try simp only[pA,pZ,pS,pN]);refine r1 1 λK hK=>?_
   rotate_left
   focus
    go_simp;refine hK.o _ _ trivial (λhHeld=>?_);clear hK K;(try simp only[pA,pZ,pS,pN]);refine r1 0 λK hK=>?_
   rotate_left
   all_goals
    go_simp;refine hK.o _ _ trivial (λhHeld=>?_);clear hK K;(try simp only[pA,pZ,pS,pN]);refine r1 3 λK hK=>?_;go_simp;(go_at_call 113;refine(ay.o _ Aj.drew).ac ?_;rintro e' w6 ⟨rfl,af⟩);(try go_wp2_with fail);refine hK.o _ _ trivial (λhHeld=>?_);clear hK K;(try simp only[pA,pZ,pS,pN]);have e0:=zab af d0;have e1:=zab af d1;have e2:=zab af d2;have e3:=zab af d3;have v0:=zab af u0;have v1:=zab af u1;have v2:=zab af u2;have e8:=zab af x0;have B6:=Aa (show Bw wr w6 from Aj.drew.j (af.ac qe));clear af;refine sr 4 5 ?_;refine sr 6 8 ?_;refine sr 9 10 ?_;refine sr 11 12 ?_;refine wpAnyH_ready (rs:=[5,8,10]) qf qe (Yi (yj.j rfl) (λK hK=>?_) (Yi (yj.j rfl) (λK hK=>?_) (Yi (yj.j rfl) (λK hK=>?_) Ys)))
    .go_simp;refine hK.o _ _ trivial (λhHeld=>?_);clear hK K;(try simp only[pA,pZ,pS,pN]);refine r2 8 10 (λK hK=>?_) λK hK=>?_
     focus
      go_simp;refine hK.o _ _ trivial (λhHeld=>?_);clear hK K;(try simp only[pA,pZ,pS,pN]);refine r1 10 λK hK=>?_
     rotate_left
     focus
      go_simp;refine hK.o _ _ trivial (λhHeld=>?_);clear hK K;(try simp only[pA,pZ,pS,pN]);refine r1 8 λK hK=>?_
     rotate_left
     all_goals
      go_simp;refine hK.o _ _ trivial (λhHeld=>?_);clear hK K;(try simp only[pA,pZ,pS,pN]);refine r1 12 λK hK=>?_;go_simp;(go_at_call 114;refine(S7 Z p0 p1 p2 T f w6 aB.o aD aE.o).ac ?_;rintro e' w7 ⟨q0,q1,q2,rfl,aj,O⟩);(try go_wp2_with fail);refine hK.o _ _ trivial (λhHeld=>?_);clear hK K;(try simp only[pA,pZ,pS,pN]);have B7:=Aa (B6.o.aj O);have e9:=zab O e8;clear O;refine r1 13 λK hK=>?_;go_simp;(go_at_call 109;(try rw[Y]);refine(HG1.o (pre++ys) w7 q0 q1 q2 (av.o.ar B7.o) (aL.o _ _ _ JR.o B7.o) au.o aj.o).ac ?_;intro e' w8 aq;obtain⟨b,rfl,ai,ah⟩:=aq.one;clear aq);(try go_wp2_with fail);refine hK.o _ _ trivial (λhHeld=>?_);clear hK K;(try simp only[pA,pZ,pS,pN]);refine sr 14 16 ?_;refine wpAnyH_done qf ?_ _;refine Yf ?_;clear Y HG1 au ay aj hHeld e0 e1 e2 e3 v0 v1 v2 e8 e9 d0 d1 d2 d3 u0 u1 u2 x0 ar hJ;cases b
      .exact XO
      obtain⟨aw,am,ao,ak⟩:=ai.o rfl;obtain⟨ax,aA,az⟩:=AQ ao am ak;clear ao am ak ai ah;simp only[WU];go_wp2_with fail;go_roundw
      case rel=>exact⟨j+1,ys++aw,ql,qd,Zr,Zu,KR.o.j ((CK.ab B7.o).j az.o)⟩
      case measure=>(simp;omega)
    .go_simp;refine hK.o _ _ trivial (λhHeld=>?_);clear hK K;(try simp only[pA,pZ,pS,pN]);refine r2 5 10 (λK hK=>?_) λK hK=>?_
     .go_simp;refine hK.o _ _ trivial (λhHeld=>?_);clear hK K;(try simp only[pA,pZ,pS,pN]);refine r1 10 λK hK=>?_;exact oX
     go_simp;refine hK.o _ _ trivial (λhHeld=>?_);clear hK K;(try simp only[pA,pZ,pS,pN]);refine r2 5 12 (λK hK=>?_) λK hK=>?_
     focus
      go_simp;refine hK.o _ _ trivial (λhHeld=>?_);clear hK K;(try simp only[pA,pZ,pS,pN]);refine r1 12 λK hK=>?_;go_simp;(go_at_call 114;refine(S7 Z p0 p1 p2 T f w6 aB.o aD aE.o).ac ?_;rintro e' w7 ⟨q0,q1,q2,rfl,aj,O⟩);(try go_wp2_with fail);refine hK.o _ _ trivial (λhHeld=>?_);clear hK K;(try simp only[pA,pZ,pS,pN]);have B7:=Aa (B6.o.aj O);have e9:=zab O e8;clear O
     rotate_left
     focus
      go_simp;(go_at_call 114;refine(S7 Z p0 p1 p2 T f w6 aB.o aD aE.o).ac ?_;rintro e' w7 ⟨q0,q1,q2,rfl,aj,O⟩);(try go_wp2_with fail);refine hK.o _ _ trivial (λhHeld=>?_);clear hK K;(try simp only[pA,pZ,pS,pN]);have B7:=Aa (B6.o.aj O);have e9:=zab O e8;clear O;refine r1 5 λK hK=>?_;go_simp;refine hK.o _ _ trivial (λhHeld=>?_);clear hK K;(try simp only[pA,pZ,pS,pN])
     rotate_left
     all_goals
      refine r1 13 λK hK=>?_;go_simp;(go_at_call 109;(try rw[Y]);refine(HG1.o (pre++ys) w7 q0 q1 q2 (av.o.ar B7.o) (aL.o _ _ _ JR.o B7.o) au.o aj.o).ac ?_;intro e' w8 aq;obtain⟨b,rfl,ai,ah⟩:=aq.one;clear aq);(try go_wp2_with fail);refine hK.o _ _ trivial (λhHeld=>?_);clear hK K;(try simp only[pA,pZ,pS,pN]);refine sr 14 16 ?_;refine wpAnyH_done qf ?_ _;refine Yf ?_;clear Y HG1 au ay aj hHeld e0 e1 e2 e3 v0 v1 v2 e8 e9 d0 d1 d2 d3 u0 u1 u2 x0 ar hJ;cases b
      .exact XO
      obtain⟨aw,am,ao,ak⟩:=ai.o rfl;obtain⟨ax,aA,az⟩:=AQ ao am ak;clear ao am ak ai ah;simp only[WU];go_wp2_with fail;go_roundw
      case rel=>exact⟨j+1,ys++aw,ql,qd,Zr,Zu,KR.o.j ((CK.ab B7.o).j az.o)⟩
      case measure=>(simp;omega)
    go_simp;refine hK.o _ _ trivial (λhHeld=>?_);clear hK K;(try simp only[pA,pZ,pS,pN]);refine r2 5 8 (λK hK=>?_) λK hK=>?_
    .go_simp;refine hK.o _ _ trivial (λhHeld=>?_);clear hK K;(try simp only[pA,pZ,pS,pN]);refine r1 8 λK hK=>?_;exact oX
    go_simp;refine hK.o _ _ trivial (λhHeld=>?_);clear hK K;(try simp only[pA,pZ,pS,pN]);refine r2 5 12 (λK hK=>?_) λK hK=>?_
    focus
     go_simp;refine hK.o _ _ trivial (λhHeld=>?_);clear hK K;(try simp only[pA,pZ,pS,pN]);refine r1 12 λK hK=>?_;go_simp;(go_at_call 114;refine(S7 Z p0 p1 p2 T f w6 aB.o aD aE.o).ac ?_;rintro e' w7 ⟨q0,q1,q2,rfl,aj,O⟩);(try go_wp2_with fail);refine hK.o _ _ trivial (λhHeld=>?_);clear hK K;(try simp only[pA,pZ,pS,pN]);have B7:=Aa (B6.o.aj O);have e9:=zab O e8;clear O
    rotate_left
    focus
     go_simp;(go_at_call 114;refine(S7 Z p0 p1 p2 T f w6 aB.o aD aE.o).ac ?_;rintro e' w7 ⟨q0,q1,q2,rfl,aj,O⟩);(try go_wp2_with fail);refine hK.o _ _ trivial (λhHeld=>?_);clear hK K;(try simp only[pA,pZ,pS,pN]);have B7:=Aa (B6.o.aj O);have e9:=zab O e8;clear O;refine r1 5 λK hK=>?_;go_simp;refine hK.o _ _ trivial (λhHeld=>?_);clear hK K;(try simp only[pA,pZ,pS,pN])
    rotate_left
    all_goals
     refine r1 13 λK hK=>?_;go_simp;(go_at_call 109;(try rw[Y]);refine(HG1.o (pre++ys) w7 q0 q1 q2 (av.o.ar B7.o) (aL.o _ _ _ JR.o B7.o) au.o aj.o).ac ?_;intro e' w8 aq;obtain⟨b,rfl,ai,ah⟩:=aq.one;clear aq);(try go_wp2_with fail);refine hK.o _ _ trivial (λhHeld=>?_);clear hK K;(try simp only[pA,pZ,pS,pN]);refine sr 14 16 ?_;refine wpAnyH_done qf ?_ _;refine Yf ?_;clear Y HG1 au ay aj hHeld e0 e1 e2 e3 v0 v1 v2 e8 e9 d0 d1 d2 d3 u0 u1 u2 x0 ar hJ;cases b
     .exact XO
     obtain⟨aw,am,ao,ak⟩:=ai.o rfl;obtain⟨ax,aA,az⟩:=AQ ao am ak;clear ao am ak ai ah;simp only[WU];go_wp2_with fail;go_roundw
     case rel=>exact⟨j+1,ys++aw,ql,qd,Zr,Zu,KR.o.j ((CK.ab B7.o).j az.o)⟩
     case measure=>(simp;omega)
  have bh:j=fs.length:=qd;subst bh;have hy:¬(fs.length:Int)<(fs.length:Int):=qd;go_wp2_with fail;go_ret;exact .inl ⟨rfl,ys,by rw[aC.o,yW];exact aV.o.ai,JR.o,(CK.ab B3.o).j KR.o⟩
end Go.Proofs.YtikojfajahnhgaaGreat
