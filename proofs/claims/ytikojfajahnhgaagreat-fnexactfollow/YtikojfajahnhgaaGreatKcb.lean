import Derived.Test.YtikojfajahnhgaaGreatKca
import Derived.Test.YtikojfajahnhgaaGreatKaa
set_option linter.all false
set_option maxRecDepth 100000
namespace Go.Proofs.YtikojfajahnhgaaGreat
attribute [local simp] At I6 Pn mzI
attribute [local go_sem] At I6 Pn
open Go.RowKit Go.Proofs.Tryz
section
attribute [local go_sem ↓] wp_at_zero wp_at_succ
def zmn(rs d cp sg b a c f g e i){q q'}(w)(hv:Do q w a rs)(k:rs.length<=c)(Y:CP Ru.le 1048576 rs)(O:∀x∈rs,GW x.exprs)(l:Bf q' w f d)(m:Gj w e b)(j:∀o∈b,Gd o) :
  Ca 11 #[.slice a rs.length c,.slice f d.length g,I6 cp,.bool sg,.slice e b.length i] w (T0 (DO rs d cp sg b) w):=by
 by_cases h:(Bh rs).1=0/\d.length=rs.length/\0<=cp/\cp<=40/\b.length<=60
 .exact zoQ rs d cp sg b a c f g e i w hv k Y O l m j h.1 h.2.1 h.2.2.1 h.2.2.2.1 h.2.2.2.2
 exact zmU rs d cp sg b a c f g e i w hv k Y O h
def znx(rs d cp sg b a c f g e i){q q'}(w)(hv:Do q w a rs)(k:rs.length<=c)(Y:CP Ru.le 1048576 rs)(O:∀x∈rs,GW x.exprs)(u:∀r∈rs,∀p∈r.af,∀t∈p.aa,C8 t.val)(l:Bf q' w f d)(n:d.length<=1048576)(m:Gj w e b)(s:b.length<=1048576)(j:∀o∈b,Gd o) :
  Ca 10 #[.slice a rs.length c,.slice f d.length g,I6 cp,.bool sg,.slice e b.length i] w (Uc (DO rs d cp sg b) w):=by
 by_cases h:(Bh rs).1=0/\Hr d rs.length=true/\0<=cp/\cp<=40/\b.length<=60
 .exact zoT rs d cp sg b a c f g e i w hv k Y O u l m j h.1 h.2.1 h.2.2.1 h.2.2.2.1 h.2.2.2.2
 exact zmD rs d cp sg b a c f g e i w hv k Y O l n s h
def Mu.minus{A}(h:Mu A)(B):Mu (FM A B):=⟨yi (Yd _ _) h.1,λy a=>h.2 y (yg.1 a).1⟩
def zq(rs c cp sg a):(DO rs c cp sg a).length<=60/\∀x∈DO rs c cp sg a,TL x:=by
 unfold DO;split
 .rename_i h;obtain⟨O,_,d,Y,i⟩:=h;constructor
  .exact yi (List.length_filterMap_le _ _) (by simpa using i)
  intro x b;obtain⟨k,_,f⟩:=List.mem_filterMap.1 b;obtain⟨o,g,rfl⟩:=Ya.1 f;have j:=(Om (sg:=sg) d Y a k).bq O;have e:=(Om (sg:=sg) d Y a (k+1)).bq O;rw[PQ g]at e;exact⟨e.1.minus _,j.1.minus _⟩
 exact⟨yA _,λx b=>by cases b⟩
def ZS{L:List E5}(h:∀x∈L.map DK,TL x):∀s∈L.map J6,Hn s:=λs e=>by
 obtain⟨x,f,rfl⟩:=yz.1 e;obtain⟨d,c⟩:=h _ (yz.2 ⟨x,f,rfl⟩);refine⟨⟨by simpa[J6,Hv,DK] using d.1,λn a=>?_⟩,by simpa[J6,Hv,DK] using c.1,λn a=>?_⟩
 .obtain⟨y,b,rfl⟩:=yz.1 a;exact d.2 y b
 obtain⟨y,b,rfl⟩:=yz.1 a;exact c.2 y b
def SO.dZ{w w' b a c L}(h:SO w b a c L)(f:∀g,b<=g->g<w.heap.size->w'.heap[g]?=w.heap[g]?):SO w' b a c L:=h.aQ λk _ _ _ e d=>f k e (As d)
def IB(lo hi:Nat)(w w':World):Prop:=∀g,lo<=g->g<hi->w'.heap[g]?=w.heap[g]?
def go{n}:∀{l:List Nat},n∈l->n<=l.sum
 |m::r,h=>by
  rw[YN]
  rcases yO.1 h with rfl|h
  .omega
  have:=go h
  omega
def Rb(os:List Wo):Prop:=os.length<=maxLen/\∀o∈os,(Lit.int .i64 o.tag).wf=true/\o.ak.size<=maxLen/\o.ad.length<=maxLen/\∀v∈o.ad,C8 v
def vC{a N}(h:Pf a<=N):a.length<=N/\(∀o∈a,o.ad.length<=N)/\(a.map λo=>o.ad.length).length+(a.map λo=>o.ad.length).sum<=N:=by
 have e:Pf a=a.length+(a.map Fc).sum:=rfl;have d:(a.map λo=>o.ad.length).sum<=(a.map Fc).sum:=kN (λo=>by
  have c:Fc o=o.ak.size+Ik o.ad:=rfl;have f:o.ad.length<=Ik o.ad:=by unfold Ik;omega
  omega) a
 refine⟨qd,λo b=>?_,by rw[yp];omega⟩;have:o.ad.length<=(a.map λo=>o.ad.length).sum:=go (yz.2 ⟨o,b,rfl⟩);omega
set_option maxHeartbeats 12800000 in
def rL(rs m cp sg d a c am cm ao co w)(hv:Do none w a rs)(ed:CP Ru.le maxLen rs)(ho:∀x∈rs,GW x.exprs)(dl:∀r∈rs,∀p∈r.af,∀t∈p.aa,C8 t.val)(ec:Bf none w am m)(eS:m.length<=maxLen)(du:Gj w ao d)(dm:Rb d) :
  Ca 5 #[.slice a rs.length c,.slice am m.length cm,I6 cp,.bool sg,.slice ao d.length co] w λe w'=>e=.returned (.bool true)/\Bw w w':=by
 obtain⟨HO,eu,HV,HM,HW,R⟩:=Hl ho dl hv ec du dm;clear ho dl hv ec du dm;unfold maxLen at eS;by_cases fh:(1048576:Int)<(m.length:Int)
 .go_enter func5,ntmps5;go_wp2_with fail;go_ret;exact⟨rfl,Aj⟩
 have az:m.length<=1048576:=qd;go_enter func5,ntmps5;go_wp2_with fail;refine(zmA a c rs 1048576 _ HV.o ed qd qd).ac ?_;rintro e w1 ⟨⟨r1,rfl,cv⟩,cV⟩;have B1:=Aa cV;clear cV ed;by_cases fy:r1<0
 .exact XG
 have ag:EY Ru.sz rs<=1048576:=by rcases cv with h|⟨_,h⟩<;>omega
 have bU:0<=r1:=qd;have bN:r1<=1048576:=by rcases cv with h|⟨_,h⟩<;>omega
 have cJ:CP Ru.le 1048576 rs:=Pk Ru.be ag;have eD:rsW (rs.map EI)<=8388608:=by
  have:=fQ rs;omega
 have aO:=Aa cJ;have ey:rs.length<=1048576:=cJ.1;clear cv ag cJ;go_wp2_with fail;refine(zne ao co d r1 w1 (HW.o.J B1.o) R.o.1 (λo h=>⟨(R.o.2 o h).2.1,(R.o.2 o h).2.2.1,λv hv=>((R.o.2 o h).2.2.2 v hv).2.2⟩) bU bN).ac ?_;rintro e w2 ⟨⟨r2,rfl,dZ⟩,cY⟩;have B2:=Aa (B1.o.aj cY);clear cY B1;by_cases fz:r2<0
 .go_wp2_with fail;go_ret;exact⟨rfl,B2.o⟩
 have bI:Pf d<=1048576:=by rcases dZ with h|⟨_,h⟩<;>omega
 obtain⟨aZ,M,dV⟩:=vC bI;obtain⟨cH,dC,er,el,TR,TI⟩:=Hl M (show∀o∈d,Gd o fromλo h=>⟨(R.o.2 o h).1,(R.o.2 o h).2.1,M o h,(R.o.2 o h).2.2.2⟩) (λk:Int=>(show AZ 3 3 k (d.map λf=>f.ad.length)<=k+6291456 from Int.le_trans (f8 qd qd _ _) qd)) (λk:Int=>LV 3 3 qd qd (d.map λf=>f.ad.length) k) (λw'(h:Bw w w')=>znt a c rs w' (HV.o.J h) aO.o) (λw'(h:Bw w w')=>kQ am cm m w' (HM.o.J h) az);obtain⟨TW,SF,IF⟩:=AQ (λw'(h:Bw w w')=>zmt ao co d w' (HW.o.J h) aZ cH.o) (λw' g B g' B' f cO(h:Do (some B) w' (some ⟨g,0,none⟩) rs)(hi:Bf (some B') w' (some ⟨g',0,none⟩) m)(hf:Gj w' f d)=>zmn rs m cp sg d (some ⟨g,0,none⟩) rs.length (some ⟨g',0,none⟩) m.length f cO w' h AA aO.o HO.o hi hf dC.o) (λw' g B g' B' f cO(h:Do (some B) w' (some ⟨g,0,none⟩) rs)(hi:Bf (some B') w' (some ⟨g',0,none⟩) m)(hf:Gj w' f d)=>znx rs m cp sg d (some ⟨g,0,none⟩) rs.length (some ⟨g',0,none⟩) m.length f cO w' h AA aO.o HO.o eu.o hi az hf aZ dC.o);obtain⟨dy,cN⟩:=zq rs m cp sg d;obtain⟨H,d9⟩:∃l,l=DO rs m cp sg d:=⟨_,rfl⟩
 rw[<-d9]at SF IF dy cN;have cG:=Aa cN;have EQ:=Aa (λa a' c c' w'(h:Hq w' a H)(h':Hq w' a' H)=>zlc a a' c c' H w' h h' qd cG.o);clear dZ bI bU bN cN d9 M dV;go_wp2_with fail;refine(TR.o w2 B2.o).ac ?_;rintro e w3 ⟨⟨g3,fC,rfl,i3⟩,cu⟩;have B3:=Aa (B2.o.aj cu);have s3:=cu.size;have I3:=Aa i3;clear i3;clear cu;go_wp2_with fail;refine(TI.o w3 B3.o).ac ?_;rintro e w4 ⟨⟨g4,fl,rfl,i4⟩,bc⟩;have B4:=Aa (B3.o.aj bc);have s4:=bc.size;obtain⟨I4,M4⟩:=Ak (I3.o.J bc) i4;clear i4;clear I3 bc;go_wp2_with fail;refine(TW.o w4 B4.o).ac ?_;rintro e w5 ⟨⟨rfl,fu,dG⟩,aR⟩;have B5:=Aa (B4.o.aj aR);have s5:=aR.size;obtain⟨I5,M5,W5⟩:=AQ (I4.o.J aR) (M4.o.J aR) dG.at;clear dG;clear I4 M4 aR;go_wp2_with fail;refine(SF.o w5 g3 _ g4 _ _ _ I5.o M5.o W5.o).ac ?_;rintro e Z ⟨a6,c6,L6,rfl,dP,cC,cr⟩;have B6:=Aa (B5.o.aj cr);have s6:=cr.size;obtain⟨O6,dp⟩:=Ak (show Hq Z a6 H by rw[<-cC];exact dP.at) (Yw Z.heap.size Z);have dh:L6.length=H.length:=by rw[<-cC,yp]
 rw[dh];clear dP cC cr I5 M5 W5 SF dh;go_wp2_with fail;refine(TR.o Z B6.o).ac ?_;rintro e w7 ⟨⟨g7,al,rfl,i7⟩,a7⟩;have B7:=Aa (B6.o.aj a7);have s7:=a7.size;obtain⟨dO,I7,eb⟩:=AQ (dp.o.aj a7) i7 (Do.nest i7 AA);clear i7;clear dp a7;go_wp2_with fail;refine(TI.o w7 B7.o).ac ?_;rintro e w8 ⟨⟨g8,fH,rfl,i8⟩,W⟩;have B8:=Aa (B7.o.aj W);have s8:=W.size;obtain⟨da,I8,di,M8,dx⟩:=DU (dO.o.aj W) (I7.o.J W) (eb.o.tr (Tr.ab (S:=λ_=>True) W)) i8 (Bf.flat i8 AA);clear i8;clear dO I7 eb W;go_wp2_with fail;refine(TW.o w8 B8.o).ac ?_;rintro e q ⟨⟨rfl,fJ,cy⟩,L⟩;have B9:=Aa (B8.o.aj L);have s9:=L.size;obtain⟨dD,I9,cP,M9,ei,W9,cE⟩:=H5 (da.o.aj L) (I8.o.J L) (di.o.tr (Tr.ab (S:=λ_=>True) L)) (M8.o.J L) (dx.o.tr (Tr.ab (S:=λ_=>True) L)) cy.at (Gl.nest cy AA AA);obtain⟨fb,dj⟩:∃b,b=w8.heap.size:=⟨_,rfl⟩
 rw[<-dj]at W9 cE⊢;have eY:w8.heap.size<=fb:=qd;have eX:fb<=w8.heap.size:=qd;clear cy dj;clear da I8 di M8 dx L;go_wp2_with fail;refine(IF.o q g7 _ g8 _ _ _ I9.o M9.o W9.o).ac ?_;rintro e O ⟨aY,cM,cK,rfl,bX,aM,C⟩;have eO:=Aa (B9.o.aj C);have fk:=C.size;obtain⟨aN,dd,cQ,dW,b8,bk,bS,aI,G⟩:=Ja (dD.o.aj C) (I9.o.J C) (M9.o.J C) (W9.o.J C) (cP.o.tr (Tr.ab (S:=λ_=>True) C)) (ei.o.tr (Tr.ab (S:=λ_=>True) C)) (cE.o.tr (Tr.ab (S:=λ_=>True) C)) (show IB q.heap.size O.heap.size O O fromλ_ _ _=>rfl) bX;have aK:=Aa aM;have aJ:cK.length=H.length:=by rw[<-aM,yp]
 have aG:=Aa aJ;rw[aJ];have dB:=Aa (λw'(h:IB q.heap.size O.heap.size O w')(h':Bw Z w')=>EQ.o aY a6 cM c6 w' (by rw[<-aK.o];exact(G.o.dZ h).sm.at) (O6.o.J h'));clear bX aM C I9 M9 W9 cP ei cE dD aJ;go_wp2_with fail;refine(dB.o O aI.o aN.o).an λcU y=>?_;have d7:=Aa (eO.o.aj y);have fA:=y.size;obtain⟨bF,bg,dH,c8,dc,cn,bD,bv⟩:=NG (aN.o.aj y) (show IB q.heap.size O.heap.size O cU fromλg h1 h2=>(y.block g qd).j (aI.o g h1 h2)) (dd.o.J y) (cQ.o.J y) (dW.o.J y) (b8.o.tr (Tr.ab (S:=λ_=>True) y)) (bk.o.tr (Tr.ab (S:=λ_=>True) y)) (bS.o.tr (Tr.ab (S:=λ_=>True) y));clear aN aI dd cQ dW b8 bk bS y;go_wp2_with fail;refine(TR.o cU d7.o).ac ?_;rintro e dI ⟨⟨ev,fd,rfl,eh⟩,Y⟩;have eP:=Aa (d7.o.aj Y);have fG:=Y.size;obtain⟨bB,bH,cB,dr,d8,bK,bh,bV,dE⟩:=Ja (bF.o.aj Y) (show IB q.heap.size O.heap.size O dI fromλg h1 h2=>(Y.block g qd).j (bg.o g h1 h2)) (dH.o.J Y) (c8.o.J Y) (dc.o.J Y) (cn.o.tr (Tr.ab (S:=λ_=>True) Y)) (bD.o.tr (Tr.ab (S:=λ_=>True) Y)) (bv.o.tr (Tr.ab (S:=λ_=>True) Y)) eh;clear eh;clear bF bg dH c8 dc cn bD bv Y;go_wp2_with fail;have eU:=Aa (zk4 (some ⟨g7,0,none⟩) (some ⟨ev,0,none⟩) rs.length rs.length rs dI cB.o dE.o aO.o);clear dE;go_wp2_with fail;refine(eU.o).an λdz u=>?_;have ee:=Aa (eP.o.aj u);have fB:=u.size;obtain⟨b5,bY,eE,dU,dR,bE,bi,bl⟩:=NG (bB.o.aj u) (show IB q.heap.size O.heap.size O dz fromλg h1 h2=>(u.block g qd).j (bH.o g h1 h2)) (cB.o.J u) (dr.o.J u) (d8.o.J u) (bK.o.tr (Tr.ab (S:=λ_=>True) u)) (bh.o.tr (Tr.ab (S:=λ_=>True) u)) (bV.o.tr (Tr.ab (S:=λ_=>True) u));clear bB bH cB dr d8 bK bh bV u;clear eE;go_wp2_with fail;refine(TI.o dz ee.o).ac ?_;rintro e c9 ⟨⟨eT,eW,rfl,dX⟩,A⟩;have eR:=Aa (ee.o.aj A);have fi:=A.size;obtain⟨bq,bp,cD,cT,bM,ce,bL,de⟩:=NG (b5.o.aj A) (show IB q.heap.size O.heap.size O c9 fromλg h1 h2=>(A.block g qd).j (bY.o g h1 h2)) (dU.o.J A) (dR.o.J A) (bE.o.tr (Tr.ab (S:=λ_=>True) A)) (bi.o.tr (Tr.ab (S:=λ_=>True) A)) (bl.o.tr (Tr.ab (S:=λ_=>True) A)) dX;clear dX;clear b5 bY dU dR bE bi bl A;have eH:=Aa (VV (some ⟨g8,0,none⟩) (some ⟨eT,0,none⟩) m.length m.length m c9 cD.o de.o az);clear de;go_wp2_with fail;refine(eH.o).an λdk D=>?_;have dq:=Aa (eR.o.aj D);have fm:=D.size;obtain⟨bt,bQ,em,dY,bf,cd,cj⟩:=H5 (bq.o.aj D) (show IB q.heap.size O.heap.size O dk fromλg h1 h2=>(D.block g qd).j (bp.o g h1 h2)) (cD.o.J D) (cT.o.J D) (bM.o.tr (Tr.ab (S:=λ_=>True) D)) (ce.o.tr (Tr.ab (S:=λ_=>True) D)) (bL.o.tr (Tr.ab (S:=λ_=>True) D));clear bq bp cD cT bM ce bL D;clear em;go_wp2_with fail;refine(TW.o dk dq.o).ac ?_;rintro e a8 ⟨⟨rfl,e0,bj⟩,K⟩;have eo:=Aa (dq.o.aj K);have fD:=K.size;obtain⟨b4,cf,cF,bO,ci,b0,df⟩:=H5 (bt.o.aj K) (show IB q.heap.size O.heap.size O a8 fromλg h1 h2=>(K.block g qd).j (bQ.o g h1 h2)) (dY.o.J K) (bf.o.tr (Tr.ab (S:=λ_=>True) K)) (cd.o.tr (Tr.ab (S:=λ_=>True) K)) (cj.o.tr (Tr.ab (S:=λ_=>True) K)) bj.at;clear bj;clear bt bQ dY bf cd cj K;have dL:=Aa (λf c f' c'(h:Gj a8 f d)(h':Gj a8 f' d)=>zmi f f' c c' d a8 h h' aZ cH.o);go_wp2_with fail;refine(dL.o _ _ _ _ cF.o df.o).an λcw I=>?_;have cZ:=Aa (eo.o.aj I);have ff:=I.size;obtain⟨aQ,b9,eB,bT,bn,bG⟩:=Hl (b4.o.aj I) (show IB q.heap.size O.heap.size O cw fromλg h1 h2=>(I.block g qd).j (cf.o g h1 h2)) (cF.o.J I) (bO.o.tr (Tr.ab (S:=λ_=>True) I)) (ci.o.tr (Tr.ab (S:=λ_=>True) I)) (b0.o.tr (Tr.ab (S:=λ_=>True) I));clear b4 cf cF bO ci b0 I;clear df dL;clear eB;have aX:=Aa (zkX (H7 Z.heap.size w7.heap.size) (some ⟨g7,0,none⟩) (rs.map EI) rs.length 1 cw bT.o (by rw[yp];exact ey) (λx hx=>pg aO.o hx) qd qd);rw[yp]at aX;obtain⟨k1,dT⟩:∃z:Int,z=1+(rsW (rs.map EI):Int):=⟨_,rfl⟩
 rw[<-dT]at aX;have dF:0<k1:=qd;have e7:k1<=8388609:=qd;clear dT eD;go_wp2_with fail;refine aX.o.an λaV T=>?_;have cq:Below w.heap.size cw aV:=T.J cZ.o.size (λg hg=>Zi);have dK:=Aa (cZ.o.j cq);have fI:=cq.size;obtain⟨aS,bu,bC,bJ⟩:=BE (aQ.o.j (T.J aQ.o.size (λg hg=>by have h2:=hg.1;omega))) (show IB q.heap.size O.heap.size O aV fromλg h1 h2=>(T.block g qd (λhS=>by have h3:=hS.2;omega)).j (b9.o g h1 h2)) (bn.o.tr T) (bG.o.tr T);clear aQ b9 bT bn bG T cq aX;have cz:=Aa (lY (H7 w7.heap.size w8.heap.size) (some ⟨g8,0,none⟩) m.length m.length k1 aV bC.o az dF qd);obtain⟨U,dM⟩:∃z:Int,z=k1+(m.length:Int):=⟨_,rfl⟩
 rw[<-dM]at cz;have dN:0<U:=qd;have e8:U<=10000000:=qd;clear dM;go_wp2_with fail;refine cz.o.an λa9 aH=>?_;have cL:Below w.heap.size aV a9:=aH.J dK.o.size (λg hg=>Zi);have ef:=Aa (dK.o.j cL);have fF:=cL.size;obtain⟨aE,bo,bA⟩:=AQ (aS.o.j (aH.J aS.o.size (λg hg=>by have h2:=hg.1;omega))) (show IB q.heap.size O.heap.size O a9 fromλg h1 h2=>(aH.block g qd (λhS=>by have h3:=hS.2;omega)).j (bu.o g h1 h2)) (bJ.o.tr aH);clear aS bu bC bJ aH cL cz;have a0:=Aa (zlX (H7 fb q.heap.size) (some ⟨fb,0,none⟩) (d.map λf=>f.ad.length) d.length U a9 bA.o (by rw[yp];exact aZ) (λn hn=>by obtain⟨f,hf,rfl⟩:=yz.1 hn;exact cH.o f hf) dN (by have:=er.o U;omega));rw[yp]at a0;obtain⟨k3,dt⟩:∃z:Int,z=AZ 3 3 U (d.map λf=>f.ad.length):=⟨_,rfl⟩
 have e9:0<k3:=by have:=el.o U;omega
 have eg:¬k3<0:=qd;rw[<-dt]at a0;clear dt;go_wp2_with fail;refine a0.o.an λcA a5=>?_;have cI:Below w.heap.size a9 cA:=a5.J ef.o.size (λg hg=>Zi);have eG:=Aa (ef.o.j cI);have fw:=cI.size;obtain⟨aT,aF⟩:=Ak (aE.o.j (a5.J aE.o.size (λg hg=>by have h2:=hg.1;omega))) (show IB q.heap.size O.heap.size O cA fromλg h1 h2=>(a5.block g qd (λhS=>by have h3:=hS.2;omega)).j (bo.o g h1 h2));clear aE bo bA a5 cI a0;go_wp2_with fail;refine(dB.o cA aF.o aT.o).an λcR ax=>?_;have eL:=Aa (eG.o.aj ax);have fe:=ax.size;obtain⟨cg,bP⟩:=Ak (aT.o.aj ax) (show IB q.heap.size O.heap.size O cR fromλg h1 h2=>(ax.block g qd).j (aF.o g h1 h2));clear aT aF ax;have bd:=Aa (zkr cK aY cM q.heap.size cR (G.o.dZ bP.o) (by rw[aG.o];exact dy) (ZS (by rw[aK.o];exact cG.o)) qd);obtain⟨N,aW⟩:∃l,l=cK.map J6:=⟨_,rfl⟩
 have ae:N.length=H.length:=by rw[aW,yp];exact aG.o
 have dJ:=Aa (show∀s∈N,Hn s by rw[aW];exact ZS (by rw[aK.o];exact cG.o));rw[aG.o,<-aW]at bd;have dS:=Ur N 1 dJ.o;have b1:¬BQ 1 N<0:=qd;have aU:=Aa (λw'(h:Hq w' aY (Gu 1 N))=>zjz N aY cM w' h qd dJ.o);rw[ae]at aU;obtain⟨E,hE⟩:∃z,z=BQ 1 N:=⟨_,rfl⟩
 rw[<-hE]at bd aU b1;clear aW ae dS hE;go_wp2_with fail;refine bd.o.an λew⟨bm,a4⟩=>?_;have ez:=Aa (eL.o.j (a4.ac (by have:=B9.o.size;omega)));have fj:=a4.size;obtain⟨bz,IT⟩:=Ak (cg.o.j (a4.ac qd)) bm;clear bm a4 bd cg bP eg;go_wp2_with fail;refine(aU.o ew IT.o).an λet aB=>?_;have ek:=Aa (ez.o.aj aB);have fg:=aB.size;have b7:=Aa (bz.o.aj aB);clear bz aB;clear aU IT;go_wp2_with fail;refine(TR.o et ek.o).ac ?_;rintro e eN ⟨⟨eM,e6,rfl,ej⟩,aA⟩;have ds:=Aa (ek.o.aj aA);have fq:=aA.size;obtain⟨bZ,cW⟩:=Ak (b7.o.aj aA) ej;clear ej;clear b7 aA;go_wp2_with fail;refine(TI.o eN ds.o).ac ?_;rintro e eK ⟨⟨eQ,eV,rfl,dQ⟩,av⟩;have dA:=Aa (ds.o.aj av);have fK:=av.size;obtain⟨br,d5,cX⟩:=AQ (bZ.o.aj av) (cW.o.J av) dQ;clear dQ;clear bZ cW av;go_wp2_with fail;refine(TW.o eK dA.o).ac ?_;rintro e ep ⟨⟨rfl,eZ,bw⟩,au⟩;have eJ:=Aa (dA.o.aj au);have fv:=au.size;obtain⟨bR,dw,ea,d4⟩:=BE (br.o.aj au) (d5.o.J au) (cX.o.J au) bw.at;clear bw;clear br d5 cX au;go_wp2_with fail;refine(IF.o ep eM _ eQ _ _ _ dw.o ea.o d4.o).ac ?_;rintro e dv ⟨d6,eF,en,rfl,bW,aL,aP⟩;obtain⟨eC,cS,eI⟩:=AQ (eJ.o.aj aP) (bR.o.aj aP) (show Hq dv d6 H by rw[<-aL];exact bW.sm.at);have ch:en.length=H.length:=by rw[<-aL,yp]
 rw[ch];clear bW aL aP dw ea d4 bR ch;go_wp2_with fail;refine(EQ.o d6 a6 eF c6 dv eI.o (O6.o.J cS.o)).an λfE b6=>?_;have eA:=Aa (eC.o.aj b6);clear b6;go_wp2_with fail;go_ret;exact⟨rfl,eA.o⟩
end
section
open Go.Deep
def sY:prog.cellsOf 130=4:=qf
section
variable {H : Type} {enc : TypeId × Value -> H} {w : World} {base : Nat} {spare : Nat -> Bool} {held : Bool}
def rC{n:Nat}{m v1 v2 v3:Value}{x:DataW H × List MemPlace}(h:DataW.trod enc prog w base spare held n 130 [m,v1,v2,v3]=some x) :
  ∃f:Wo,m=I6 f.kind/\v1=I6 f.tag/\v2=.string f.ak/\(∃a c,v3=.slice a f.ad.length c/\Bj w a f.ad)/\(Lit.int .i64 f.tag).wf=true/\f.ak.size<=maxLen/\f.ad.length<=maxLen/\∀v∈f.ad,C8 v:=by
 obtain⟨xs,u,_,rfl,_,b,d⟩:=WK underlying130 h
 match xs,b with
 |[y0,y1,y2,y3],_=>
  have Y:=(d 0 _ rfl).j (show _=some y0 from rfl);have p:=(d 1 _ rfl).j (show _=some y1 from rfl);have l:=(d 2 _ rfl).j (show _=some y2 from rfl);have i:=(d 3 _ rfl).j (show _=some y3 from rfl);simp[GZ]at Y;simp[GZ]at p;simp[JP]at l;simp[xQ]at i;obtain⟨q,O,_,_⟩:=YL underlying3 Y;obtain⟨s,o,_,wt⟩:=YL underlying3 p;obtain⟨t,k,_,r⟩:=Wn underlying9 l;obtain⟨a,c,vs,g,hv,hl,e⟩:=uF i;simp only[Yh,and_true]at O o k g;subst O o k g;exact⟨⟨q,s,t,vs⟩,rfl,rfl,rfl,⟨a,c,rfl,hv⟩,wt,r,hl,e⟩
def tT{n:Nat}{cs:List Value}{x:DataW H × List MemPlace}(h:DataW.trod enc prog w base spare held n 56 cs=some x) :
  ∃a c,∃fs:List Wo,cs=[.slice a fs.length c]/\Gj w a fs/\Rb fs:=by
 rcases open_slice underlying56 h with⟨rfl,_⟩|⟨a,len,cap,m,k,D,B,rfl,_,hl,E,t,_,s⟩
 .exact nA
 have C:len<=m:=by rw[t];split<;>omega
 have each:∀i,i<len->∃f:Wo,(w.cell? (a.add (i*4))=some (I6 f.kind)/\w.cell? (a.add (i*4+1))=some (I6 f.tag)/\w.cell? (a.add (i*4+2))=some (.string f.ak)/\∃d l,w.cell? (a.add (i*4+3))=some (.slice d f.ad.length l)/\Bj w d f.ad)/\(Lit.int .i64 f.tag).wf=true/\f.ak.size<=maxLen/\f.ad.length<=maxLen/\∀v∈f.ad,C8 v:=by
  intro i hi;obtain⟨r,q,y⟩:=s i qd;rw[sY]at q;obtain⟨_,j,O⟩:=XA q
  match r,j with
  |[v0,v1,v2,v3],_=>
   obtain⟨f,rfl,rfl,rfl,⟨d,l,rfl,hv⟩,hf⟩:=rC y;have Y:=O 0 qd;have e1:=O 1 qd;have g:=O 2 qd;have e:=O 3 qd;rw[add_add]at Y e1 g e;exact⟨f,⟨qU,QB,by simpa using g,d,l,by simpa using e,hv⟩,hf⟩
 have:Nonempty (Inhabited Wo):=⟨⟨⟨0,0,ByteArray.empty,[]⟩⟩⟩
 obtain⟨G⟩:=this;obtain⟨f,hf⟩:=choose_lt each;refine⟨some a,cap,(List.range len).map f,qe,?_,qg,?_⟩
 .intro i v hv;obtain⟨A,rfl⟩:=Xd hv;obtain⟨⟨Y,e1,g,d,l,e,p⟩,_⟩:=hf i A;obtain⟨b,o,z⟩:=a;have u:z=none:=VC (by simpa using(hf 0 qd).1.1) Y;subst u;refine⟨b,o,d,l,rfl,?_,?_,?_,?_,p⟩
  .rw[YZ]at Y;exact Y
  .rw[YZ]at e1;exact e1
  .rw[YZ]at g;exact g
  rw[YZ]at e;exact e
 exact XI
end
end
end Go.Proofs.YtikojfajahnhgaaGreat
namespace Go.Proofs.YtikojfajahnhgaaGreat
attribute [local simp] At I6 Pn mzI
attribute [local go_sem] At I6 Pn
open Go.ChangeShapes Go.WideShapes Go.ChangeAt Go.RowKit Go.Joins Go.Proofs.Tryz
open Go.ChangeMaps (open_string shut_string)
def zB(J:Os)(Y:J.Started)(H:Type)(enc:TypeId × Value->H) :
  ReturnsInHanded {} checked J 5 .any (Rows.fnExactFollowSpec.pre6 enc prog Tryz.f5 Rows.fnExactFollowRow.domain false) (Rows.fnExactFollowSpec.post enc prog Tryz.f5 false true false false):=by
 refine returnsInHanded_of_change (C:=checked) Zv Y qf func5
  (ChangeSpec.witness6 (enc:=enc) (C:=checked) false ⟨#[],#[.slice none 0 0,.slice none 0 0,I6 0,.bool false,.slice none 0 0],[]⟩ 8 qf qf qf qf) ?_
 intro W base args ds gs before f n aF _;have O:∀(j:Nat)t v,Tryz.f5.params[j]?=some t->args[j]?=some v->Value.okWide prog W .any base t v:=f;have ay:=n;obtain⟨p,q,s,hV,rfl,aP,aT⟩:=n;have g:DataW.TrodAll enc prog W 0 (λ_=>true) true Tryz.f5.params.toList args.toList ds p:=s;rw[params5]at g O;obtain⟨E,aJ,d0,aS,p0,q0,ak,rfl,rfl,I,r0⟩:=trodAll_cons g;obtain⟨v1,aX,d1,aL,p1,q1,aG,rfl,rfl,y,r1⟩:=trodAll_cons r0;obtain⟨v2,aU,d2,aY,Z,q2,aE,rfl,rfl,u,r2⟩:=trodAll_cons r1;obtain⟨v3,aK,d3,aR,U,q3,aH,rfl,rfl,d,r3⟩:=trodAll_cons r2;obtain⟨v4,aW,d4,a0,p4,q4,aI,rfl,rfl,L,r4⟩:=trodAll_cons r3;obtain⟨rfl,rfl,rfl⟩:=trodAll_nil r4;obtain rfl:args=#[E,v1,v2,v3,v4]:=by cases args;simp_all
 obtain⟨rfl,rfl⟩:=trodVars_none hV;have B:=I;have aB:∀x∈p0,x.block<W.heap.size:=by obtain⟨m,b⟩:=B;exact KM m _ _ _ b
 have D:=y;have N:∀x∈p1,x.block<W.heap.size:=by obtain⟨m,b⟩:=D;exact KM m _ _ _ b
 have A:=u;have am:∀x∈Z,x.block<W.heap.size:=by obtain⟨m,b⟩:=A;exact KM m _ _ _ b
 have K:=d;have T:∀x∈U,x.block<W.heap.size:=by obtain⟨m,b⟩:=K;exact KM m _ _ _ b
 have z:=L;have R:∀x∈p4,x.block<W.heap.size:=by obtain⟨m,b⟩:=z;exact KM m _ _ _ b
 obtain⟨sa,sn,sc,rfl⟩:=okWide_slice underlying55 (O 0 55 E rfl rfl);obtain⟨m2,aw⟩:=I;obtain⟨aV,aO,rs,k,az,_,aC,c⟩:=zF aw;simp only[Value.cells,Yh,and_true,Y4]at k;obtain⟨rfl,rfl,rfl⟩:=k;obtain⟨ma,mn,mc,rfl⟩:=okWide_slice underlying30 (O 1 30 v1 rfl rfl);obtain⟨m1,au⟩:=y;obtain⟨aQ,aM,ms,G,aD,_,aq,_⟩:=vJ au;simp only[Value.cells,Yh,and_true,Y4]at G;obtain⟨rfl,rfl,rfl⟩:=G;obtain⟨cp,rfl,_,_,_⟩:=open_int underlying3 (O 2 3 v2 rfl rfl) u;obtain⟨sg,rfl,_⟩:=open_bool underlying4 (O 3 4 v3 rfl rfl) d;obtain⟨oa,on,oc,rfl⟩:=okWide_slice underlying56 (O 4 56 v4 rfl rfl);obtain⟨m4,ar⟩:=L;obtain⟨aZ,aN,ws,r,av,M⟩:=tT ar;simp only[Value.cells,Yh,and_true,Y4]at r;obtain⟨rfl,rfl,rfl⟩:=r;clear s f;refine(rL rs ms cp sg ws _ _ _ _ _ _ W az ⟨aC,λv hv=>(c v hv).1.1⟩ (λv hv=>(c v hv).1.2) (λv hv=>(c v hv).2) aD aq av M).ac λe W'⟨he,bel⟩=>?_;subst he;exact⟨_,rfl,_,_,_,[],_,[],ay,trodAll_mk1 (shut_bool underlying4 _),(trodAll_cons_mk (Qo MC qf (of_decide_eq_true qf) B bel aB) (trodAll_cons_mk (Qo MC qf (of_decide_eq_true qf) D bel N) (trodAll_cons_mk (Qo MC qf (of_decide_eq_true qf) A bel am) (trodAll_cons_mk (Qo MC qf (of_decide_eq_true qf) K bel T) (trodAll_cons_mk (Qo MC qf (of_decide_eq_true qf) z bel R) trodAll_mk0))))),rfl,bel.frame _,λh=>by cases h⟩
end Go.Proofs.YtikojfajahnhgaaGreat
namespace Go.Proofs.YtikojfajahnhgaaGreat
attribute [local simp] At I6 Pn mzI
attribute [local go_sem] At I6 Pn
open Go.ChangeShapes Go.WideShapes Go.ChangeAt Go.RowKit Go.Joins Go.Proofs.Tryz
theorem fnExactFollow_holds:Rows.FnExactFollowSaid:=
 OpenClaim.holds_of_wide 5 Tryz.f5 rfl rfl rfl rfl rfl rfl rfl ⟨rfl,rfl,rfl,rfl,rfl⟩ rfl rfl rfl rfl rfl (by as_aux_lemma=>kernel_rfl) func5 xn
  (of_decide_eq_true (by as_aux_lemma=>kernel_rfl)) (by unfold Func.isWrapper;first|(rw[if_pos Ns];kernel_rfl)|(rw[if_neg Ns];exact⟨rfl,rfl⟩))
  (λa O H enc _=>zB a O H enc)
#print axioms fnExactFollow_holds
end Go.Proofs.YtikojfajahnhgaaGreat
