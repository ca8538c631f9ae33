import Derived.Test.YtikojfajahnhgaaGreatKbk
import Derived.Test.YtikojfajahnhgaaGreatKbx
set_option linter.all false
set_option maxRecDepth 100000
namespace Go.Proofs.YtikojfajahnhgaaGreat
attribute [local simp] At I6 Pn mzI
attribute [local go_sem] At I6 Pn
open Go.RowKit Go.Maps Go.Proofs.Tryz
attribute [local go_sem ↓] wp_at_zero wp_at_succ
def Js(nw gb base:Nat)(la:Option Addr)(lc:Nat)(L:List FP)(bs:List Nat)(fb:Nat)(ma:Option Addr)(mc:Nat)(Ms:List MK):NT:=⟨nw,gb,base,base,la,lc,L,bs,fb,ma,mc,Ms,base⟩
def adr0:F->Addr:=λ_=>⟨0,0,none⟩
structure LH(N:NT) (adr:F->Addr) (U fs:List F) (V:List Value) (olds:List (List Kt)) (rs:List Ru) (ms:List Int) (w:World):Prop where
 ok:FH N
 bx:DV N adr U fs V w
 st:Ch N adr U (N.vw V fs) (λ_=>gV (N.vw V fs)) olds w
 ol:olds.length=N.Ms.length
 len:N.Ms.length=rs.length
 bu:∀(i:Nat)(m:MK)(r:Ru),N.Ms[i]?=some m->rs[i]?=some r->∃d,ms[i]?=some d/\m.X.map Cx.cp=Bz r.af [] 0/\m.bg d
 bC:∀(i:Nat)(m:MK)(old:List Kt),N.Ms[i]?=some m->olds[i]?=some old->old.Perm ((BV (m.X.map (Cv (N.vw V fs))) []).map (Ab adr))
def Mg.aN{N:NT}{adr:F->Addr}{U fs:List F}{V:List Value}{a:List (List Kt)}{rs:List Ru}{b:List Int}{P:List Px}{w:World}(h:Mg N adr U fs V a b P w)(O:IA P rs rs.length)(hl:N.Ms.length=rs.length):LH N adr U fs V a rs b w:=
 ⟨h.ok,h.bx,h.st,h.ol,hl,λi m r j e=>by
  obtain⟨x,d,g,f,c,_,k⟩:=h.bu i m j
  exact⟨d,f,by rw[c];exact(O.2 i x r g e).1,k⟩,h.bC⟩
def rI(rs:List Ru)(ms:List Int)(w:World)(e:Ending)(w':World):Prop:=∃(N:NT)(adr:F->Addr)(V:List Value)(olds:List (List Kt)),e=.returned (.pointer (some ⟨N.nw,0,none⟩))/\LH N adr [] [] V olds rs ms w'/\w'.heap[N.fb]?=some (.map #[] 0)/\Bw w w'/\N.base=w.heap.size/\N.B=w.heap.size
def Ir:List Value:=[.func (.func 92) #[] #[],.func (.func 93) #[] #[]]
def uH:(prog.info? 165).map (λi=>(i.zero,i.size,i.bytes))=some (some .nilIface,1,16):=qf
def xh{P:World->Prop}{w:World}{b:Nat}{t:TypeId}{x0 x1 c a:Value}(O:w.heap[b]?=some (.cells #[x0,x1,c] t (0,0)))(h:∀wt,wt.heap[b]?=some (.cells #[x0,x1,a] t (0,0))->Turned w wt b->P wt):P (w.setCell ⟨b,2,none⟩ a):=h _ (by have:=Fq (i:=2) O a;simpa using this) (Turned.setCells [a] 2 w b)
def sE:(prog.info? 163).map (·.size)=some 2:=qf
def xI:∀v∈Ir,v.oneCell'=true:=by
 intro v hv;simp only[Ir,yO,YI,or_false]at hv;rcases hv with rfl|rfl<;>rfl
def ml{P:Prop}(h:P:=by injection this with this;injection this with _ this;exact absurd this (by decide)):P:=h
set_option maxHeartbeats 12800000 in
def zoK(rs:List Ru)(W:List Int)(a:Option Addr)(c:Nat)(am:Option Addr)(cm:Nat){q q':Option Nat}(w:World)(hv:Do q w a rs)(cO:CP Ru.le 1048576 rs)(co:∀r∈rs,∀p∈r.af,∀t∈p.aa,C8 t.val)(a6:(Bh rs).1=0)(cJ:Bf q' w am W)(b9:W.all Dy=true)(b4:W.length=rs.length) :
  Ca 44 #[.slice a rs.length c,.slice am W.length cm,.slice none 0 0] w (rI rs W w):=by
 obtain⟨kl,K⟩:=Mr.bV;obtain⟨HV,dE,di,dO⟩:=BE hv cO co cJ;have d7:=(Sb a6).1;obtain⟨dF,dq,dQ,cq⟩:=BE (λr(hr:r∈rs)=>Qf a6 hr) a6 b9 b4;have dM:=ly (P:=prog) 156;clear hv cO co cJ a6 b9 b4;go_enter func44,ntmps44;go_wp2_with fail;refine(zl8 kl w).an λZ⟨bm,bw⟩=>?_;obtain⟨G3,B3⟩:=Ak bm bw;have dk:=bw.size;clear bm bw;go_upto_region 2 with fail;refine Bt ?_;intro n O Y;have hA:Bw Z (Z.alloc (.map #[] 0)):=Af;have hz:(Z.alloc (.map #[] 0)).heap.size=Z.heap.size+1:=qe;unfold Bw at O;rw[hz]at Y O;have bK:n.heap[Z.heap.size]?=some (.map #[] 0):=(O.block _ qd).j (heap_alloc_new Z _);have hW:Bw Z n:=hA.j (O.ac qd);obtain⟨I,B5⟩:=Ak (G3.o.ar hW) (B3.o.aj hW);have ds:Z.heap.size+1<n.heap.size:=As Y;obtain⟨s,cr⟩:∃s,s=Z.heap.size+1:=⟨_,rfl⟩
 obtain⟨y,cj⟩:∃y,y=Z.heap.size:=⟨_,rfl⟩
 obtain⟨A,cg⟩:∃A,A=w.heap.size+1:=⟨_,rfl⟩
 obtain⟨base,bP⟩:∃v,v=w.heap.size:=⟨_,rfl⟩
 rw[<-cr]at Y ds⊢;rw[<-cj]at Y bK;rw[<-cg]at Y I;have d5:base<=A:=qd;have c8:Hid (NS kl n base A base none 0 [] [] (.map [])):=by rw[bP];exact I.o
 obtain⟨Q5,M5⟩:=Ak Y bK;have af:w.heap.size<=base:=qd;have cM:base<=n.heap.size:=by have:=B5.o.size;omega
 have dN:base<=s:=by have:=B3.o.size;omega
 have dy:base<=y:=by have:=B3.o.size;omega
 have cf:y≠base:=by have:=G3.o.map.lt;omega
 have ce:=Aa bP;clear hA hz bK hW O Y I G3 B3 cr cj cg bP dM dk;go_wp2_with fail
 go_loopw [22,8] (λiv pv wr=>∃(k:Nat)(pa:Option Addr)(pc:Nat)(P:List Px)(la:Option Addr)(lc:Nat)(L:List FP)(M:List Nat)(D:DataW Unit),iv=I6 (k:Int)/\pv=.slice pa P.length pc/\k<=rs.length/\P.length<=k/\IA P rs k/\L.length<=6*k/\(∀x∈L,x.1.ah.length<=6)/\NS kl wr base A base la lc L M D/\Fi wr base pa pc P (L.map Prod.fst) M/\Bw w wr/\base<=wr.heap.size/\wr.heap[s]?=some (.cells #[Pn A,.map (some y),.slice none 0 0] 159 (0,0))/\wr.heap[y]?=some (.map #[] 0)) (λiv _ _=>rs.length-(intOf iv).toNat)
 case atStart=>exact⟨0,none,0,[],none,0,[],[],_,rfl,rfl,yA _,yX _,⟨rfl,λi x r hx=>qN⟩,yX _,λx hx=>qN,c8.o,⟨y9 _ _ _ _,λx hx=>qN⟩,B5.o,cM,Q5.o,M5.o⟩
 case round=>
  obtain⟨k,pa,pc,P,la,lc,L,M,D,rfl,rfl,du,d6,bX,ea,bl,cA,bt,hB,b6,hQ,cw⟩:=hrel;obtain⟨PX,cF,G,PL,B,QN,N⟩:=H5 bX bl cA bt hB hQ cw;clear bX bl cA bt hB hQ cw c8 B5 Q5 M5;by_cases hk:k<rs.length
  .obtain⟨r,hr⟩:=AJ hk;obtain⟨rb,ro,aK,aM,aV,aS,aH,aN,rfl,_,c0,c1,c2,c3,c4,cu,_,_,_⟩:=HV.o.get hr;have d0:=zab B.o c0;have d1:=zab B.o c1;have d2:=zab B.o c2;have d3:=zab B.o c3;have d4:=zab B.o c4;have aY:=yd hr;obtain⟨dG,ch,_⟩:=dF.o r aY;obtain⟨bW,HR⟩:=Ak (λw'(hN:NS kl w' base A base la lc L M D)(hA:Bw w w')(hb:base<=w'.heap.size)=>znl kl K r aK aM aV aS aH aN base A base la lc L M D w w' hA af hb cu hN dG ch (dE.o.2 r aY).2.1.2 (di.o r aY) qd cF.o) hr;have z0:(0:Int)<=(k:Int):=qd;have z1:(k:Int)<(rs.length:Int):=qd;clear c0 c1 c2 c3 c4 cu hr ch aY;go_upto_region 6 with fail;refine Bt ?_;intro n O Y;have y0:At n wr.heap.size 0 (.string r.name):=qE;have y1:At n wr.heap.size 1 (I6 r.aH):=qE;have y2:At n wr.heap.size 2 (.slice aK r.af.length aM):=qE;have y3:At n wr.heap.size 3 (.slice aV r.exprs.length aS):=qE;have y4:At n wr.heap.size 4 (.slice aH r.ao.length aN):=qE;obtain⟨aF,bf⟩:=Ak ((O.block _ (As QN.o)).j QN.o) ((O.block _ (ym.1 N.o).1).j N.o);have q0:=AF (L:=[_,_,_]) aF.o (j:=0) rfl;obtain⟨I,dU,B5⟩:=AQ (G.o.ar O) (PL.o.ar O) (B.o.aj O);have dV:=O.size;have cU:base<=n.heap.size:=qd;have aW:=Aa Y;clear O Y d0 d1 d2 d3 d4 G PL B QN N;have bE:Bw n n.drew:=Aj.drew;obtain⟨ay,bu,bJ⟩:=AQ (I.o.ar bE) (dU.o.ar bE) (B5.o.aj bE);refine wp_region_noPanic ?_;refine wp_region_held_drew (S:=(λu=>At u wr.heap.size 0 (.string r.name)/\At u wr.heap.size 1 (I6 r.aH)/\At u wr.heap.size 2 (.slice aK r.af.length aM)/\At u wr.heap.size 3 (.slice aV r.exprs.length aS)/\At u wr.heap.size 4 (.slice aH r.ao.length aN)/\At u s 0 (Pn A))) qf ?_ (λhHeld=>?_)
   ·(try dsimp only);exact⟨y0,y1,y2,y3,y4,q0⟩
   refine sr 0 6 ?_;refine r1 6 λK hK=>?_;go_simp;refine(bW.o n.drew ay.o bJ.o cU).ac ?_;rintro e E ⟨ag,a1,L',al,D',ca,cc,va,vc,X,rfl,hX,bT,aD,ak,_,dd,bp,dW,h6⟩;obtain⟨aU,G6,dz,dx,EX,dJ,HX,H6⟩:=NG (ak.own bu.o.row ay.o qh qh) bT (aD.lower (show base<=n.drew.heap.size from cU)) ak dd bp hX h6;have d9:n.heap.size<=E.heap.size:=ak.rest.size;have dP:base<=E.heap.size:=qd;have aT:∀k cs t,n.heap[k]?=some (.cells cs t (0,0))->t≠194->(Value.slice la L.length lc).ownBlock≠some k:=λk cs t hk ht e=>by
    obtain⟨c',T⟩:=A8 I.o.row e;exact CB hk T ht
   have aR:E.heap[s]?=some (.cells #[Pn A,.map (some y),.slice none 0 0] 159 (0,0)):=by
    have hl:=As aF.o;obtain⟨es,cl,aL⟩:=IK I.o.map;refine(ak.block s hl (λe=>?_) (λe=>?_) (aT s _ _ aF.o qh)).j aF.o
    .have:=I.o.box;unfold GB at this;rw[<-e,aF.o]at this;exact ml
    rw[<-e,aF.o]at aL;cases aL
   have aG:E.heap[wr.heap.size]?=some (.cells #[.string r.name,I6 r.aH,.slice aK r.af.length aM,.slice aV r.exprs.length aS,.slice aH r.ao.length aN] 53 (0,0)):=by
    obtain⟨es,cl,aL⟩:=IK I.o.map;refine(ak.block _ (As aW.o) (λe=>?_) (λe=>?_) (aT _ _ _ aW.o qh)).j aW.o
    .have:=I.o.box;unfold GB at this;rw[<-e,aW.o]at this;exact ml
    rw[<-e,aW.o]at aL;cases aL
   have hS:∀u:World,u.heap[s]?=E.heap[s]?->u.heap[wr.heap.size]?=E.heap[wr.heap.size]?->(At u wr.heap.size 0 (.string r.name)/\At u wr.heap.size 1 (I6 r.aH)/\At u wr.heap.size 2 (.slice aK r.af.length aM)/\At u wr.heap.size 3 (.slice aV r.exprs.length aS)/\At u wr.heap.size 4 (.slice aH r.ao.length aN)/\At u s 0 (Pn A)):=λu R h2=>by
    have k1:=R.j aR;have k2:=h2.j aG;obtain⟨x0,x1,x2,x3,x4⟩:=Gc k2;exact⟨x0,x1,x2,x3,x4,AF (L:=[_,_,_]) k1 (j:=0) rfl⟩
   have B6:=Aa (bJ.o.j (ak.J bJ.o.size (yi af ay.o.bE.1) (yi af ay.o.bE.2) (λg hg=>yi af (ay.o.row.lt g hg).1)));have bn:E.heap[y]?=some (.map #[] 0):=by
    refine(ak.block y (ym.1 bf.o).1 (λe=>?_) (λe=>cf e) (λe=>?_)).j bf.o
    .have:=I.o.box;unfold GB at this;rw[<-e,bf.o]at this;cases this
    obtain⟨c',T⟩:=A8 I.o.row e;rw[bf.o]at T;cases T
   obtain⟨bS,bQ,bN,bG,H⟩:=DU bn hS aR aG (λo=>Aj.alloc AA o:∀o,Bw E (E.alloc o));have TY:=Aa (λo g hg=>A8 (Bg aU.o (H.o o)) (k:=g) hg);clear hX bT aD ak dd bp h6 y0 y1 y2 y3 y4 q0 bW aR aG hS aT bn;(try go_wp2_with fail);refine hK.o _ _ ?hS1 (λbg=>?_)
   case hS1=>exact bQ.o _ rfl rfl
   clear hK K hHeld;(try simp only[pA,pZ,pS,pN]);refine r1 7 λK hK=>?_;go_simp;refine hK.o _ _ ?hS2 (λbh=>?_)
   case hS2=>exact bQ.o _ ((H.o _).block _ (As bN.o)) ((H.o _).block _ (As bG.o))
   clear hK K bg;(try simp only[pA,pZ,pS,pN]);refine r1 8 λK hK=>?_;refine IY qi (.tmp 26) (.tmp 33) 97 qi base 102 _ 2 48 underlying97 tU qi qd _ P.length _ qi (Bg aU.o (H.o _)) (some ⟨_,0,none⟩) 1 1 qi (Jk ⟨ca,cc,va,vc,X,DS r.af [] 0⟩) qi (λe=>qp) (Et _ _ _ _ qH) (su _) qm qd (yi dP (H.o _).size) ?_;intro a7 c7 w7 ad z ap;have dh:=z.o.size;simp at dh;have aP:∀(k:Nat)(cs:Array Value)(t:TypeId),E.heap[k]?=some (.cells cs t (0,0))->t≠102->w7.heap[k]?=some (.cells cs t (0,0)):=λk cs t hk ht=>by
    have aI:=As hk;refine(z.o.block k (yh aI (H.o _).size) (λe=>?_)).j (((H.o _).block k aI).j hk);obtain⟨c',T⟩:=A8 aU.o e.ai;exact CB hk T ht
   have da:=Aa (aP _ _ _ bN.o qh);have dD:=Aa (aP _ _ _ bG.o qh);have dB:=Aa (show w7.heap[y]?=some (.map #[] 0) from by
    have aI:=(ym.1 bS.o).1;refine(z.o.block y (yh aI (H.o _).size) (λe=>?_)).j (((H.o _).block y aI).j bS.o);obtain⟨c',T⟩:=A8 aU.o e.ai;rw[bS.o]at T;cases T)
   obtain⟨dI,G7,B7,dK⟩:=BE (bu.o.push (x:=⟨ca,cc,va,vc,X,DS r.af [] 0⟩) ay.o dx.o EX.o dJ.o dz.o z.o ad.o) ((G6.o.ar (H.o _)).grown z.o (TY.o _) Nv) ((B6.o.j ((H.o _).ac B6.o.size)).grown z.o (yi B6.o.size (H.o _).size) (λg hg=>yi af (aU.o.lt g hg).1)) (PX.o.snoc (x:=⟨ca,cc,va,vc,X,DS r.af [] 0⟩) HR.o HX.o rfl);have b0:base<=w7.heap.size:=qd;refine hK.o _ _ ?hS3 (λa0=>?_)
   case hS3=>exact bQ.o _ (da.o.j bN.o.ai) (dD.o.j bG.o.ai)
   clear hK K bh ap ad z aP;(try simp only[pA,pZ,pS,pN]);refine tk 9 a0 ?_;(try simp only[pA,pZ,pS]);refine wpAnyH_done qf ?_ _;refine Yf ?_;go_wp2_with fail;go_roundw
   case rel=>exact⟨k+1,a7,c7,P++[⟨ca,cc,va,vc,X,DS r.af [] 0⟩],ag,a1,L',al,D',ql,qe,qd,qg,dK.o,qd,H6.o,G7.o,dI.o,B7.o,b0,da.o,dB.o⟩
   case measure=>(simp[intOf];omega)
  obtain rfl:k=rs.length:=qd;have hy:¬(rs.length:Int)<(rs.length:Int):=qd;have bF:=Aa (NF.dI G.o);obtain⟨wQ,cd⟩:∃v,v=wr:=⟨wr,rfl⟩
  rw[<-cd]at bF PL B QN N b6⊢;clear G cd;go_wp2_with fail
  go_loopw [38] (λiv wr=>iv=I6 0/\wr=wQ) (λ_ _=>0)
  case atStart=>exact⟨rfl,rfl⟩
  case round=>
   obtain⟨rfl,rfl⟩:=hrel;go_upto_region 15 with(first|(refine EH qi 163 (.tmp 12) (.tmp 62) qi wr.heap.size Ir qi qi _ 163 (Eu _ _ _ rfl) qi sE xI ?_;intro w8 cy ae)|fail);have ao:Bw wr w8:=Af.j (ae.o.J AA);obtain⟨cC,B8,b7⟩:=AQ (PL.o.ar ao) (B.o.aj ao) ((ao.block _ (ym.1 N.o).1).j N.o);have dp:L.length<=1000:=qd;have cY:base<=w8.heap.size:=yi b6 ao.size;obtain⟨cP,bM⟩:=Ak (show Mg (Js s A base la lc L M y none 0 []) adr0 [] [] (List.replicate L.length (.slice none 0 0)) [] W P w8 from⟨⟨λm hm=>(by cases hm),λi j m m' R=>(by simp[Js]at R),λm hm=>(by cases hm),λx hx=>yi (cF.o x hx) qd,dp,yA _,λm hm=>(by cases hm),dy⟩,⟨(ao.block _ (As QN.o)).j QN.o,bF.o.ar ao,y9 _ _ _ _,λm hm=>(by cases hm),λf hf=>Jp,cY⟩,λi m old R=>(by simp[Js]at R),rfl,λi m R=>(by simp[Js]at R),λi m old R=>(by simp[Js]at R)⟩) cy.o;obtain⟨ab,cG⟩:∃ab,ab=wr.heap.size:=⟨_,rfl⟩
   rw[<-cG]at bM⊢;have bV:P.length=rs.length:=PX.o.1;have cW:=Aa bV;clear cG ao cy ae bF PL B QN N bV;go_wp2_with fail
   go_loopw [65] (λiv wr=>∃(ma:Option Addr)(mc:Nat)(Ms:List MK)(C:List (List Kt)),iv=I6 (Ms.length:Int)/\Ms.length<=P.length/\Mg (Js s A base la lc L M y ma mc Ms) adr0 [] [] (List.replicate L.length (.slice none 0 0)) C W P wr/\Fi wr base pa pc P (L.map Prod.fst) M/\wr.heap[y]?=some (.map #[] 0)/\wr.heap[ab]?=some (.cells Ir.toArray 163 (0,0))/\Bw w wr) (λiv _=>P.length-(intOf iv).toNat)
   case atStart=>exact⟨none,0,[],[],rfl,yA _,cP.o,cC.o,b7.o,bM.o,B8.o⟩
   case round=>
    obtain⟨ma,mc,Ms,C,rfl,du,cn,b8,dc,cz,hB⟩:=hrel;obtain⟨MG,PL,N,AB,B⟩:=DU cn b8 dc cz hB;clear cn b8 dc cz hB cP cC b7 bM B8;by_cases hk:Ms.length<P.length
    .obtain⟨x,hx⟩:∃x,P[Ms.length]?=some x:=⟨P[Ms.length],Jq⟩
     have cH:Ms.length<rs.length:=by rw[<-cW.o];exact hk
     obtain⟨r,hr⟩:∃r,rs[Ms.length]?=some r:=⟨rs[Ms.length],by simp[cH]⟩
     obtain⟨d,hd⟩:∃d,W[Ms.length]?=some d:=⟨W[Ms.length]'(by rw[cq.o];exact cH),qe⟩
     obtain⟨xX,xU⟩:=PX.o.2 _ x r hx hr;have bk:=Rs dq.o (yd hr) xX;have aD:=PL.o.each x (yd hx);obtain⟨p1,p2⟩:=aD.pre (m:=.inr ⟨x.X,x.ca,0,none,0,0,0,0,0,0⟩) (U:=[]) (fs:=[]) MG.o.bx.nf MG.o.bx.us.facts (λf hf=>hf);have cD:=fM (U:=[]) (fs:=[]) p2 (λf hf=>hf) We qe;have bj:Bm adr0 []:=λf hf=>by cases hf
     have key:=λj u(hj:(Jk x)[j]?=some u)=>CC PL.o.row (Ig (cells:=Jk) (m:=2) (λ_=>rfl) P Ms.length x j u hx hj);obtain⟨pb,ci,_,h0,_⟩:=key 0 _ rfl;obtain⟨dX,aA,_,R,_⟩:=key 1 _ rfl;rw[ci]at aA;injection aA with aA;injection aA with aA;subst aA;obtain⟨az,aE,aB,ax,aC,aw⟩:=x;obtain⟨eb,dj,bO,bH,cv,dl,HD⟩:=H5 xX aD cD p1 bk hx hd;obtain⟨cB,mo,dL,_,m0⟩:=dO.o.get hd;subst dL;subst ci;have cV:=zab B.o m0;have dR:d=0∨d=1:=by
      have:=YX.1 dQ.o d (yd hd);simpa[Dy] using this
     have z0:(0:Int)<=(Ms.length:Int):=qd;have z1:(Ms.length:Int)<(P.length:Int):=qd;have z2:(Ms.length:Int)<(W.length:Int):=by rw[cq.o];omega
     have cI:Ms.length<1000:=qd;have f0:=AF (L:=Ir) AB.o (j:=0) rfl;have f1:=AF (L:=Ir) AB.o (j:=1) rfl;simp only[YJ]at h0;clear xX aD cD p1 p2 bk hx hd hr xU m0 key;have dv:Jk ⟨az,aE,aB,ax,aC,aw⟩=[.slice az aC.length aE,.slice aB aw.length ax]:=rfl;clear dv;go_upto_region 18 with fail;refine Bt ?_;intro n O Y;have dZ:=Aa O;obtain⟨y0,y1⟩:=Ay Y;have g0:=zab O f0;have g1:=zab O f1;have gm:=zab O cV;have bZ:Bw wr n.drew:=O.drew;have a5:=Aa bZ;have a3:=O.size;clear O Y f0 f1 cV h0 R bZ;rcases dR with rfl|rfl
     focus
      have aX:=Aa (λ(u:World)(hb:Bw wr u)=>zk0 aC adr0 [] (Hh L M (List.replicate L.length (.slice none 0 0)) []) az aE aB aw.length ax cv.o bO.o bj u (bH.o.ck (CK.ab hb)).cx (λf hf=>Jp))
      go_region_held3 (λu=>At u cB (mo+Ms.length) (I6 0)/\At u ab 0 (.func (.func 92) #[] #[])/\At u wr.heap.size 0 (.slice az aC.length aE)/\At u wr.heap.size 1 (.slice aB aw.length ax))
       ((go_split_ands;first|done|(refine⟨?_,?_,?_,?_⟩<;>first|assumption|with_reducible exact zab aJ qj|exact zab Aj.drew qj))) (first|(go_at_call 92;refine(aX.o _ a5.o).ac ?_;rintro e E ⟨m,rfl,bc,bI,bd,bR,aQ,bL,aJ⟩)|fail)
     rotate_left
     focus
      have aX:=Aa (λ(u:World)(hb:Bw wr u)=>zkt aC adr0 [] (Hh L M (List.replicate L.length (.slice none 0 0)) []) az aE aB aw.length ax cv.o bO.o bj u (bH.o.ck (CK.ab hb)).cx (bH.o.ck (CK.ab hb)).nd (λf hf=>Jp))
      go_region_held3 (λu=>At u cB (mo+Ms.length) (I6 1)/\At u ab 1 (.func (.func 93) #[] #[])/\At u wr.heap.size 0 (.slice az aC.length aE)/\At u wr.heap.size 1 (.slice aB aw.length ax))
       ((go_split_ands;first|done|(refine⟨?_,?_,?_,?_⟩<;>first|assumption|with_reducible exact zab aJ qj|exact zab Aj.drew qj))) (first|(go_at_call 93;refine(aX.o _ a5.o).ac ?_;rintro e E ⟨m,rfl,bc,bI,bd,bR,aQ,bL,aJ⟩)|fail)
     rotate_left
     all_goals
      obtain⟨cN,dt,dw,de,dr,d8,bY,bA,bz⟩:=Ja (a5.o.aj aJ) bc bI bd bR aQ (λg q=>yi a5.o.size (bL g q):∀g,m.S g->wr.heap.size<=g) (V8 m aQ) (mR m adr0 [] _ [] E aQ bd bj (by rw[bc];exact bO.o));clear bc bI bd bR aQ bL aJ aX y0 y1 g0 g1 gm;obtain⟨dY,bo⟩:∃b,b=m.cb:=⟨_,rfl⟩
      rw[<-bo]at bA bz;clear bo;rw[MK.bZ m];have q1:=λu=>Uf m u;have q2:=UJ m;go_wp2_with fail;refine bA.o.an λw7 dm=>?_;subst dm;go_wp2_with fail;refine bz.o.an λw8⟨⟨K,cK,bU⟩,cT,aO⟩=>?_;obtain⟨dT,dS,cE⟩:=AQ cK bU aO;have aj:Bw wr w8:=Av.bf cN.o aO bY.o;obtain⟨cS,bi,a4⟩:=AQ aj ((aj.block _ (As MG.o.bx.box)).j MG.o.bx.box) (Bg MG.o.bx.row aj);have bv:=AF (L:=[_,_,_]) bi.o (j:=2) rfl;have cR:w8.frozen? ⟨s,2,none⟩=false:=by have:=bi.o;simp only[Js]at this;simp[World.frozen?,this]
      have bB:=aj.size;have aq:=Aa (λo=>Aj.alloc AA o:∀o,Bw w8 (w8.alloc o));have a2:base<=w8.heap.size:=yi MG.o.bx.hb bB;simp only[Js]at bv;have df:=Aa (MK.bZ m);clear cK bU cT aO aj bA bz q1 q2;go_upto_region 21 with(first|(at_builtin;refine EU qi (.tmp 85) (.tmp 87) 157 qi base 165 _ 1 16 underlying157 uH qi qd _ Ms.length _ qi (Bg a4.o (aq.o _)) (some ⟨_,0,none⟩) 1 1 qi [.iface m.dw m.ptr] qi (λe=>qp) (Et _ _ _ _ qH) (by intro u hu;rw[yv.1 hu];rfl) qm qd qg ?_;intro a9 c9 w9 bD aZ dC;have ai:=Aa (Gq ((aq.o _).block _ (As bi.o) |>.j bi.o) aZ.o (λk hk=>A8 (Bg a4.o (aq.o _)) hk) qh);have bq:=AF (L:=[_,_,_]) ai.o (j:=2) rfl;have cL:w9.frozen? ⟨s,2,none⟩=false:=(by have:=ai.o;simp only[Js]at this;simp[World.frozen?,this]);simp only[Js]at bq)|fail);refine xh ai.o ?_;intro a8 br av;have bC:Er w8 a8:=((Er.ab (aq.o _)).j (Er.az aZ.o (λk hk=>A8 (Bg a4.o (aq.o _)) hk))).j (Er.bw av ai.o);have au:a8.ownsRow base 165 1 (.slice a9 (Ms.length+1) c9) (Ms.length+1) (Ms.map MK.val++[m.val]):=by
       rw[df.o];refine BZ bD.o λk hk=>av.block k λe=>?_;obtain⟨c',T⟩:=A8 bD.o hk;subst e;exact CB T ai.o qh
      have cZ:=Aa (MG.o.more (Gi.mk bj (λf hf=>hf) We qe) (ym.1 N.o).1 dl.o HD.o cI dj.o dt.o dw.o de.o dr.o bY.o cN.o dS.o dT.o cE.o bC br au);have ar:Er wr a8:=(Er.ab cS.o).j bC;obtain⟨b5,cQ,cX,dH⟩:=BE (PL.o.fm ar) (ar.maps _ _ N.o (λ_ _ _ e=>qp)) (ar.kept _ _ _ _ AB.o qh qh) (show Bw w a8 from(((B.o.aj cS.o).j ((aq.o _).ac (yi B.o.size bB))).grown aZ.o (yi (yi B.o.size bB) (aq.o _).size) (λg hg=>yi af (a4.o.lt g hg).1)).j (av.J (yi af dN)));clear br av bC au ar bD aZ dC ai bq cL bv cR;go_wp2_with fail;go_roundw
      case rel=>exact⟨a9,c9,Ms++[m],C++[K],qe,(by rw[yR];exact hk),cZ.o,b5.o,cQ.o,cX.o,dH.o⟩
      case measure=>(simp[intOf];omega)
    obtain dA:Ms.length=P.length:=qd;have hy:¬(Ms.length:Int)<(P.length:Int):=qd;go_wp2_with fail;go_ret;exact⟨Js s A base la lc L M y ma mc Ms,adr0,_,C,rfl,MG.o.aN PX.o (dA.j cW.o),N.o,B.o,ce.o,ce.o⟩
end Go.Proofs.YtikojfajahnhgaaGreat
