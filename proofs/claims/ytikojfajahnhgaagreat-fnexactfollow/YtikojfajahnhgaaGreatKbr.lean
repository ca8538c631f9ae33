import Derived.Test.YtikojfajahnhgaaGreatKbq
set_option linter.all false
set_option maxRecDepth 100000
namespace Go.Proofs.YtikojfajahnhgaaGreat
attribute [local simp] At I6 Pn mzI
attribute [local go_sem] At I6 Pn
open Go.RowKit Go.Proofs.Tryz
variable{P:Prop}
attribute [local go_sem ↓] wp_at_zero wp_at_succ
theorem run_store_ifR {P:Program} (w:World) (a:Addr) (m:Mode) (t:TypeId) (v:Value):(store a (.iface t v) m).run P w=stored P w a (.iface t v) m:=run_store P w a _ m rfl
attribute [local go_sem] run_store_ifR
def Uv{P:World->Prop}{w b t x0 x1 y0}(O:w.heap[b]?=some (.cells #[x0,x1] t (0,0)))(h:∀wt,wt.heap[b]?=some (.cells #[y0,x1] t (0,0))->Turned w wt b->P wt):P (w.setCell ⟨b,0,none⟩ y0):=by
 exact mr
structure NV(X:List Cx) (adr:F->Addr) (U:List F) (vw:Vw) (ca:Option Addr):Prop where
 small:∀c∈X,c.cp.ah.length<=6/\c.cp.aq.ah.length<=1048576/\(c.cp.neg=false->c.cp.at_<3)
 sr:D_ (X.map (BM U)) []
 ne:X≠[]
 X6:X.length<=6
 dR:EB U X (gV vw)
 inj:Bm adr U
def Z1{c x}(h:c.cp.neg=false):Ew c x=[x.tb]:=by
 unfold Ew;rw[h]
def ZX{c x}(h:c.cp.neg=true):Ew c x=[x.tb,x.bb]:=by
 unfold Ew;rw[h]
def LX{c x}(h:c.cp.neg=false):DX c x=.iface 337 (Pn x.nb):=by
 unfold DX GV;rw[h];rfl
def LZ{c x}(h:c.cp.neg=true):DX c x=.iface 334 (Pn x.nb):=by
 unfold DX GV;rw[h];rfl
def FI.cW{X w d cb nb wb k xs wr}(h:FI X w d cb nb wb k xs wr){g b c t e}(a:g∈Cu nb wb (X.take k) xs)(f:wr.heap[b]?=some (.cells c t e)):g≠b:=by
 rintro rfl;exact h.aU a _ _ _ f
def Ag.cG{w b g L c t d}(h:Ag w b L)(a:w.heap[g]?=some (.cells c t d)):b≠g:=by
 rintro rfl;exact h.aV _ _ _ a
def kE{vw hl}:∀{up:Value}{cs:List Cx}{xs:List CE},xs.length=cs.length->cs≠[]->Gm up cs xs=Cd (Cz (Au vw hl up cs xs)) 0
 |_,[c],[x],_,_=>by
  show DX c x=_
  simp only[Au,Cz,Cd,yn,YF,List.reverse_cons,List.reverse_nil,Yj,yC,Wg,YY,Oi]
  rfl
 |up,c::d::cs,x::y::xs,h,_=>by
  have O:=kE (vw:=vw) (hl:=hl) (up:=DX c x) (cs:=d::cs) (xs:=y::xs) qq qe
  show Gm (DX c x) (d::cs) (y::xs)=_
  rw[O]
  have e:Cz (Au vw hl up (c::d::cs) (x::y::xs))=Cz (Au vw hl (DX c x) (d::cs) (y::xs))++[(c.cp.neg,x.nb)]:=by
   rw[Au];unfold Cz;rw[yn,List.reverse_cons,Oi]
  rw[e];unfold Cd;rw[yB];rw[Au];simp[Cz]
 |_,[],_,_,h=>(h rfl).elim
 |_,[_],[],h,_=>by simp at h
 |_,[_],_::_::_,h,_=>by simp at h
 |_,_::_::_,[],h,_=>by simp at h
 |_,_::_::_,[_],h,_=>by simp at h
def rm{X w wr O i cb nb wb lb xs}(h:FI X w i cb nb wb X.length xs wr)(f:Bi (some lb) wr O)(m:cb≠lb)(b:∀g,g∈Cu nb wb (X.take X.length) xs->g≠lb):CS O cb nb wb [] []:=by
 have c:nb∈Cu nb wb (X.take X.length) xs/\wb∈Cu nb wb (X.take X.length) xs:=Uu;have a:nb≠wb:=by
  have:=h.maps;intro e;exact Z4 this e
 have k:∀g,g<wr.heap.size->g≠lb->O.heap[g]?=wr.heap[g]?:=λg d l=>f.block g d (λe=>l (by injection e with e;exact e.ai));exact⟨(k cb (As h.cs.1) m).j h.cs.1,h.cs.2.1.ay (k nb h.cs.2.1.lt (b nb c.1)),h.cs.2.2.ay (k wb h.cs.2.2.lt (b wb c.2)),a⟩
def gr{X w wr i A cb nb wb xs l m c x hv}(h:FI X w A cb nb wb X.length xs wr)(r:X=m++[c])(f:xs=l++[x])(u:l.length=m.length)(q:Bi (some x.nb) wr i)(hl:∀p,AC wr c x p .nilFunc->AC i c x p hv):EP i hv .nilIface X xs:=by
 have a:=h.bF;have j:=λg b=>h.aU (g:=g) b;have Y:=h.ids;have O:=h.aE;rw[yW]at a j O;have k:∃c t z,wr.heap[x.nb]?=some (.cells c t z):=by
  rw[r,f]at a;obtain⟨_,d,_,y,up,B,s,_,_,n⟩:=a.last qe;obtain⟨_,e⟩:=List.append_inj' B rfl;obtain⟨_,v⟩:=List.append_inj' s rfl;cases e;cases v;cases o:c.cp.neg
  .exact⟨_,_,_,((AC.pos o).1 n).1⟩
  exact⟨_,_,_,((AC.neg o).1 n).1⟩
 obtain⟨E,D,C,k⟩:=k;rw[r,f]at a j O⊢;rw[f]at Y;refine EP.bJ (nb:=nb) (wb:=wb) a u (λy hy=>?_) (λg b=>?_) hl
 .refine q.block _ (O.2.2.1 y J_).2.2 (λe=>?_);injection e with e;rw[yJ,yP]at Y;exact Y.2.2 y.nb (yT hy) x.nb qe e.ai
 refine q.block _ (O.2.2.2 g b).2 (λe=>?_);injection e with e;exact j g b _ _ _ (by rw[<-e];exact k)
def wG(X xs)(_rb cb nb wb:Nat)(adr U vw ca)(d:NV X adr U vw ca)(w)(r:(Cu nb wb (X.take X.length) xs).Nodup)(t:EP w (DM cb) .nilIface X xs)(K:CS w cb nb wb [] [])(C:∀(k:Nat)(c:Cx),X[k]?=some c->Ed adr vw ca w k c)(af:Bl adr U w) :
  Ca (Hm (Au vw (DM cb) .nilIface X xs)) #[Pn (NH cb (Au vw (DM cb) .nilIface X xs)),.agg #[.pointer none,.pointer none,.pointer none],I6 1] w λe w'=>e=.returned (.tuple #[])/\(∃a:CT (Au vw (DM cb) .nilIface X xs),Ey adr U cb nb wb _ w' a/\Lv adr [] _ [[]] a)/\CK w w'/\Av (E4 nb wb (Au vw (DM cb) .nilIface X xs)) w w':=by
 rw[yW]at r;have b:=t.len;obtain⟨l,hl⟩:∃l,l=Au vw (DM cb) .nilIface X xs:=⟨_,rfl⟩
 have x:Ey adr U cb nb wb (Au vw (DM cb) .nilIface X xs) w (Mx _):=iM K af t (λc n=>by
  obtain⟨k,I⟩:=YD n;obtain⟨_,_,_,h4,G,W⟩:=C k c I;exact⟨h4,G,W⟩)
 have O:(Au vw (DM cb) .nilIface X xs).map Prod.snd=X.map (gV vw):=MI b;have p:FN U (Au vw (DM cb) .nilIface X xs) (X.map (λc=>U.filter (Ae c.cp.aq))) []:=Pj b d.sr qe qe;have u:ID cb nb wb (Au vw (DM cb) .nilIface X xs):=Rl r (λc n=>⟨(d.small c n).1,(d.dR c n).2.2,(d.small c n).2.2⟩);have hu:∀m∈Au vw (DM cb) .nilIface X xs,∀f∈m.2,f∈U:=λm r f hf=>by
  have y:m.2∈(Au vw (DM cb) .nilIface X xs).map Prod.snd:=yT r;rw[O]at y;obtain⟨c,n,e⟩:=yz.1 y;rw[<-e]at hf;exact(yg.1 ((d.dR c n).1 f hf)).1
 have Y:CF ((Au vw (DM cb) .nilIface X xs).map Prod.snd) (X.map (λc:Cx=>U.filter (Ae c.cp.aq))):=by
  rw[O];exact d.dR.sub
 have z:=Uh (adr:=adr) (Au vw (DM cb) .nilIface X xs);rw[<-hl]at x p u hu Y z⊢;obtain⟨M,J⟩:=PU (old:=[]) (cb:=cb) (nb:=nb) (wb:=wb) d.inj l _ [] (Mx l) [] z (λT R=>by simp at R) qe (p.df Y) qe;have Z:=Ot adr 1 (.inl rfl) U cb nb wb l (u.ok hu);obtain⟨N,D⟩:=On adr 1 U cb nb wb l;have h:=Z.2 w (Mx l) [] ((IL adr 1 U cb nb wb l w _).2 x) M (Oq af qe);rw[N,D]at h;refine h.ac λe w' q=>?_;obtain⟨q1,s,B,L,H,E⟩:=q;exact⟨q1,⟨s,(IL adr 1 U cb nb wb l w' s).1 L,J s B⟩,H,E.ac λg A=>(GY adr 1 U cb nb wb l g).1 A⟩
def rV{X w O b cb nb wb k B xs c x}(h:FI X w b cb nb wb k xs O)(f:∀g∈Ew c x,B<=g/\g<O.heap.size)(i:b<B){g}(a:g∈Ew c x∨g∈Cu nb wb (X.take k) xs∨g=cb)(e:g=b):False:=by
 subst e;rcases a with a|a|a
 .have:=(f g a).1;omega
 .exact h.aU a _ _ _ h.box
 subst a;have d:=h.box;rw[h.cs.1]at d;simp at d
def XL(h:P:=by
 first
  | (have _:=tP1
     rw[LX HN.o])
  |(rw[LZ HN.o])
 exact aE.o
 ):=h
def ny(h:P:=by exact(O.o.ar.j (af.o.J O.o.ar.size (λg e=>by injection e with e;rw[<-e];exact ak.1))).j (Y.o.J O.o.aE.1)):=h
def oh(h:P:=by refine(Y.o.block _ (λe=>hM g hg _ _ _ (by rw[e];exact O.o.box))).j (af.o.block _ (am.2.2.2 g hg).2 (λe=>?_));injection e with e;exact hM g hg _ _ _ (by rw[<-e];exact L1.o)):=h
def oo(h:P:=by
 intro g hg e;rcases hg with hg|hg|hg
 .have:=(aj.o g hg).1;omega
 .exact O.o.aU hg _ _ _ (by rw[e];exact L1.o)
 .have b1:=O.o.cs.1;rw[<-hg,e,show w5.heap[x'.nb]?=_ from L1.o]at b1;simp at b1
 ):=h
def o5(h:P:=by refine(Y.o.block _ (am.2.2.1 y (by simp[hy])).2.1).j (af.o.block _ (am.2.2.1 y (by simp[hy])).2.2 (λe=>?_));injection e with e;rw[yJ,yP]at aw;exact aw.2.2 y.nb (yT hy) x'.nb (by simp) e.ai):=h
def ZZ(h:P:=by
 rw[hn]at d0;have HN:=Aa hn;clear hn
 first
  | (have _:=tP1
     go_region_held3 (λu=>At u wr.heap.size 0 (.bool false)/\At u wr.heap.size 1 (I6 (c.cp.at_:Int))/\At u wr.heap.size 2 (Pn c.node)/\At u wr.heap.size 3 (.slice c.ta c.cp.ah.length c.tc)/\At u rb 0 lv)
       ((go_split_ands;first|done|(refine⟨?_,?_,?_,?_,?_⟩<;>first|assumption|with_reducible exact zab aq (by assumption)|exact zab Aj.drew (by assumption)))) (first|(go_at_call 154;refine(zk3 lv (Pn c.node) c.cp.at_ c.ta c.cp.ah.length c.tc HLK.o ⟨_,rfl⟩ _).ac ?_;rintro e w5 ⟨jb,tb,rfl,q1,q2,q5,q6,aq⟩)|fail))
  | (go_region_held3 (λu=>At u wr.heap.size 0 (.bool true)/\At u wr.heap.size 1 (I6 (c.cp.at_:Int))/\At u wr.heap.size 2 (Pn c.node)/\At u wr.heap.size 3 (.slice c.ta c.cp.ah.length c.tc)/\At u rb 0 lv)
       ((go_split_ands;first|done|(refine⟨?_,?_,?_,?_,?_⟩<;>first|assumption|with_reducible exact zab aq (by assumption)|exact zab Aj.drew (by assumption)))) (first|(go_at_call 154;refine(zlB lv (Pn c.node) c.cp.at_ c.ta c.cp.ah.length c.tc HLK.o ⟨_,rfl⟩ _).ac ?_;rintro e w5 ⟨jb,tb,bb,rfl,q1,q2,q3,q4,q5,q6,q7,aq⟩)|fail))
 obtain⟨ah,aA⟩:=Ak (HI4.o.cz Aj.drew) aq;have aT:w4.drew.heap.size=w4.heap.size:=rfl;have O:=Aa (ah.o.cz aq)
 first
  | (have _:=tP1
     have ax:=Aa (show AC w5 c ⟨jb,tb,0⟩ (Gm .nilIface (X.take k) xs) .nilFunc from(AC.pos HN.o).2 ⟨by rw[<-HLV.o];exact q5,q6⟩);have aj:=Aa (show∀g∈Ew c ⟨jb,tb,0⟩,w4.drew.heap.size<=g/\g<w5.heap.size fromλg hg=>by rw[Z1 HN.o]at hg;simp only[yO,YI,or_false]at hg;rcases hg with rfl;exact⟨q2,q6.lt⟩);have ay:=Aa (show(Ew c ⟨jb,tb,0⟩).Nodup from by rw[Z1 HN.o];simp))
  | (have ax:=Aa (show AC w5 c ⟨jb,tb,bb⟩ (Gm .nilIface (X.take k) xs) .nilFunc from (AC.neg HN.o).2 ⟨by rw[<- HLV.o];exact q5,q6,q7⟩)
     have aj:=Aa (show∀g∈Ew c ⟨jb,tb,bb⟩,w4.drew.heap.size<=g/\g<w5.heap.size fromλg hg=>by rw[ZX HN.o]at hg;simp only[yO,YI,or_false]at hg;rcases hg with rfl|rfl;exact⟨q2,q6.lt⟩;exact⟨q3,q7.lt⟩);have ay:=Aa (show(Ew c ⟨jb,tb,bb⟩).Nodup from by rw[ZX HN.o];simp[q4]))
 have aB:jb<w5.heap.size:=As q5;have aC:=Aa q1;have s0:=zab aq r0
 first
  | (have _:=tP1
     clear aq d0 d1 d2 d3 r0 q1 q2 q5 q6)
  |(clear aq d0 d1 d2 d3 r0 q1 q2 q5 q6 q3 q4 q7)
 obtain⟨_,fr⟩:True/\w5.frozen? ⟨rb,0,none⟩=false:=⟨trivial,by simp[World.frozen?,O.o.box]⟩
 rcases Nat.eq_zero_or_pos k with aD|aD
 .have aM:lv=.nilIface:=by rw[HLV.o,aD,Y7,zl]
  obtain⟨aN,aO⟩:=Ak (show xs=[] from by have:=O.o.bF.len;rw[aD]at this;simpa using this) aD;subst aM;clear aD;go_upto_region 11 with fail;refine Uv (x0:=Gm .nilIface (X.take k) xs) (x1:=Pn cb) O.o.box ?_;intro w7 ar au;obtain⟨aE,Y⟩:=Ak ar au;clear ar au s0 fr;go_wp2_with fail;go_roundw
  case rel=>
   first
    | (have _:=tP1
       refine⟨k+1,xs++[⟨jb,tb,0⟩],by go_num,?_,FI.step (lb:=rb) ah.o HC.o aA.o ax.o aC.o aj.o ay.o aB (λg _ h1 _=>Y.o.block g h1) (W0 Y.o.size.ai) (O.o.ar.j (Y.o.J O.o.aE.1)) ?_ (.inl rfl) ?_ ?_⟩)
    |(refine⟨k+1,xs++[⟨jb,tb,bb⟩],by go_num,?_,FI.step (lb:=rb) ah.o HC.o aA.o ax.o aC.o aj.o ay.o aB (λg _ h1 _=>Y.o.block g h1) (W0 Y.o.size.ai) (O.o.ar.j (Y.o.J O.o.aE.1)) ?_ (.inl rfl) ?_ ?_⟩)
   .rw[MX HC.o,aN.o,aO.o]
    first
     | (have _:=tP1
        exact(LX (x:=⟨jb,tb,0⟩) HN.o).ai)
     |(exact(LZ (x:=⟨jb,tb,bb⟩) HN.o).ai)
   .exact XL
   .rw[aN.o,aO.o];trivial
   .intro g hg e;exact rV O.o aj.o (As ah.o.box) hg e
  case measure=>(simp[intOf];omega)
 .obtain⟨aS,c',aR,x',aQ,e1,e2,e3,e4,e5⟩:=O.o.bF.last (λe=>by have h:=congrArg List.length e;rw[Yo]at h;simp only[YV]at h;omega);obtain⟨HE1,HE2,HE3,HE5⟩:=BE e1 e2 e3 e5
  first
   | (have _:=tP1
      have aJ:=Aa (show JS (X.take k++[c]) (xs++[⟨jb,tb,0⟩])=JS (X.take k) xs from by rw[mC O.o.bF.len,if_neg (λe=>by have h:=congrArg List.length e;rw[Yo]at h;simp only[YV]at h;omega)]))
   |(have aJ:=Aa (show JS (X.take k++[c]) (xs++[⟨jb,tb,bb⟩])=JS (X.take k) xs from by rw[mC O.o.bF.len,if_neg (λe=>by have h:=congrArg List.length e;rw[Yo]at h;simp only[YV]at h;omega)]))
  have az:lv=DX c' x':=HLV.o.j e4;have ak:=O.o.aE.2.2.1 x' (by rw[e2];simp);have aG:=(ah.o.aE.2.2.1 x' (by rw[e2];simp)).2.2;clear e1 e2 e3 e4 e5 aD;cases hm:c'.cp.neg
  .rw[LX hm]at az;have HM:=Aa hm;subst az;obtain⟨l1,l2⟩:=(AC.pos hm).1 HE5.o;have L1:=Aa l1
   first
    | (have _:=tP1
       have av:=Aa (λ(u:World) (hu:u.heap[x'.nb]?=w5.heap[x'.nb]?)=>Qd x'.nb (.func (.method "loop.example/s01311/impl.take") #[.iface 337 (Pn jb)] #[]) _ _ u (hu.j l1) (by simp) ⟨_,_,_,rfl⟩))
    | (have av:=Aa (λ(u:World) (hu:u.heap[x'.nb]?=w5.heap[x'.nb]?)=>Qd x'.nb (.func (.method "loop.example/s01311/impl.take") #[.iface 334 (Pn jb)] #[]) _ _ u (hu.j l1) (by simp) ⟨_,_,_,rfl⟩))
   have aI:=λu=>lZ x'.nb u;clear hm l1 l2;go_wp2_with fail
   go_region_held3 (λu=>At u rb 0 (.iface 337 (Pn x'.nb)))
    (first|assumption|(with_reducible exact(y8 (w:=w5) ((ai.block rb (As O.o.box) (λe=>ak.2.1 (by injection e))))).j s0)|exact zab Aj.drew (by assumption)) (first|(go_at_call 317;refine(av.o w5.drew rfl).an λw6⟨aF,ai⟩=>?_;have s6:=(Ay ((ai.block rb (As O.o.box) (λe=>ak.2.1 (by injection e))).j O.o.box)).1;rw[<-HLV.o]at s6)|fail)
   obtain⟨aK,af⟩:=Ak aF (show Bi (some x'.nb) w5 w6 from(Bi.ab Aj.drew).j ai);have ao:=(ai.block rb (As O.o.box) (λe=>ak.2.1 (by injection e))).j O.o.box;have aH:=Aa ao;have t0:=(Ay ao).1;have aL:w6.frozen? ⟨rb,0,none⟩=false:=by simp[World.frozen?,ao]
   clear aF ai ao s0 s6 fr av aI;go_upto_region 11 with fail;refine Uv (x0:=Gm .nilIface (X.take k) xs) (x1:=Pn cb) aH.o ?_;intro w7 ar au;obtain⟨aE,Y⟩:=Ak ar au;clear ar au t0 aL;go_wp2_with fail;go_roundw
   case rel=>
    first
     | (have _:=tP1
        refine⟨k+1,xs++[⟨jb,tb,0⟩],by go_num,?_,FI.step (lb:=x'.nb) ah.o HC.o aA.o ax.o aC.o aj.o ay.o aB (λg h0 h1 h2=>(Y.o.block g h1).j (af.o.block g h0 (λe=>h2 (by injection e with e;exact e.ai)))) (by rw[Y.o.size];exact af.o.rest.size) ?_ ?_ (.inr aG) ?_ ?_⟩)
     |(refine⟨k+1,xs++[⟨jb,tb,bb⟩],by go_num,?_,FI.step (lb:=x'.nb) ah.o HC.o aA.o ax.o aC.o aj.o ay.o aB (λg h0 h1 h2=>(Y.o.block g h1).j (af.o.block g h0 (λe=>h2 (by injection e with e;exact e.ai)))) (by rw[Y.o.size];exact af.o.rest.size) ?_ ?_ (.inr aG) ?_ ?_⟩)
    .rw[MX HC.o,aJ.o];exact HFV.o
    .exact ny
    .exact XL
    .have hN:=O.o.bF;have hM:=λg hg=>O.o.aU (g:=g) hg;have aw:=O.o.ids;have am:=O.o.aE;rw[HE1.o,HE2.o]at hN hM am;rw[HE2.o]at aw;rw[HE1.o,HE2.o];refine EP.bJ (nb:=nb) (wb:=wb) hN HE3.o (λy hy=>?_) (λg hg=>?_) (λaP h2=>?_)
     .exact o5
     .exact oh
     obtain⟨j1,j2⟩:=(AC.pos HM.o).1 h2;have e:=L1.o;unfold JN at e j1;rw[e]at j1;simp at j1;subst j1;have eb:=(Y.o.block _ ak.2.1).j aK.o;have em:∀g,Ag w5 g []->w7.heap[g]?=w5.heap[g]?:=λg hg=>(Y.o.block g (hg.cG O.o.box)).j (af.o.block g hg.lt (λe=>hg.cG L1.o (by injection e with e;exact e.ai)));refine(AC.pos HM.o).2 ⟨?_,j2.ay (em _ j2)⟩;unfold hvM
     first
      | (have _:=tP1
         rw[LX HN.o])
      |(rw[LZ HN.o])
     unfold JN;simpa using eb
    .exact oo
   case measure=>(simp[intOf];omega)
  rw[LZ hm]at az;have HM:=Aa hm;subst az;obtain⟨l1,l2,l3⟩:=(AC.neg hm).1 HE5.o;have L1:=Aa l1
  first
   | (have _:=tP1
      have av:=Aa (λ(u:World) (hu:u.heap[x'.nb]?=w5.heap[x'.nb]?)=>Qd x'.nb (.func (.method "loop.example/s01311/impl.take") #[.iface 337 (Pn jb)] #[]) _ _ u (hu.j l1) (by simp) ⟨_,_,_,rfl⟩))
   | (have av:=Aa (λ(u:World) (hu:u.heap[x'.nb]?=w5.heap[x'.nb]?)=>Qd x'.nb (.func (.method "loop.example/s01311/impl.take") #[.iface 334 (Pn jb)] #[]) _ _ u (hu.j l1) (by simp) ⟨_,_,_,rfl⟩))
  have aI:=λu=>lR x'.nb u;clear hm l1 l2 l3;go_wp2_with fail
  go_region_held3 (λu=>At u rb 0 (.iface 334 (Pn x'.nb)))
   (first|assumption|(with_reducible exact(y8 (w:=w5) ((ai.block rb (As O.o.box) (λe=>ak.2.1 (by injection e))))).j s0)|exact zab Aj.drew (by assumption)) (first|(go_at_call 317;refine(av.o w5.drew rfl).an λw6⟨aF,ai⟩=>?_;have s6:=(Ay ((ai.block rb (As O.o.box) (λe=>ak.2.1 (by injection e))).j O.o.box)).1;rw[<-HLV.o]at s6)|fail)
  obtain⟨aK,af⟩:=Ak aF (show Bi (some x'.nb) w5 w6 from(Bi.ab Aj.drew).j ai);have ao:=(ai.block rb (As O.o.box) (λe=>ak.2.1 (by injection e))).j O.o.box;have aH:=Aa ao;have t0:=(Ay ao).1;have aL:w6.frozen? ⟨rb,0,none⟩=false:=by simp[World.frozen?,ao]
  clear aF ai ao s0 s6 fr av aI;go_upto_region 11 with fail;refine Uv (x0:=Gm .nilIface (X.take k) xs) (x1:=Pn cb) aH.o ?_;intro w7 ar au;obtain⟨aE,Y⟩:=Ak ar au;clear ar au t0 aL;go_wp2_with fail;go_roundw
  case rel=>
   first
    | (have _:=tP1
       refine⟨k+1,xs++[⟨jb,tb,0⟩],by go_num,?_,FI.step (lb:=x'.nb) ah.o HC.o aA.o ax.o aC.o aj.o ay.o aB (λg h0 h1 h2=>(Y.o.block g h1).j (af.o.block g h0 (λe=>h2 (by injection e with e;exact e.ai)))) (by rw[Y.o.size];exact af.o.rest.size) ?_ ?_ (.inr aG) ?_ ?_⟩)
    |(refine⟨k+1,xs++[⟨jb,tb,bb⟩],by go_num,?_,FI.step (lb:=x'.nb) ah.o HC.o aA.o ax.o aC.o aj.o ay.o aB (λg h0 h1 h2=>(Y.o.block g h1).j (af.o.block g h0 (λe=>h2 (by injection e with e;exact e.ai)))) (by rw[Y.o.size];exact af.o.rest.size) ?_ ?_ (.inr aG) ?_ ?_⟩)
   .rw[MX HC.o,aJ.o];exact HFV.o
   .exact ny
   .exact XL
   .have hN:=O.o.bF;have hM:=λg hg=>O.o.aU (g:=g) hg;have aw:=O.o.ids;have am:=O.o.aE;rw[HE1.o,HE2.o]at hN hM am;rw[HE2.o]at aw;rw[HE1.o,HE2.o];refine EP.bJ (nb:=nb) (wb:=wb) hN HE3.o (λy hy=>?_) (λg hg=>?_) (λaP h2=>?_)
    .exact o5
    .exact oh
    obtain⟨j1,j2⟩:=(AC.neg HM.o).1 h2;have e:=L1.o;unfold NN at e j1;rw[e]at j1;simp at j1;subst j1;have eb:=(Y.o.block _ ak.2.1).j aK.o;have em:∀g,Ag w5 g []->w7.heap[g]?=w5.heap[g]?:=λg hg=>(Y.o.block g (hg.cG O.o.box)).j (af.o.block g hg.lt (λe=>hg.cG L1.o (by injection e with e;exact e.ai)));refine(AC.neg HM.o).2 ⟨?_,j2.1.ay (em _ j2.1),j2.2.ay (em _ j2.2)⟩;unfold hvM
    first
     | (have _:=tP1
        rw[LX HN.o])
     |(rw[LZ HN.o])
    unfold NN;simpa using eb
   .exact oo
  case measure=>(simp[intOf];omega)
 ):=h
def oR(h:P:=by
 clear e1 hf;go_wp2_with fail;refine am.o.an λw8⟨⟨a8,hi8,aj⟩,af,Y⟩=>?_;have aw:=Aa (show EA ⟨X,xs,rb,cb,nb,wb⟩ adr U vw (gV vw) [] w8 from⟨⟨a8,hi8,by rw[<-show(Au vw (DM cb) .nilIface X xs).map Prod.snd=X.map (gV vw) from MI ah.o.len];exact Hy.2 aj⟩,by
  have hb:=af _ _ _ _ aq.o;rw[yW,ar.o]at hb;exact hb⟩)
 have av:=Aa (Av.bf ak.o Y (λg hg=>ai.o.2.2 g (He.1 hg)));clear hi8 aj af Y;go_wp2_with fail;go_ret;exact⟨⟨X,xs,rb,cb,nb,wb⟩,rfl,rfl,ah.o,aw.o,ai.o,av.o⟩
 ):=h
def fS(h:P:=by
 first
  | (have _:=tP2
     rw[LX hm]at r0)
  |(rw[LZ hm]at r0)
 have HM:=Aa hm
 first
  | (have _:=tP2
     obtain⟨l1,l2⟩:=(AC.pos hm).1 HE5.o)
  |(obtain⟨l1,l2,l3⟩:=(AC.neg hm).1 HE5.o)
 obtain⟨L1,au⟩:=Ak l1 (λ(u:World)(hu:u.heap[x.nb]?=wr.heap[x.nb]?)=>Qd x.nb (.func (.func 155) #[Pn cb] #[]) _ _ u (hu.j l1) (by simp) ⟨_,_,_,rfl⟩)
 first
  | (have _:=tP2
     have az:=λu=>lZ x.nb u;clear hm l1 l2)
  | (have az:=λu=>lR x.nb u
     clear hm l1 l2 l3)
 go_wp2_with fail
 first
  | (have _:=tP2
     go_region_held3 (λu=>At u rb 0 (.iface 337 (Pn x.nb))/\At u rb 1 (Pn cb))
       ((go_split_ands;first|done|(refine⟨?_,?_⟩<;>first|assumption|exact zab Aj.drew (by assumption)))) (first|(go_at_call 317;refine(au.o wr.drew rfl).an λw6⟨ao,O⟩=>?_;obtain⟨s6,s7⟩:=Ay ((O.block rb (As HI.o.box) (λe=>hxrb.2.1 (by injection e))).j HI.o.box);rw[yW,HE4.o,LX HM.o]at s6)|fail)
     have ay:=Aa (gr (hv:=DM cb) HI.o HE1.o HE2.o HE3.o ((Bi.ab Aj.drew).j O) (λaB h2=>by
       obtain⟨j1,j2⟩:=(AC.pos HM.o).1 h2;have e:=L1.o;unfold JN at e j1;rw[e]at j1;simp at j1;subst j1;have em:∀g,Ag wr g []->w6.heap[g]?=wr.heap[g]?:=λg hg=>O.block g hg.lt (λe=>hg.cG L1.o (by injection e with e;exact e.ai));refine(AC.pos HM.o).2 ⟨?_,j2.ay (em _ j2)⟩;unfold JN DM;simpa using ao)))
  | (go_region_held3 (λu=>At u rb 0 (.iface 334 (Pn x.nb))/\At u rb 1 (Pn cb))
       ((go_split_ands;first|done|(refine⟨?_,?_⟩<;>first|assumption|exact zab Aj.drew (by assumption)))) (first|(go_at_call 317;refine(au.o wr.drew rfl).an λw6⟨ao,O⟩=>?_;obtain⟨s6,s7⟩:=Ay ((O.block rb (As HI.o.box) (λe=>hxrb.2.1 (by injection e))).j HI.o.box);rw[yW,HE4.o,LZ HM.o]at s6)|fail)
     have ay:=Aa (gr (hv:=DM cb) HI.o HE1.o HE2.o HE3.o ((Bi.ab Aj.drew).j O) (λaB h2=>by
       obtain⟨j1,j2⟩:=(AC.neg HM.o).1 h2;have e:=L1.o;unfold NN at e j1;rw[e]at j1;simp at j1;subst j1;have em:∀g,Ag wr g []->w6.heap[g]?=wr.heap[g]?:=λg hg=>O.block g hg.lt (λe=>hg.cG L1.o (by injection e with e;exact e.ai));refine(AC.neg HM.o).2 ⟨?_,j2.1.ay (em _ j2.1),j2.2.ay (em _ j2.2)⟩;unfold NN DM;simpa using ao)))
 have ak:=Aa (show Bw w w6 from HI.o.ar.j ((Bi.ab Aj.drew).j O |>.J HI.o.ar.size (λg e=>by injection e with e;rw[<-e];exact hxrb.1)));have aq:=Aa ((O.block rb (As HI.o.box) (λe=>hxrb.2.1 (by injection e))).j HI.o.box);have ax:=Aa (show CS w6 cb nb wb [] [] from rm HI.o ((Bi.ab Aj.drew).j O) (λe=>by
  have b1:=HI.o.cs.1;rw[e,show wr.heap[x.nb]?=_ from L1.o]at b1;simp at b1) (λg hg=>HI.o.cW hg L1.o))
 obtain⟨am,ah,ai,ar⟩:=BE (wG X xs rb cb nb wb adr U vw ca HX.o w6 HI.o.maps ay.o ax.o (λk c hc=>(HCX.o k c hc).ck (CK.ab ak.o)) (HUS.o.ck (CK.ab ak.o))) (show JE ⟨X,xs,rb,cb,nb,wb⟩ U from⟨by have:=HI.o.bF.len;rwa [yW]at this,by have:=HI.o.maps;rwa [yW]at this,HI.o.ids,HX.o.small,HX.o.sr⟩) (show w.heap.size<=rb/\w.heap.size<=cb/\∀g,RD.S ⟨X,xs,rb,cb,nb,wb⟩ g->w.heap.size<=g from⟨HI.o.aE.1,HI.o.aE.2.1,λg hg=>by have:=HI.o.aE.2.2.2;rw[yW]at this;exact(this g hg).1⟩) (show Gm .nilIface X xs=Cd (Cz (Au vw (DM cb) .nilIface X xs)) 0 from kE (by have:=HI.o.bF.len;rwa [yW]at this) HX.o.ne);clear ao O s6 s7 r0 r1 au az;cases hf:fc.cp.neg
 .rw[LX hf];have e1:Hm (Au vw (DM cb) .nilIface X xs)=325/\NH cb (Au vw (DM cb) .nilIface X xs)=fx.nb:=by
   rw[HG1.o,HG2.o,Au];rw[Ih hf];exact⟨rfl,rfl⟩
  rw[e1.1,e1.2]at am;have aA:=λu=>PV fx.nb u;exact oR
 .rw[LZ hf];have e1:Hm (Au vw (DM cb) .nilIface X xs)=320/\NH cb (Au vw (DM cb) .nilIface X xs)=fx.nb:=by
   rw[HG1.o,HG2.o,Au];rw[Ic hf];exact⟨rfl,rfl⟩
  rw[e1.1,e1.2]at am;have aA:=λu=>PO fx.nb u;exact oR
 ):=h
set_option maxHeartbeats 12800000 in
def zmq(X adr U vw ca cc I n vc)(z:NV X adr U vw ca)(w)(ar:∀(k:Nat)(c:Cx),X[k]?=some c->Ed adr vw ca w k c)(az:Bl adr U w) :
  Ca 92 #[.agg #[.slice ca X.length cc,.slice I n vc]] w λe w'=>∃R:RD,R.X=X/\e=.returned (.iface 248 (Pn R.rb))/\JE R U/\EA R adr U vw (gV vw) [] w'/\(w.heap.size<=R.rb/\w.heap.size<=R.cb/\∀g,R.S g->w.heap.size<=g)/\Bw w w':=by
 obtain⟨HCX,HUS,HX⟩:=AQ ar az z;have aH:=z.X6;clear ar az z;have aM:=Iu;go_enter func92,ntmps92;go_upto_region 1 with fail;refine Bt ?_;intro w1 aE ao;obtain⟨E,M⟩:=Ay ao;have ai:=Aa aE;clear aE ao;go_upto_region 2 with(first|(go_at_call 153;refine(mV _).ac ?_;rintro e G ⟨cb,nb,wb,rfl,b1,K,T,D,B,f,d,am⟩)|fail);have ay:=zab am E;have aj:=Aa (ai.o.aj am);have q:=ai.o.size;have aF:=aj.o.size;refine Bt ?_;intro W O aB;have av:=zab O ay;have aA:=Aa (aj.o.aj O);have ax:=(O.block cb (As B)).j B;have ak:=Aa (show FI X w G.heap.size cb nb wb 0 [] W from⟨yA _,trivial,aB,⟨ax,f.ay (O.block nb f.lt),d.ay (O.block wb d.lt)⟩,by simp[Cu,D],qe,⟨qd,qd,λx hx=>qN,λg hg=>by
  have h1:=f.lt;have h2:=d.lt;have h3:=O.size;simp only[Y7,Cu,yO,YI,or_false]at hg;rcases hg with rfl|rfl<;>omega⟩,aA.o⟩)
 obtain⟨rb,aC⟩:∃b,b=G.heap.size:=⟨_,rfl⟩
 rw[<-aC]at ak⊢;clear b1 K T D B f d am O aB E M ay ax aC ai aj q aF;go_wp2_with fail;clear av
 go_loopw [4,14] (λC iv wr=>∃(k:Nat)(xs:List CE),iv=I6 (k:Int)/\C=JS (X.take k) xs/\FI X w rb cb nb wb k xs wr) (λ_ iv _=>X.length-(intOf iv).toNat)
 case atStart=>exact⟨0,[],rfl,rfl,ak.o⟩
 case round=>
  obtain⟨k,xs,rfl,rfl,A⟩:=hrel;have HI:=Aa A;have hk:=A.le;clear A ak aA;by_cases aG:k<X.length
  .obtain⟨c,hc⟩:=AJ aG;obtain⟨gb,aD,⟨Z,N,H,L⟩,_⟩:=(HCX.o k c hc).ck (CK.ab HI.o.ar);rw[aD];have z0:(0:Int)<=(k:Int):=qd;have z1:(k:Int)<(X.length:Int):=qd;have HC:=Aa hc;obtain⟨C,Y⟩:∃v,v=JS (X.take k) xs:=⟨_,rfl⟩
   rw[<-Y];have HFV:=Aa Y;clear hc aD Y;go_upto_region 6 with fail;refine Bt ?_;intro w4 aq au;obtain⟨d0,d1,d2,d3⟩:=AO au;have HI4:=Aa (HI.o.cz aq);have r0:=Ay HI4.o.box;obtain⟨r0,_⟩:=r0;obtain⟨lv,ah⟩:∃v,v=Gm .nilIface (X.take k) xs:=⟨_,rfl⟩
   rw[<-ah]at r0;have aw:lv=.nilIface∨∃t v,lv=.iface t v:=by rw[ah];exact ke (.inl rfl)
   have HLV:=Aa ah;have aI:wr.heap.size≠rb:=by have:=As HI.o.box;omega
   have HLK:=Aa aw;clear aq au Z N H L ah aw HI;cases hn:c.cp.neg
   .have tP1:=trivial;exact ZZ
   exact ZZ
  obtain rfl:k=X.length:=qd;have z1:¬(X.length:Int)<(X.length:Int):=qd;obtain⟨aL,c,aK,x,aJ,e1,e2,e3,e4,e5⟩:=HI.o.bF.last (by rw[yW];exact HX.o.ne);rw[yW]at e1 e4;obtain⟨HE1,HE2,HE3⟩:=AQ e1 e2 e3;have r:=Ay HI.o.box;obtain⟨r0,r1⟩:=r;rw[yW,e4]at r0;obtain⟨HE5,HE4⟩:=Ak e5 e4;obtain⟨fc,fx,m,af,s,p⟩:∃fc fx m af,X=fc::m/\xs=fx::af:=by
   have hl:=HI.o.bF.len;rw[yW]at hl
   match X,xs,HX.o.ne,hl with
   |fc::m,fx::af,_,_=>exact⟨fc,fx,m,af,rfl,rfl⟩
   |[],_,h,_=>exact(h rfl).elim
   |_::_,[],_,h=>simp at h
  obtain⟨HG1,HG2⟩:=Ak s p;have Y:JS (X.take X.length) xs=DX fc fx:=by
   rw[yW,s,p];rfl
  rw[Y];have hxrb:=HI.o.aE.2.2.1 x (by rw[e2];simp);clear e1 e2 e3 e4 e5 s p Y;cases hm:c.cp.neg
  .have tP2:=trivial;exact fS
  exact fS
end Go.Proofs.YtikojfajahnhgaaGreat
