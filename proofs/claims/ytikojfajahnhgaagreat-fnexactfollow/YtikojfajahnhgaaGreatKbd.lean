import Derived.Test.YtikojfajahnhgaaGreatKbc
set_option linter.all false
set_option maxHeartbeats 6400000
set_option maxRecDepth 100000
namespace Go.Proofs.YtikojfajahnhgaaGreat
attribute [local simp] At I6 Pn mzI
attribute [local go_sem] At I6 Pn
open Go.RowKit Go.Proofs.Tryz
attribute [local go_sem ↓] wp_at_zero wp_at_succ
def BG{σ α:Type}(stp:α->σ->σ->Prop):List α->σ->σ->Prop
 |[],a,b=>a=b
 |x::r,a,b=>∃c,stp x a c/\BG stp r c b
def BG.snoc{σ α stp}:∀{l:List α}{a b c:σ}{x:α},BG stp l a b->stp x b c->BG stp (l++[x]) a c
 |[],a,b,c,x,h,k=>⟨c,by rw[show a=b from h];exact k,rfl⟩
 |y::r,a,b,c,x,⟨d,h1,h2⟩,k=>⟨d,h1,BG.snoc h2 k⟩
def Bj.ck{u w a vs}(h:Bj u a vs)(c:CK u w):Bj w a vs:=λi v hv=>by
 obtain⟨b,o,e,O,f,d⟩:=h i v hv;exact⟨b,o,e,c.cell O,c.cell f,c.cell d⟩
def Ee.ck{u w v f}(h:Ee u v f)(d:CK u w):Ee w v f:=by
 obtain⟨b,o,e,O,j,a,c,i,g⟩:=h;exact⟨b,o,e,d.cell O,d.cell j,a,c,d.cell i,g.ck d⟩
def Ej.ck{u w a c b T}(h:Ej u a c b T)(g:CK u w):Ej w a c b T:=λi f j=>by
 obtain⟨pv,e,d⟩:=h i f j;exact⟨pv,e,d.ck g⟩
def DQ.ck{u w a ts}(h:DQ u a ts)(c:CK u w):DQ w a ts:=λi t j=>by
 obtain⟨b,o,e,O,g,d,f⟩:=h i t j;exact⟨b,o,e,c.cell O,c.cell g,c.cell d,c.cell f⟩
def Jf(w:World)(a:Option Addr)(fs:List F)(adr:F->Addr):Prop:=∀(i:Nat)(f:F),fs[i]?=some f->∃b o,a=some ⟨b,o,none⟩/\w.cell? ⟨b,o+i,none⟩=some (.pointer (some (adr f)))/\Ee w (.pointer (some (adr f))) f
def Jf.ck{u w a fs adr}(h:Jf u a fs adr)(c:CK u w):Jf w a fs adr:=λi f g=>by
 obtain⟨b,o,e,O,d⟩:=h i f g;exact⟨b,o,e,c.cell O,d.ck c⟩
def Ab(adr:F->Addr)(T:List F):Kt:=(T[0]?.map adr,T[1]?.map adr,T[2]?.map adr)
def Vp(adr T f)(h:T.length<3):Value.agg (Hi T.length (.pointer (some (adr f))) (.pointer (T[0]?.map adr)) (.pointer (T[1]?.map adr)) (.pointer (T[2]?.map adr)))=AU (Ab adr (T++[f])):=by
 rcases T with _|⟨a,_|⟨b,_|⟨c,r⟩⟩⟩
 .rfl
 .rfl
 .rfl
 simp at h;omega
def Bi.ck{b u w}(h:Bi (some b) u w)(f:∀c t d,u.heap[b]?≠some (.cells c t d)):CK u w:=λg c t d a=>(h.block g (As a) (λe=>by injection e with e;subst e;exact f c t d a)).j a
def Ag.aV{w b L}(h:Ag w b L):∀c t d,w.heap[b]?≠some (.cells c t d):=λc t d e=>by
 obtain⟨es,a,f,_⟩:=h.at_;rw[f]at e;cases e
def Ag.aM{S w w' b L}(h:Ag w b L)(k:Av S w w')(i:CK w w')(l:¬S b):Ag w' b L:=by
 obtain⟨es,a,m,e⟩:=h.at_;exact⟨⟨es,a,(k.block b h.lt l).j m,e⟩,h.nd,λy f=>(h.ok y f).iter λg c t d=>i g c t (0,0) d⟩
structure CA(σ:Type) where
 I:World->σ->Prop
 S:Nat->Prop
 fn:Nat
 r:Nat
 ok:List F->σ->Prop
 aG:List F->σ->σ->Prop
def CA.Good{σ:Type}(K:CA σ)(adr:F->Addr)(s:Int):Prop:=
 (∀u u' a,K.I u a->CK u u'->(∀g,g<u.heap.size->K.S g->u'.heap[g]?=u.heap[g]?)->u.heap.size<=u'.heap.size->K.I u' a) /\
 ∀u a T,K.I u a->K.ok T a->AK u (Ab adr T)->Ca K.fn #[.pointer (some ⟨K.r,0,none⟩),AU (Ab adr T),.int .i64 s] u λe u'=>e=.returned (.tuple #[])/\∃a',K.aG T a a'/\K.I u' a'/\CK u u'/\Av K.S u u'
def AK.snoc{adr w T f}(h:AK w (Ab adr T))(g:Bc w (some (adr f)))(hl:T.length<3):AK w (Ab adr (T++[f])):=by
 have d:Bc w none:=λa e=>by cases e
 rcases T with _|⟨a,_|⟨b,_|⟨c,r⟩⟩⟩
 .exact⟨g,d,d⟩
 .exact⟨h.1,g,d⟩
 .exact⟨h.1,h.2.1,g⟩
 simp at hl;omega
def Bc.ck{u w p}(h:Bc u p)(b:CK u w):Bc w p:=h.iter λg c t a=>b g c t (0,0) a
def AK.ck{u w x}(h:AK u x)(b:CK u w):AK w x:=h.iter λg c t a=>b g c t (0,0) a
def zg{σ}(K:CA σ)(adr s)(hs:s=1∨s = -1)(hK:K.Good adr s)(nb ndb d ng up hv ta fa tc fc ts fs T L a w)(M:JN w nb ng (Pn ndb) up hv T.length ta ts.length tc d)(hH:Ht hv K.fn K.r)(aK:At w ndb 4 (.slice fa fs.length fc))(aG:Jf w fa fs adr)(aC:∀f∈fs,Bc w (some (adr f)))(hJ:DQ w ta ts)(hT:Ej w (.pointer (T[0]?.map adr)) (.pointer (T[1]?.map adr)) (.pointer (T[2]?.map adr)) T)(hl:ts.length<=1048576)(a4:fs.length<=1000)(l:∀f∈fs,∀t∈ts,t.fits T f)(aB:T.length<3)(hM:Ag w d (uv L))(Z:AK w (Ab adr T))(hn:s=1->Ab adr T ∉ L)(hI:K.I w a)(y:¬K.S d)(B:∀(i:Nat)(f:F)(c:σ),fs[i]?=some f->ts.all (Aq T f)=true->BG K.aG (((fs.take i).filter (λf=>ts.all (Aq T f))).map (λf=>T++[f])) a c->K.ok (T++[f]) c) :
  Ca 325 #[Pn nb,AU (Ab adr T),I6 s] w λe w'=>e=.returned (.tuple #[])/\(∃c,BG K.aG ((fs.filter (λf=>ts.all (Aq T f))).map (λf=>T++[f])) a c/\K.I w' c)/\Ag w' d (uv (FV (Ab adr T) s L))/\CK w w'/\Av (λg=>g=d∨K.S g) w w':=by
 obtain⟨HQ,aU,aV,HJ,HT,aY,HM,HX,HI⟩:=Ja M aG aC hJ hT l hM Z hI;obtain⟨aS,N,aM,ah⟩:=BE B hK aK (λ(u:World)(hu:Bw w u)=>Xe nb 0 d L (Ab adr T) s u (zab hu (AF (L:=[_,_,_,_,_,_,_]) M (j:=5) rfl)) (hM.J hu) (Z.J hu) hs hn);have aZ:nb<w.heap.size:=As M;clear M aG aC hJ hT l hM Z hI B hK aK;simp only[Ab,AU]at ah⊢;go_enter func325,ntmps325;go_upto_region 1 with fail;refine Bt ?_;intro w1 aQ aD;obtain⟨t0,t1,t2⟩:=C7 aD rfl;have k:=Aa aQ;clear aQ
 go_region_held3 (λu=>At u w.heap.size 0 (.pointer (T[0]?.map adr))/\At u w.heap.size 1 (.pointer (T[1]?.map adr))/\At u w.heap.size 2 (.pointer (T[2]?.map adr)))
  ((go_split_ands;first|done|(refine⟨?_,?_,?_⟩<;>first|assumption|with_reducible exact CK.cell am qj|exact zab Aj.drew qj))) (first|(go_at_call 322;refine(ah.o _ k.o.drew).an λG⟨aH,x⟩=>?_;have am:=x.ck (HM.o.J k.o.drew).aV)|fail)
 rename_i hh;obtain⟨v0,v1,v2⟩:=hh;have z:CK w G:=(CK.ab k.o.drew).j am;have aE:w.heap.size<=G.heap.size:=yi k.o.drew.size x.rest.size;obtain⟨I2,P2⟩:=Ak (N.o.1 w G a HI.o z (λg n hS=>(x.block g (yh n k.o.drew.size) (λe'=>y qz)).j (k.o.drew.block g n)) aE) ((Av.ab k.o.drew:Av (λg=>g=d∨K.S g) w w1.drew).j (Av.of x (.inl rfl)));have n2:=z.cell (AF (L:=[_,_,_,_,_,_,_]) HQ.o (j:=2) rfl);have f4:=z.cell aM.o;obtain⟨W,M2⟩:=Ak z aH;clear aH x am z ah HI HM k t0 t1 t2 aD aM;go_wp2_with fail
 go_loopw [24] (λiv wr=>∃(i:Nat)(c:σ),i<=fs.length/\iv=I6 (i:Int)/\BG K.aG (((fs.take i).filter (λf=>ts.all (Aq T f))).map (λf=>T++[f])) a c/\K.I wr c/\Ag wr d (uv (FV (Ab adr T) s L))/\CK G wr/\Av (λg=>g=d∨K.S g) w wr) (λiv _=>fs.length-(intOf iv).toNat)
 case atStart=>exact⟨0,a,yA _,rfl,rfl,I2.o,M2.o,λ_ _ _ _ h=>h,P2.o⟩
 case round=>
  obtain⟨i,c,hi,rfl,v,aL,aO,C,aF⟩:=hrel;obtain⟨E,U,ay,A,az⟩:=DU v aL aO C aF;have y0:=C.cell v0;have y1:=C.cell v1;have y2:=C.cell v2;clear v aL aO C aF;by_cases aT:i<fs.length
  .obtain⟨f,R⟩:=AJ aT;have aN:=yd R;obtain⟨b,o,rfl,a0,aP⟩:=(aU.o.ck (W.o.j A.o)) i f R;have i0:(0:Int)<=(i:Int):=qd;have i1:(i:Int)<(fs.length:Int):=qd;have O:=W.o.j A.o;have aW:=Aa (iN nb ng (Pn ndb) up hv T.length ta tc d ts (T[0]?.map adr) (T[1]?.map adr) (T[2]?.map adr) (some (adr f)) T f s wr (O nb _ _ _ HQ.o) (HJ.o.ck O) (HT.o.ck O) aP hl (aY.o f aN) aB K.fn K.r hH (λu H=>(∃Y,K.aG (T++[f]) c Y/\K.I H Y)/\CK u H/\Av K.S u H) (λ_ _ h=>h.2.1) (λD u hu=>by
    rw[Vp adr T f aB];exact(N.o.2 u c (T++[f]) (N.o.1 wr u c U.o (CK.ab hu) (λg n _=>hu.block g n) hu.size) (aS.o i f c R D E.o) ((((HX.o.ck O).snoc ((aV.o f aN).ck O) aB)).J hu)).ac λe H h=>⟨h.1,by obtain⟨_,Y,h1,h2,h3,h4⟩:=h;exact⟨⟨Y,h1,h2⟩,h3,h4⟩⟩))
   clear O aP;go_wp2_with (first|(go_at_call 326;refine aW.o.an λw3 aI=>?_)|fail);have aJ:fs.take (i+1)=fs.take i++[f]:=by
    rw[yY,R];rfl
   refine⟨?_,by simp[intOf];omega⟩;rcases aI with⟨D,m⟩|⟨D,u,aw,⟨⟨Y,aX,aR⟩,au,av⟩⟩
   .refine⟨i+1,c,qd,ql,?_,N.o.1 wr w3 c U.o (CK.ab m) (λg n _=>m.block g n) m.size,ay.o.J m,A.o.j (CK.ab m),az.o.j (Av.ab m)⟩;rw[aJ,yQ,yN (by rw[D];decide),YC,yM];exact E.o
   refine⟨i+1,Y,qd,ql,?_,aR,(ay.o.J aw).aM av au y,A.o.j ((CK.ab aw).j au),(az.o.j (Av.ab aw)).j (av.ac λg q=>.inr q)⟩;rw[aJ,yQ,yL (p:=λf=>ts.all (Aq T f)) (a:=f) D,YC,yJ,yn,YF];exact E.o.snoc aX
  obtain rfl:i=fs.length:=qd;have i1:¬(fs.length:Int)<(fs.length:Int):=qd;go_wp2_with fail;have v:=E.o;rw[yW]at v;exact bodyPost_end (results_none rfl _ _ _) rfl ⟨rfl,⟨c,v,U.o⟩,ay.o,W.o.j A.o,az.o⟩
def A6.dd{w b r L a}(h:A6 w b r L a):r<w.heap.size:=by
 obtain⟨es,c,since,seen,e,_,_,_,_,d,_⟩:=h.at_;exact As d
def A6.cD{w b r L a}(h:A6 w b r L a):∀c t f,w.heap[r]?≠some (.cells c t f):=λc t f e=>by
 obtain⟨es,d,since,seen,i,_,_,_,_,g,_⟩:=h.at_;rw[g]at e;cases e
def A6.aM{S w w' b r L a}(h:A6 w b r L a)(e:Av S w w')(o:CK w w')(q:¬S b)(m:¬S r):A6 w' b r L a:=by
 obtain⟨es,c,since,seen,n,f,i,g,k,d,p⟩:=h.at_;exact⟨⟨es,c,since,seen,n,(e.block b (As f) q).j f,i,g,k,(e.block r (As d) m).j d,p⟩,h.nd,λy l=>(h.ok y l).ck o⟩
def A6.J{w w' b r L a}(h:A6 w b r L a)(c:Bw w w'):A6 w' b r L a:=h.aM (S:=λ_=>False) (Av.ab c) (CK.ab c) (λh=>h) (λh=>h)
def SG{w a r o}(h:a=w∨a=w.drew):Bi (some r) w (ChangeMaps.setBlock a r o):=by
 have e:Bi (some r) w a:=by
  rcases h with rfl|rfl
  .exact Bi.refl _ _
  exact Bi.ab Aj.drew
 exact e.j (Bi.put o)
def Ve{P mt l i w b T}(k:P.underlying mt=some (.map l i))(h:Ag w b (uv T)):∃o,(Instr.range mt (.map (some b))).run P w=.ok (Pn w.heap.size) (w.alloc o)/\A6 (w.alloc o) b w.heap.size (uv T) T:=by
 obtain⟨es,a,d,c,Y,O⟩:=h.at_;refine⟨.mapIter (some b) a #[] a,?_,⟨⟨es,a,a,#[],a,?_,c,Y,O,heap_alloc_new _ _,O,yX _,yX _,?_⟩,h.nd,λy f=>(h.ok y f).J Af⟩⟩
 .simp[Instr.range,run_underlying k,gM d,newObj,Sem.run]
 .exact(yV _ _ _ h.lt).j d
 have g:(leftOf es #[]).toList=es.toList:=by simp[leftOf]
 rw[g];have:=congrArg (List.map Prod.fst) (show es.toList.map (λe=>(e.key,e.val))=(uv T).map (λx=>(AU x.1,x.2)) from c);rw[Yp,Yp]at this;refine Eq.j (show _=_ from this) ?_;unfold uv;rw[Yp];rfl
def Av.new{S w u v r}(h:Av S w u)(k:Bi (some r) u v)(c:w.heap.size<=r):Av S w v:=
 ⟨h.rest.j k.rest,λg a b=>(k.block g (yh a h.rest.size) (λe=>Zd)).j (h.block g a b)⟩
def A6.left{w b r L a}(h:A6 w b r L a):w.rangeLeft b r=a.length:=by
 obtain⟨es,c,since,seen,f,e,i,g,j,d,k,l,Y,O⟩:=h.at_;unfold World.rangeLeft;rw[e,d];have:=congrArg List.length O;simpa using this
def PJ{α:Type}{k:α->Kt}:∀{l:List α}{T:α},(l.map k).Nodup->T∈l->l.Perm (T::l.filter (λU=>decide (k U≠k T)))
 |[],T,_,h=>by simp at h
 |y::r,T,hn,h=>by
  rw[yn,Yg]at hn
  rcases yO.1 h with e|h
  .subst e
   rw[yN (by simp)]
   have:r.filter (λU=>decide (k U≠k T))=r:=Yv.2 λU a=>by
    simpa usingλe:k U=k T=>hn.1 (by rw[<-e];exact yT a)
   rw[this]
  have hy:k y≠k T:=λe=>hn.1 (by rw[e];exact yT h)
  rw[yL QA]
  exact(List.Perm.cons y (PJ hn.2 h)).j (List.Perm.swap _ _ _)
def ut{σ}(K:CA σ)(adr s)(hK:K.Good adr s)(nb ndb B n ng up hv ta aa tc ac ts E)(TT:List (List F))(f a w)(hq:JN w nb ng (Pn ndb) up hv n ta ts.length tc B)(hH:Ht hv K.fn K.r)(N:CO w ndb E aa ac)(hF:Ee w (.pointer (some (adr f))) f)(a8:Bc w (some (adr f)))(a2:E.ah.length<=1048576)(hJ:DQ w ta ts)(hl:ts.length<=1048576)(hn:n<3)(ae:∀T∈TT,T.length=n/\Ej w (.pointer (T[0]?.map adr)) (.pointer (T[1]?.map adr)) (.pointer (T[2]?.map adr)) T/\AK w (Ab adr T))(C:Ae E f=true->∀T∈TT,∀t∈ts,t.fits T f)(hM:Ag w B (uv (TT.map (Ab adr))))(hI:K.I w a)(ap:¬K.S B)(a1:∀g,K.S g->g<w.heap.size)(ad:Ae E f=true->∀(ag:List (List F))(T:List F)(aN:List (List F))(d:σ),TT.Perm (ag++T::aN)->ts.all (Aq T f)=true->BG K.aG ((ag.filter (λT=>ts.all (Aq T f))).map (λT=>T++[f])) a d->K.ok (T++[f]) d) :
  Ca 324 #[Pn nb,.pointer (some (adr f)),I6 s] w λe w'=>e=.returned (.tuple #[])/\(∃aL d,TT.Perm aL/\BG K.aG ((aL.filter (λT=>Ae E f&&ts.all (Aq T f))).map (λT=>T++[f])) a d/\K.I w' d)/\Ag w' B (uv (TT.map (Ab adr)))/\CK w w'/\Av K.S w w':=by
 obtain⟨HQ,HJ,bk,HM,HI,G,HF,bt,bc⟩:=Ja hq hJ ae hM hI hK hF a8 C;obtain⟨aP,HP⟩:=Ak ad (Qk ndb E aa ac (.pointer (some (adr f))) f w N hF a2);have n2:=AF (L:=[_,_,_,_,_,_,_]) hq (j:=2) rfl;have n5:=AF (L:=[_,_,_,_,_,_,_]) hq (j:=5) rfl;clear hq hJ ae hM hI hK N hF a8 C ad;cases hp:Ae E f
 .rw[hp]at HP;go_enter func324,ntmps324;go_wp2_with (first|(go_at_call 152;refine HP.o.an λi Y=>?_)|fail);refine bodyPost_ret (v:=.tuple #[]) (results_none rfl _ _ _) rfl ⟨rfl,⟨TT,a,.refl _,?_,G.o.1 w i a HI.o (CK.ab Y) (λg y _=>Y.block g y) Y.size⟩,HM.o.J Y,CK.ab Y,Av.ab Y⟩;have:TT.filter (λT=>false&&ts.all (Aq T f))=[]:=qe;rw[this];rfl
 rw[hp]at HP;obtain⟨a5,a4⟩:=Ak (bc.o hp) (aP.o hp);clear bc aP;go_enter func324,ntmps324;go_upto_region 1 with(first|(go_at_call 152;refine HP.o.an λi Y=>?_)|fail);have m5:=zab Y n5;obtain⟨o,hR,aE⟩:=Ve (P:=prog) EJ (HM.o.J Y);obtain⟨aW,aM⟩:=Ak aE Y;clear aE Y;have bw:=aW.o.dd;have bh:=Aa (Aj.alloc AA o:Bw i (i.alloc o));have bj:(TT.map (Ab adr)).Nodup:=by have:=HM.o.nd;rwa [Pp]at this
 have bg:=Aa bj;have D:=aM.o.size;have aX:¬K.S i.heap.size:=λh=>by have:=a1 _ h;omega
 go_wp2_with fail
 go_loopw [] (λwr=>∃(done b:List (List F))(d:σ),TT.Perm (done++b)/\A6 wr B i.heap.size (uv (TT.map (Ab adr))) (b.map (Ab adr))/\BG K.aG ((done.filter (λT=>ts.all (Aq T f))).map (λT=>T++[f])) a d/\K.I wr d/\CK w wr/\Av K.S w wr) (λwr=>wr.rangeLeft B i.heap.size)
 case atStart=>
  have m:Bw w (i.alloc o):=aM.o.j (bh.o.ac D);exact⟨[],TT,a,.refl _,aW.o,rfl,G.o.1 w _ a HI.o (CK.ab m) (λg y _=>m.block g y) m.size,CK.ab m,Av.ab m⟩
 case round=>
  obtain⟨done,b,d,aO,M,aT,aY,aU,aQ⟩:=hrel;obtain⟨aw,a6,az,a0,aS,aH⟩:=Hl aO M aT aY aU aQ;clear aO aT aY aU aQ;rcases RU (P:=prog) M 0 with⟨h0,N⟩|⟨x,v,ob,w2,hx,bv,bo,N,aq,hE⟩
  .have bl:b=[]:=Ki.1 h0;clear M;go_wp2_with fail;refine bodyPost_end (results_none rfl _ _ _) rfl ⟨rfl,⟨done,d,?_,?_,a0.o⟩,a6.o.map,aS.o,aH.o⟩
   .have:=aw.o;rwa [bl,yM]at this
   simpa using az.o
  obtain⟨T,hT,rfl⟩:=yz.1 hx;have H:=SG (r:=i.heap.size) (o:=ob) bo;obtain⟨W,hW⟩:∃W,W=ChangeMaps.setBlock w2 i.heap.size ob:=⟨_,rfl⟩
  rw[<-hW]at N aq hE H;have aD:=Aa aq;have ay:=H.ck M.cD;have A:=aS.o.j ay;have aJ:K.I W d:=G.o.1 wr W d a0.o ay (λg y hS=>H.block g y (λe'=>aX qz)) H.rest.size;have aZ:T∈TT:=aw.o.ai.subset (YA _ hT);obtain⟨br,aR,a7⟩:=bk.o T aZ;have af:=PJ (k:=Ab adr) (l:=b) (T:=T) (by
   have h1:=(aw.o.map (Ab adr)).nodup_iff.1 bg.o;rw[yJ,yP]at h1;exact h1.2.1) hT
  obtain⟨O,aI⟩:∃q,q=b.filter (λU=>decide (Ab adr U≠Ab adr T)):=⟨_,rfl⟩
  rw[<-aI]at af;have av:TT.Perm (done++T::O):=aw.o.j ((Wc _).append af);have aA:=Aa av;have bn:=Aa (λ(u:World)(hu:Bw W u)=>iN nb ng (Pn ndb) up hv n ta tc B ts (T[0]?.map adr) (T[1]?.map adr) (T[2]?.map adr) (some (adr f)) T f s u (((A.j (CK.ab hu))) nb _ _ _ HQ.o) (HJ.o.ck (A.j (CK.ab hu))) (aR.ck (A.j (CK.ab hu))) (HF.o.ck (A.j (CK.ab hu))) hl (a5.o T aZ) hn K.fn K.r hH (λu z=>(∃R,K.aG (T++[f]) d R/\K.I z R)/\CK u z/\Av K.S u z) (λ_ _ h=>h.2.1) (λha z bi=>by
   have ax:Bw W z:=hu.aj bi;rw[<-br,Vp adr T f qd];exact(G.o.2 z d (T++[f]) (G.o.1 W z d aJ (CK.ab ax) (λg y _=>ax.block g y) ax.size) (a4.o done T O d av ha az.o) (((a7.ck A).snoc (bt.o.ck A) qd).J ax)).ac λe z h=>⟨h.1,by obtain⟨_,R,h1,h2,h3,h4⟩:=h;exact⟨⟨R,h1,h2⟩,h3,h4⟩⟩))
  obtain⟨bm,a9,aK,bu⟩:=BE aJ A H ay;have au:=M.left;have aj:O.length<b.length:=by have:=af.length_eq;simp at this;omega
  simp only[Ab,AU]at N hE;clear M aq aJ A H ay hW av af aR a7;have ar:=Aa (λo=>Aj.alloc AA o:∀o,Bw W (W.alloc o));have aF:A6 W B i.heap.size (uv (TT.map (Ab adr))) (O.map (Ab adr)):=by
   have:=aD.o;rw[Y8]at this;rw[aI];exact this
  have aB:=Aa aF;clear aF aD aI;go_wp2_with (first|(go_at_call 326;refine(bn.o _ (ar.o _)).an λw3 aV=>?_)|fail);rcases aV with⟨ha,bp⟩|⟨ha,u,bf,⟨⟨R,bq,bd⟩,aC,aG⟩⟩
  .have c:Bw W w3:=(ar.o _).j (bp.ac (ar.o _).size);have Z:=aB.o.J c;refine⟨⟨done++[T],O,d,?_,Z,?_,G.o.1 W w3 d bm.o (CK.ab c) (λg y _=>c.block g y) c.size,a9.o.j (CK.ab c),?_⟩,?_⟩
   .have:=aA.o;exact Qu
   .rw[yQ,yN (p:=λT=>ts.all (Aq T f)) (a:=T) (by rw[ha];decide),YC,yM];exact az.o
   .exact(aH.o.new aK.o D).j (Av.ab c)
   rw[Z.left,au,yp,yp];exact aj
  have c:Bw W u:=(ar.o _).j (bf.ac (ar.o _).size);have Z:=(aB.o.J c).aM aG aC ap aX;refine⟨⟨done++[T],O,R,?_,Z,?_,bd,a9.o.j ((CK.ab c).j aC),?_⟩,?_⟩
  .have:=aA.o;exact Qu
  .rw[yQ,yL (p:=λT=>ts.all (Aq T f)) (a:=T) ha,YC,yJ,yn,YF];exact az.o.snoc bq
  .exact(aH.o.new aK.o D).j ((Av.ab c).j aG)
  rw[Z.left,au,yp,yp];exact aj
def nBar(ts:List Jt)(fs:List F)(T:List F):Nat:=(fs.filter (λf=>ts.all (Aq T f))).length
def zjS(v H n l q ndb ts g z T fs fa fc w)(D:w.cell? ⟨ndb,4,none⟩=some (.slice fa fs.length fc))(A:DQ w g ts)(B:Ej w n l q T)(E:JM w fa fs)(hl:ts.length<=1048576)(aD:fs.length<=1000)(d:∀f∈fs,∀t∈ts,t.fits T f) :
  Ca 323 #[.agg #[v,H,.pointer (some ⟨ndb,0,none⟩),.slice g ts.length z],.agg #[n,l,q]] w λe w'=>e=.returned (.int .i64 (nBar ts fs T:Int))/\Bw w w':=by
 obtain⟨HN,HT,ay,Z,aB⟩:=DU D A B E d;clear D A B E d;go_enter func323,ntmps323;go_upto_region 1 with fail;refine Bo ?_;intro w1 k x C;obtain⟨c0,W,c2,L⟩:=AO x;obtain⟨N,R,t2⟩:=Ao C;have n4:=zab k HN.o;have M:=Aa k;clear k x C;go_wp2_with fail
 go_loopw [5,14] (λcv iv wr=>∃i:Nat,i<=fs.length/\iv=.int .i64 (i:Int)/\cv=.int .i64 (nBar ts (fs.take i) T:Int)/\Bw w1 wr) (λ_ iv _=>fs.length-(intOf iv).toNat)
 case atStart=>exact⟨0,yA _,rfl,rfl,Aj⟩
 case round=>
  obtain⟨i,hi,rfl,rfl,c⟩:=hrel;have HB:=Aa c;have d0:=zab c c0;have d1:=zab c W;have d2:=zab c c2;have d3:=zab c L;have u0:=zab c N;have u1:=zab c R;have u2:=zab c t2;have O:Bw w wr:=M.o.aj c;have U:=Aa O;clear c;by_cases az:i<fs.length
  .obtain⟨f,r⟩:=AJ az;obtain⟨b,o,pv,rfl,u,G⟩:=Z.o i f r;have aC:=zab O u;have i0:(0:Int)<=(i:Int):=qd;have i1:(i:Int)<(fs.length:Int):=qd;have j:=Aa (MQ v H (.pointer (some ⟨ndb,0,none⟩)) n l q pv ts g z T f wr (HT.o.J O) (ay.o.J O) (G.J O) hl (aB.o f (yd r)));have I:fs.take (i+1)=fs.take i++[f]:=by
    rw[yY,r];rfl
   have s:nBar ts (fs.take (i+1)) T=nBar ts (fs.take i) T+(if ts.all (Aq T f)=true then 1 else 0):=by
    unfold nBar;rw[I,yQ,yR];congr 1;by_cases h:ts.all (Aq T f)=true
    .rw[if_pos h,yL (p:=λf=>ts.all (Aq T f)) (a:=f) h];rfl
    rw[if_neg h,yN (p:=λf=>ts.all (Aq T f)) (a:=f) h];rfl
   have aw:nBar ts (fs.take i) T<=1000:=yi (Yd _ _) (by rw[Yo];omega);have Y:=Aa s;clear s I u G O;cases y:ts.all (Aq T f)
   focus
    rw[y]at j Y
   rotate_left
   focus
    rw[y]at j Y;generalize nBar ts (fs.take i) T=m at Y aw
   rotate_left
   all_goals
    go_wp2_with (first|(go_at_call 113;refine j.o.an λw3 K=>?_)|fail);exact⟨⟨i+1,qd,ql,by rw[Y.o];rfl,HB.o.aj K⟩,by simp[intOf];omega⟩
  obtain rfl:i=fs.length:=qd;have i1:¬(fs.length:Int)<(fs.length:Int):=qd;rw[yW];go_wp2_with fail;go_ret;exact⟨rfl,U.o⟩
end Go.Proofs.YtikojfajahnhgaaGreat
