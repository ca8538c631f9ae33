import Derived.Test.YtikojfajahnhgaaGreatKan
set_option linter.all false
set_option maxHeartbeats 6400000
set_option maxRecDepth 100000
namespace Go.Proofs.YtikojfajahnhgaaGreat
open Go.RowKit Go.Proofs.Tryz
attribute [local go_sem ↓] wp_at_zero wp_at_succ
attribute [local simp] At I6 Pn mzI Bk
attribute [local go_sem] At I6 Pn Bk
def CE{σ α:Type}(stp:α->σ->σ->Prop):List α->σ->σ->Prop
 |[],a,b=>a=b
 |x::r,a,b=>∃c,stp x a c/\CE stp r c b
def CE.snoc{σ α stp}:∀{l:List α}{a b c:σ}{x:α},CE stp l a b->stp x b c->CE stp (l++[x]) a c:=by intro l;induction l<;>grind[CE]
theorem Cj.W{u w a vs}(h:Cj u a vs)(c:CK u w):Cj w a vs:=λi v hv=>by
 obtain⟨b,o,e,O,d,f⟩:=h i v hv;exact⟨b,o,e,c.cell O,c.cell d,c.cell f⟩
theorem DJ.W{u w v f}(h:DJ u v f)(d:CK u w):DJ w v f:=by
 obtain⟨b,o,e,O,g,a,c,i,j⟩:=h;exact⟨b,o,e,d.cell O,d.cell g,a,c,d.cell i,j.W d⟩
theorem E_.W{u w b c a T}(h:E_ u b c a T)(d:CK u w):E_ w b c a T:=by grind[E_,DJ,CK,DJ.W]
theorem EJ.W{u w a ts}(h:EJ u a ts)(b:CK u w):EJ w a ts:=by grind[EJ,CK,CK.cell]
def Jq(w:Aa)(a:Af)(fs:Ab)(adr:F->Addr):Prop:=∀(i:Nat)(f:F),fs[i]?=some f->∃b o,a=some ⟨b,o,none⟩/\w.cell? ⟨b,o+i,none⟩=some (.pointer (some (adr f)))/\DJ w (.pointer (some (adr f))) f
theorem Jq.W{u w a fs adr}(h:Jq u a fs adr)(b:CK u w):Jq w a fs adr:=by grind[Jq,DJ,CK,CK.cell,DJ.W]
def Ae(adr:F->Addr)(T:Ab):Kt:=(T[0]?.map adr,T[1]?.map adr,T[2]?.map adr)
def e_(adr T f)(h:T.length<3):Value.agg (Iv T.length (.pointer (some (adr f))) (.pointer (T[0]?.map adr)) (.pointer (T[1]?.map adr)) (.pointer (T[2]?.map adr)))=Bh (Ae adr (T++[f])):=by grind[Iv,Bh,Ae]
theorem BU.W{b u w}(h:BU (some b) u w)(f:∀c t a,u.heap[b]?≠some (.cells c t a)):CK u w:=λg c t a d=>(h.block g (Ap d) (λe=>by injection e with e;subst e;exact f c t a d)).c d
def Ao.aN{w b L}(h:Ao w b L):∀c t d,w.heap[b]?≠some (.cells c t d):=λc t d e=>by
 obtain⟨es,a,f,_⟩:=h.Y;rw[f]at e;cases e
def Ao.aD{S w w' b L}(h:Ao w b L)(k:AM S w w')(e:CK w w')(d:¬S b):Ao w' b L:=by
 obtain⟨es,a,f,l⟩:=h.Y;exact⟨⟨es,a,(k.block b h.lt d).c f,l⟩,h.nd,λy i=>(h.ok y i).iter λg c t j=>e g c t (0,0) j⟩
structure Du(σ:Type) where
 I:Aa->σ->Prop
 S:Nat->Prop
 fn:Nat
 r:Nat
 ok:Ab->σ->Prop
 stp:Ab->σ->σ->Prop
def Du.aX{σ:Type}(K:Du σ)(adr:F->Addr)(s:Int):Prop:=
 (∀u u' a,K.I u a->CK u u'->(∀g,g<u.heap.size->K.S g->u'.heap[g]?=u.heap[g]?)->u.heap.size<=u'.heap.size->K.I u' a) /\
 ∀u a T,K.I u a->K.ok T a->A_ u (Ae adr T)->Ca K.fn #[.pointer (some ⟨K.r,0,none⟩),Bh (Ae adr T),.int .i64 s] u λe u'=>e=.returned (.tuple #[])/\∃a',K.stp T a a'/\K.I u' a'/\CK u u'/\AM K.S u u'
def A_.snoc{adr w T f}(h:A_ w (Ae adr T))(a:BB w (some (adr f)))(hl:T.length<3):A_ w (Ae adr (T++[f])):=by grind[BB,A_,Ae]
theorem BB.W{u w p}(h:BB u p)(a:CK u w):BB w p:=h.iter λg c t b=>a g c t (0,0) b
theorem A_.W{u w x}(h:A_ u x)(a:CK u w):A_ w x:=h.iter λg c t b=>a g c t (0,0) b
def zrW{σ}(K:Du σ)(adr s)(hs:s=1∨s = -1)(hK:K.aX adr s)(nb ndb k ng up hv Z fa tc fc ts fs T L a w)(hq:JN w nb ng (Pn ndb) up hv T.length Z ts.length tc k)(hH:JA hv K.fn K.r)(aQ:At w ndb 4 (.slice fa fs.length fc))(aP:Jq w fa fs adr)(aZ:∀f∈fs,BB w (some (adr f)))(hJ:EJ w Z ts)(hT:E_ w (.pointer (T[0]?.map adr)) (.pointer (T[1]?.map adr)) (.pointer (T[2]?.map adr)) T)(hl:ts.length<=1048576)(a5:fs.length<=1000)(y:∀f∈fs,∀t∈ts,t.ah T f)(Y:T.length<3)(hM:Ao w k (uv L))(hx:A_ w (Ae adr T))(hn:s=1->Ae adr T ∉ L)(hI:K.I w a)(x:¬K.S k)(aa:∀(i:Nat)(f:F)(d:σ),fs[i]?=some f->ts.all (AA T f)=true->CE K.stp (((fs.take i).filter (λf=>ts.all (AA T f))).map (λf=>T++[f])) a d->K.ok (T++[f]) d) :
  Ca 325 #[Pn nb,Bh (Ae adr T),I6 s] w λe w'=>e=.returned (.tuple #[])/\(∃d,CE K.stp ((fs.filter (λf=>ts.all (AA T f))).map (λf=>T++[f])) a d/\K.I w' d)/\Ao w' k (uv (Hm (Ae adr T) s L))/\CK w w'/\AM (λg=>g=k∨K.S g) w w':=by
 obtain⟨HQ,aK,aJ,HJ,HT,aW,HM,HX,HI⟩:=L_ hq aP aZ hJ hT y hM hx hI;obtain⟨aV,H,aL,ar⟩:=BP aa hK aQ (λ(u:Aa)(hu:Bw w u)=>iB nb 0 k L (Ae adr T) s u (zab hu (Bf (L:=[_,_,_,_,_,_,_]) hq (j:=5) rfl)) (hM.e hu) (hx.e hu) hs hn);have a4:nb<w.heap.size:=Ap hq;simp only[Ae,Bh]at ar⊢;go_enter func325,ntmps325;go_upto_region 1 with fail;refine BF ?_;intro w1 aO aN;obtain⟨t0,t1,t2⟩:=Ea aN rfl;have l:=Ad aO
 go_region_held3 (λu=>At u w.heap.size 0 (.pointer (T[0]?.map adr))/\At u w.heap.size 1 (.pointer (T[1]?.map adr))/\At u w.heap.size 2 (.pointer (T[2]?.map adr)))
  ((go_split_ands;first|done|(refine⟨?_,?_,?_⟩<;>first|assumption|with_reducible exact CK.cell aw qk|exact zab Au.drew qk)))
  (first|(go_at_call 322;refine(ar _ l.drew).rtn λM⟨aR,C⟩=>?_;have aw:=C.W (HM.e l.drew).aN)|fail)
 rename_i hh;obtain⟨v0,v1,v2⟩:=hh;have N:CK w M:=(CK.u l.drew).c aw;have aH:w.heap.size<=M.heap.size:=yi l.drew.size C.rest.size;obtain⟨I2,P2⟩:=An (H.1 w M a HI N (λg n hS=>(C.block g (yg n l.drew.size) (λe'=>x qG)).c (l.drew.block g n)) aH) ((AM.u l.drew:AM (λg=>g=k∨K.S g) w w1.drew).c (AM.of C (.inl rfl)));have n2:=N.cell (Bf (L:=[_,_,_,_,_,_,_]) HQ (j:=2) rfl);have f4:=N.cell aL;obtain⟨aA,M2⟩:=An N aR;go_wp2
 go_loopw [24] (λiv wr=>∃(i:Nat)(d:σ),i<=fs.length/\iv=I6 (i:Int)/\CE K.stp (((fs.take i).filter (λf=>ts.all (AA T f))).map (λf=>T++[f])) a d/\K.I wr d/\Ao wr k (uv (Hm (Ae adr T) s L))/\CK M wr/\AM (λg=>g=k∨K.S g) w wr) (λiv _=>fs.length-(intOf iv).toNat)
 .exact⟨0,a,yn _,rfl,rfl,I2,M2,λ_ _ _ _ h=>h,P2⟩
 obtain⟨i,d,hi,rfl,D,aY,aU,B,aX⟩:=hrel;obtain⟨E,aB,U,v,ay⟩:=Ei D aY aU B aX;have y0:=B.cell v0;have y1:=B.cell v1;have y2:=B.cell v2;by_cases aI:i<fs.length
 .obtain⟨f,G⟩:=Bq aI;have aF:=yd G;obtain⟨b,o,rfl,a6,aM⟩:=(aK.W (aA.c v)) i f G;obtain⟨i0,i1⟩:=CZ aI;have A:=aA.c v;have a0:=Ad (mN nb ng (Pn ndb) up hv T.length Z tc k ts (T[0]?.map adr) (T[1]?.map adr) (T[2]?.map adr) (some (adr f)) T f s wr (A nb _ _ _ HQ) (HJ.W A) (HT.W A) aM hl (aW f aF) Y K.fn K.r hH (λu J=>(∃m,K.stp (T++[f]) d m/\K.I J m)/\CK u J/\AM K.S u J) (λ_ _ h=>h.2.1) (λz u hu=>by
   rw[e_ adr T f Y];exact(H.2 u d (T++[f]) (H.1 wr u d aB (CK.u hu) (λg n _=>hu.block g n) hu.size) (aV i f d G z E) ((((HX.W A).snoc ((aJ f aF).W A) Y)).e hu)).j λe J h=>⟨h.1,by obtain⟨_,m,h1,h2,h3,h4⟩:=h;exact⟨⟨m,h1,h2⟩,h3,h4⟩⟩))
  go_wp2_with (first|(go_at_call 326;refine a0.rtn λw3 aG=>?_)|fail);have aE:fs.take (i+1)=fs.take i++[f]:=by
   rw[Yc,G];rfl
  refine⟨?_,qp⟩;rcases aG with⟨z,O⟩|⟨z,u,R,⟨⟨m,aT,aS⟩,ax,au⟩⟩
  .refine⟨i+1,d,qd,qm,?_,H.1 wr w3 d aB (CK.u O) (λg n _=>O.block g n) O.size,U.e O,v.c (CK.u O),ay.c (AM.u O)⟩;rw[aE,yV,yT (by rw[z];decide),Yu,yO];exact E
  refine⟨i+1,m,qd,qm,?_,aS,(U.e R).aD au ax x,v.c ((CK.u R).c ax),(ay.c (AM.u R)).c (au.j λg q=>.inr q)⟩;rw[aE,yV,yQ (p:=λf=>ts.all (AA T f)) (a:=f) z,Yu,yz,yx,YZ];exact E.snoc aT
 obtain rfl:i=fs.length:=qd;have i1:¬(fs.length:Int)<(fs.length:Int):=qd;go_wp2_with fail;have D:=E.o;rw[yZ]at D;exact bodyPost_end (results_none rfl _ _ _) rfl ⟨rfl,⟨d,D,aB⟩,U,aA.c v,ay⟩
def BD.dC{w b r L a}(h:BD w b r L a):r<w.heap.size:=by
 obtain⟨es,c,since,seen,e,_,_,_,_,d,_⟩:=h.Y;exact Ap d
def BD.cO{w b r L a}(h:BD w b r L a):∀c t f,w.heap[r]?≠some (.cells c t f):=λc t f e=>by
 obtain⟨es,d,since,seen,i,_,_,_,_,g,_⟩:=h.Y;rw[g]at e;cases e
def BD.aD{S w w' b r L a}(h:BD w b r L a)(g:AM S w w')(k:CK w w')(j:¬S b)(p:¬S r):BD w' b r L a:=by
 obtain⟨es,d,since,seen,i,f,o,n,q,e,m⟩:=h.Y;exact⟨⟨es,d,since,seen,i,(g.block b (Ap f) j).c f,o,n,q,(g.block r (Ap e) p).c e,m⟩,h.nd,λy l=>(h.ok y l).W k⟩
theorem BD.e{w w' b r L a}(h:BD w b r L a)(c:Bw w w'):BD w' b r L a:=h.aD (S:=λ_=>False) (AM.u c) (CK.u c) (λh=>h) (λh=>h)
def VK{w a r o}(h:a=w∨a=w.drew):BU (some r) w (ChangeMaps.setBlock a r o):=by
 have e:BU (some r) w a:=by
  rcases h with rfl|rfl
  .exact BU.refl _ _
  exact BU.u Au.drew
 exact e.c (BU.put o)
def g_{P mt i k w b T}(m:P.underlying mt=some (.map i k))(h:Ao w b (uv T)):∃o,(Instr.range mt (.map (some b))).run P w=.ok (Pn w.heap.size) (w.alloc o)/\BD (w.alloc o) b w.heap.size (uv T) T:=by
 obtain⟨es,a,d,f,g,O⟩:=h.Y;refine⟨.mapIter (some b) a #[] a,?_,⟨⟨es,a,a,#[],a,?_,f,g,O,heap_alloc_new _ _,O,yA _,yA _,?_⟩,h.nd,λy j=>(h.ok y j).e Ar⟩⟩
 .simp[Instr.range,run_underlying m,gM d,newObj,Sem.run]
 .exact(yN _ _ _ h.lt).c d
 have l:(leftOf es #[]).toList=es.toList:=by simp[leftOf]
 rw[l];have:=congrArg (List.map Prod.fst) (show es.toList.map (λe=>(e.key,e.val))=(uv T).map (λx=>(Bh x.1,x.2)) from f);rw[Yl,Yl]at this;refine Eq.c (show _=_ from this) ?_;unfold uv;rw[Yl];rfl
def AM.new{S w u v r}(h:AM S w u)(k:BU (some r) u v)(d:w.heap.size<=r):AM S w v:=
 ⟨h.rest.c k.rest,λg a b=>(k.block g (yg a h.rest.size) (λe=>qO)).c (h.block g a b)⟩
def BD.left{w b r L a}(h:BD w b r L a):w.rangeLeft b r=a.length:=by
 obtain⟨es,c,since,seen,f,e,g,k,l,d,j,i,m,O⟩:=h.Y;unfold World.rangeLeft;rw[e,d];have:=congrArg List.length O;simpa using this
def Tf{α:Type}{k:α->Kt}:∀{l:List α}{T:α},(l.map k).Nodup->T∈l->l.Perm (T::l.filter (λU=>decide (k U≠k T)))
 |[],T,_,h=>by simp at h
 |y::r,T,hn,h=>by
  rw[yx,Yo]at hn
  rcases yW.1 h with e|h
  .subst e
   rw[yT (by simp)]
   have:r.filter (λU=>decide (k U≠k T))=r:=Yp.2 λU a=>by
    simpa usingλe:k U=k T=>hn.1 (by rw[<-e];exact yS a)
   rw[this]
  have hy:k y≠k T:=λe=>hn.1 (by rw[e];exact yS h)
  rw[yQ T0]
  exact(List.Perm.cons y (Tf hn.2 h)).c (List.Perm.swap _ _ _)
def TP{P:Prop}(h:P:=by rwa [show done++T::O=(done++[T])++O from by simp]at this):P:=h
def zsT{σ}(K:Du σ)(adr s)(hK:K.aX adr s)(nb ndb E n ng up hv ta aa tc ac ts J)(TT:Am)(f a w)(hq:JN w nb ng (Pn ndb) up hv n ta ts.length tc E)(hH:JA hv K.fn K.r)(Z:DG w ndb J aa ac)(hF:DJ w (.pointer (some (adr f))) f)(bf:BB w (some (adr f)))(an:J.y.length<=1048576)(hJ:EJ w ta ts)(hl:ts.length<=1048576)(hn:n<3)(ab:∀T∈TT,T.length=n/\E_ w (.pointer (T[0]?.map adr)) (.pointer (T[1]?.map adr)) (.pointer (T[2]?.map adr)) T/\A_ w (Ae adr T))(G:Ah J f=true->∀T∈TT,∀t∈ts,t.ah T f)(hM:Ao w E (uv (TT.map (Ae adr))))(hI:K.I w a)(ag:¬K.S E)(ae:∀g,K.S g->g<w.heap.size)(ad:Ah J f=true->∀(pre:Am)(T:Ab)(aM:Am)(i:σ),TT.Perm (pre++T::aM)->ts.all (AA T f)=true->CE K.stp ((pre.filter (λT=>ts.all (AA T f))).map (λT=>T++[f])) a i->K.ok (T++[f]) i) :
  Ca 324 #[Pn nb,.pointer (some (adr f)),I6 s] w λe w'=>e=.returned (.tuple #[])/\(∃bd i,TT.Perm bd/\CE K.stp ((bd.filter (λT=>Ah J f&&ts.all (AA T f))).map (λT=>T++[f])) a i/\K.I w' i)/\Ao w' E (uv (TT.map (Ae adr)))/\CK w w'/\AM K.S w w':=by
 obtain⟨HQ,HJ,bg,HM,HI,R,HF,bn,aZ⟩:=L_ hq hJ ab hM hI hK hF bf G;obtain⟨aX,HP⟩:=An ad (RX ndb J aa ac (.pointer (some (adr f))) f w Z hF an);have n2:=Bf (L:=[_,_,_,_,_,_,_]) hq (j:=2) rfl;have n5:=Bf (L:=[_,_,_,_,_,_,_]) hq (j:=5) rfl;clear hq hJ ab hM hI hK Z hF bf G ad;cases hp:Ah J f
 .rw[hp]at HP;go_enter func324,ntmps324;go_wp2_with (first|(go_at_call 152;refine HP.rtn λq m=>?_)|fail);refine bodyPost_ret (v:=.tuple #[]) (results_none rfl _ _ _) rfl ⟨rfl,⟨TT,a,.refl _,?_,R.1 w q a HI (CK.u m) (λg B _=>m.block g B) m.size⟩,HM.e m,CK.u m,AM.u m⟩;have:TT.filter (λT=>false&&ts.all (AA T f))=[]:=qf;rw[this];rfl
 rw[hp]at HP;obtain⟨aO,aV⟩:=An (aZ hp) (aX hp);clear aZ aX;go_enter func324,ntmps324;go_upto_region 1 with(first|(go_at_call 152;refine HP.rtn λq m=>?_)|fail);have m5:=zab m n5;obtain⟨o,hR,aH⟩:=g_ (P:=prog) Gc (HM.e m);obtain⟨a0,aT⟩:=An aH m;clear aH m;have bz:=a0.dC;have bq:=Ad (Au.alloc Bg o:Bw q (q.alloc o));have bv:(TT.map (Ae adr)).Nodup:=by have:=HM.nd;rwa [S1]at this
 have bt:=Ad bv;have H:=aT.size;have aQ:¬K.S q.heap.size:=λh=>by have:=ae _ h;omega
 go_wp2
 go_loopw [] (λwr=>∃(done b:Am)(i:σ),TT.Perm (done++b)/\BD wr E q.heap.size (uv (TT.map (Ae adr))) (b.map (Ae adr))/\CE K.stp ((done.filter (λT=>ts.all (AA T f))).map (λT=>T++[f])) a i/\K.I wr i/\CK w wr/\AM K.S w wr) (λwr=>wr.rangeLeft E q.heap.size)
 .have A:Bw w (q.alloc o):=aT.c (bq.j H);exact⟨[],TT,a,.refl _,a0,rfl,R.1 w _ a HI (CK.u A) (λg B _=>A.block g B) A.size,CK.u A,AM.u A⟩
 obtain⟨done,b,i,a5,M,a8,a7,aY,a4⟩:=hrel;obtain⟨aB,aR,az,aW,a9,aJ⟩:=Ma a5 M a8 a7 aY a4;clear a5 a8 a7 aY a4;rcases Vd (P:=prog) M 0 with⟨h0,Z⟩|⟨x,v,ob,w2,hx,bA,br,Z,aw,hE⟩
 .have bl:b=[]:=Kb.1 h0;clear M;go_wp2_with fail;refine bodyPost_end (results_none rfl _ _ _) rfl ⟨rfl,⟨done,i,?_,?_,aW⟩,aR.map,a9,aJ⟩
  .have:=aB.o;rwa [bl,yO]at this
  simpa using az.o
 obtain⟨T,hT,rfl⟩:=yv.1 hx;have Y:=VK (r:=q.heap.size) (o:=ob) br;obtain⟨W,hW⟩:=AF (ChangeMaps.setBlock w2 q.heap.size ob);rw[<-hW]at Z aw hE Y;have aE:=Ad aw;have ay:=Y.W M.cO;have C:=a9.c ay;have aK:K.I W i:=R.1 wr W i aW ay (λg B hS=>Y.block g B (λe'=>aQ qG)) Y.rest.size;have aN:T∈TT:=aB.z.subset (YD _ hT);obtain⟨bj,aS,a6⟩:=bg T aN;have ah:=Tf (k:=Ae adr) (l:=b) (T:=T) (by
  have h1:=(aB.map (Ae adr)).nodup_iff.1 bt;rw[yz,yL]at h1;exact h1.2.1) hT
 obtain⟨O,aL⟩:=AF (b.filter (λU=>decide (Ae adr U≠Ae adr T)));rw[<-aL]at ah;have au:TT.Perm (done++T::O):=aB.c ((Y2 _).append ah);have aG:=Ad au;have bu:=Ad (λ(u:Aa)(hu:Bw W u)=>mN nb ng (Pn ndb) up hv n ta tc E ts (T[0]?.map adr) (T[1]?.map adr) (T[2]?.map adr) (some (adr f)) T f s u (((C.c (CK.u hu))) nb _ _ _ HQ) (HJ.W (C.c (CK.u hu))) (aS.W (C.c (CK.u hu))) (HF.W (C.c (CK.u hu))) hl (aO T aN) hn K.fn K.r hH (λu D=>(∃N,K.stp (T++[f]) i N/\K.I D N)/\CK u D/\AM K.S u D) (λ_ _ h=>h.2.1) (λha D bo=>by
  have aA:Bw W D:=hu.thn bo;rw[<-bj,e_ adr T f qd];exact(R.2 D i (T++[f]) (R.1 W D i aK (CK.u aA) (λg B _=>aA.block g B) aA.size) (aV done T O i au ha az) (((a6.W C).snoc (bn.W C) qd).e aA)).j λe D h=>⟨h.1,by obtain⟨_,N,h1,h2,h3,h4⟩:=h;exact⟨⟨N,h1,h2⟩,h3,h4⟩⟩))
 obtain⟨bi,bc,aP,bw⟩:=BP aK C Y ay;have ar:=M.left;have ak:O.length<b.length:=by have:=ah.length_eq;simp at this;omega
 simp only[Ae,Bh]at Z hE;clear M aw aK C Y ay hW au ah aS a6;have ax:=Ad (λo=>Au.alloc Bg o:∀o,Bw W (W.alloc o));have aF:BD W E q.heap.size (uv (TT.map (Ae adr))) (O.map (Ae adr)):=by
  have:=aE.o;rw[YV]at this;rw[aL];exact this
 have aD:=Ad aF;clear aF aE aL;go_wp2_with (first|(go_at_call 326;refine(bu _ (ax _)).rtn λw3 aU=>?_)|fail);rcases aU with⟨ha,bh⟩|⟨ha,u,bp,⟨⟨N,bm,bk⟩,aI,aC⟩⟩
 .have d:Bw W w3:=(ax _).c (bh.j (ax _).size);have ai:=aD.e d;refine⟨⟨done++[T],O,i,?_,ai,?_,R.1 W w3 i bi (CK.u d) (λg B _=>d.block g B) d.size,bc.c (CK.u d),?_⟩,?_⟩
  .have:=aG.o;exact TP
  .rw[yV,yT (p:=λT=>ts.all (AA T f)) (a:=T) (by rw[ha];decide),Yu,yO];exact az
  .exact(aJ.new aP H).c (AM.u d)
  rw[ai.left,ar,yu,yu];exact ak
 have d:Bw W u:=(ax _).c (bp.j (ax _).size);have ai:=(aD.e d).aD aC aI ag aQ;refine⟨⟨done++[T],O,N,?_,ai,?_,bk,bc.c ((CK.u d).c aI),?_⟩,?_⟩
 .have:=aG.o;exact TP
 .rw[yV,yQ (p:=λT=>ts.all (AA T f)) (a:=T) ha,Yu,yz,yx,YZ];exact az.snoc bm
 .exact(aJ.new aP H).c ((AM.u d).c aC)
 rw[ai.left,ar,yu,yu];exact ak
def nBar(ts:List Jt)(fs:Ab)(T:Ab):Nat:=(fs.filter (λf=>ts.all (AA T f))).length
def zjy(y u k r j ndb ts q s T fs fa fc w)(Z:w.cell? ⟨ndb,4,none⟩=some (.slice fa fs.length fc))(az:EJ w q ts)(ar:E_ w k r j T)(H:Mv w fa fs)(hl:ts.length<=1048576)(aF:fs.length<=1000)(d:∀f∈fs,∀t∈ts,t.ah T f) :
  Ca 323 #[.agg #[y,u,.pointer (some ⟨ndb,0,none⟩),.slice q ts.length s],.agg #[k,r,j]] w λe w'=>e=.returned (.int .i64 (nBar ts fs T:Int))/\Bw w w':=by
 obtain⟨C,HT,M,HF,R⟩:=Ei Z az ar H d;go_enter func323,ntmps323;go_upto_region 1 with fail;refine Ce ?_;intro K x ao J;obtain⟨B,c1,c2,D⟩:=AX ao;obtain⟨t0,L,t2⟩:=Ax J;have n4:=zab x C;have HW:=Ad x;go_wp2
 go_loopw [5,14] (λG iv wr=>∃i:Nat,i<=fs.length/\iv=.int .i64 (i:Int)/\G=.int .i64 (nBar ts (fs.take i) T:Int)/\Bw K wr) (λ_ iv _=>fs.length-(intOf iv).toNat)
 .exact⟨0,yn _,rfl,rfl,Au⟩
 obtain⟨i,hi,rfl,rfl,c⟩:=hrel;have HB:=Ad c;have d0:=zab c B;have d1:=zab c c1;have d2:=zab c c2;have d3:=zab c D;have u0:=zab c t0;have u1:=zab c L;have u2:=zab c t2;have O:Bw w wr:=HW.thn c;have E:=Ad O;by_cases z:i<fs.length
 .obtain⟨f,l⟩:=Bq z;obtain⟨b,o,pv,rfl,I,A⟩:=HF i f l;have aE:=zab O I;obtain⟨i0,U⟩:=CZ z;have n:=Ad (PQ y u (.pointer (some ⟨ndb,0,none⟩)) k r j pv ts q s T f wr (HT.e O) (M.e O) (A.e O) hl (R f (yd l)));have N:fs.take (i+1)=fs.take i++[f]:=by
   rw[Yc,l];rfl
  have Y:nBar ts (fs.take (i+1)) T=nBar ts (fs.take i) T+(if ts.all (AA T f)=true then 1 else 0):=by
   unfold nBar;rw[N,yV,yM];congr 1;by_cases h:ts.all (AA T f)=true
   .rw[if_pos h,yQ (p:=λf=>ts.all (AA T f)) (a:=f) h];rfl
   rw[if_neg h,yT (p:=λf=>ts.all (AA T f)) (a:=f) h];rfl
  have aD:nBar ts (fs.take i) T<=1000:=yi (Yi _ _) (by rw[YL];omega);have g:=Ad Y;cases v:ts.all (AA T f)
  focus
   rw[v]at n g
  rotate_left
  focus
   rw[v]at n g;generalize nBar ts (fs.take i) T=m at g aD
  rotate_left
  all_goals
   go_wp2_with (first|(go_at_call 113;refine n.rtn λw3 W=>?_)|fail);exact⟨⟨i+1,qd,qm,by rw[g.o];rfl,HB.thn W⟩,qp⟩
 obtain rfl:i=fs.length:=qd;have U:¬(fs.length:Int)<(fs.length:Int):=qd;rw[yZ];go_wp2;go_ret;exact⟨rfl,E⟩
def NN(w:Aa)(nb:Nat)(ng ct nd up hv:Value)(ta:Af)(n tc tb bb:Nat):Prop:=Bk w nb #[ng,ct,nd,.slice ta n tc,up,.map (some tb),hv,.map (some bb)] 336
def ld(x v M):AC x (Fa x v M)=v:=by
 have h:=Ph x (Fa x v M);rw[<-Rj,U3]at h;simpa using h.z
def lT(x M):AC x (Gd x M)=0:=by
 unfold AC Gd;rw[KZ.2 (λy a=>by simpa using(yh.1 a).2)];rfl
def ZN(x k M):AC x (Im x k M)=k:=by
 unfold Im;split
 .rename_i h;rw[h];exact lT x M
 exact ld x k M
def Du.aB{σ:Type}(K:Du σ)(n:Nat)(T:Ab)(a a':σ):Prop:=if n=0 then K.stp T a a' else a'=a
def zoT{σ}(K:Du σ)(adr)(hK:K.aX adr 1)(nb ndb tb bb ng ct up hv ta fa tc fc ts fs T L B a w)(hq:NN w nb ng ct (Pn ndb) up hv ta ts.length tc tb bb)(hH:JA hv K.fn K.r)(aG:At w ndb 4 (.slice fa fs.length fc))(aF:Mv w fa fs)(hJ:EJ w ta ts)(hT:E_ w (.pointer (T[0]?.map adr)) (.pointer (T[1]?.map adr)) (.pointer (T[2]?.map adr)) T)(hl:ts.length<=1048576)(aP:fs.length<=1000)(hfit:∀f∈fs,∀t∈ts,t.ah T f)(hM:Ao w tb (uv L))(hB:Ao w bb (iv B))(htb2:tb≠bb)(hx:A_ w (Ae adr T))(hn:Ae adr T ∉ L)(hI:K.I w a)(htb:¬K.S tb)(hbb:¬K.S bb)(hok:nBar ts fs T=0->K.ok T a) :
  Ca 320 #[Pn nb,Bh (Ae adr T),I6 1] w λe w'=>e=.returned (.tuple #[])/\(∃a',K.aB (nBar ts fs T) T a a'/\K.I w' a')/\Ao w' tb (uv (Hm (Ae adr T) 1 L))/\Ao w' bb (iv (Im (Ae adr T) (nBar ts fs T:Int) B))/\CK w w'/\AM (λg=>g=tb∨g=bb∨K.S g) w w':=by
 obtain⟨HQ,aL,HJ,HT,aU,HM,aC,HX,HI⟩:=L_ hq aF hJ hT hfit hM hB hx hI;obtain⟨aJ,aq,aM,aj⟩:=BP hok hK aG (λ(u:Aa)(hu:Bw w u)=>iB nb 0 tb L (Ae adr T) 1 u (zab hu (Bf (L:=[_,_,_,_,_,_,_,_]) hq (j:=5) rfl)) (hM.e hu) (hx.e hu) (.inl rfl) (λ_=>hn));clear hq aF hJ hT hfit hM hB hx hI hok hK aG;simp only[Ae,Bh]at aj⊢;go_enter func320,ntmps320;go_upto_region 1 with fail;refine BF ?_;intro w1 ay aE;obtain⟨t0,t1,t2⟩:=Ea aE rfl;have q1:=(ay.block nb (Ap HQ)).c HQ;have n0:=Bf (L:=[_,_,_,_,_,_,_,_]) q1 (j:=0) rfl;have n1:=Bf (L:=[_,_,_,_,_,_,_,_]) q1 (j:=1) rfl;have n2:=Bf (L:=[_,_,_,_,_,_,_,_]) q1 (j:=2) rfl;have n3:=Bf (L:=[_,_,_,_,_,_,_,_]) q1 (j:=3) rfl;have n6:=Bf (L:=[_,_,_,_,_,_,_,_]) q1 (j:=6) rfl;have n7:=Bf (L:=[_,_,_,_,_,_,_,_]) q1 (j:=7) rfl;have HW:=Ad ay;clear ay q1 aE
 go_region_held3 (λu=>At u w.heap.size 0 (.pointer (T[0]?.map adr))/\At u w.heap.size 1 (.pointer (T[1]?.map adr))/\At u w.heap.size 2 (.pointer (T[2]?.map adr))/\At u nb 0 ng/\At u nb 1 ct/\At u nb 2 (Pn ndb)/\At u nb 3 (.slice ta ts.length tc)/\At u nb 6 hv/\At u nb 7 (.map (some bb)))
  ((go_split_ands;first|done|(refine⟨?_,?_,?_,?_,?_,?_,?_,?_,?_⟩<;>first|assumption|with_reducible exact CK.cell ao qk|exact zab Au.drew qk)))
  (first|(go_at_call 322;refine(aj _ HW.drew).rtn λw2⟨aH,ai⟩=>?_;have ao:=ai.W (HM.e HW.drew).aN)|fail)
 rename_i hh;have C2:CK w w2:=(CK.u HW.drew).c ao;have P2:=Ad ((AM.u HW.drew:AM (λg=>g=tb∨g=bb∨K.S g) w w1.drew).c (AM.of ai (.inl rfl)));have I2:=Ad (aq.1 w w2 a HI C2 (λg hg hS=>(ai.block g (yg hg HW.drew.size) (λe'=>htb qG)).c (HW.drew.block g hg)) (yi HW.drew.size ai.rest.size));have M2:=Ad aH;have B2:=Ad (((aC.e HW.drew)).aA ai htb2 (HM.e HW.drew).nc);have ah:=Ad C2;obtain⟨v0,v1,v2,m0,m1,m2,m3,m6,m7⟩:=hh;clear aH ai ao C2 aj HI HM aC t0 t1 t2 n0 n1 n2 n3 n6 n7;have aK:=Ad (λ(u:Aa)(hu:Bw w2 u)=>zjy ng ct (.pointer (T[0]?.map adr)) (.pointer (T[1]?.map adr)) (.pointer (T[2]?.map adr)) ndb ts ta tc T fs fa fc u ((ah.c (CK.u hu)).cell aM) (HJ.W (ah.c (CK.u hu))) (HT.W (ah.c (CK.u hu))) (λi f hf=>by
  obtain⟨b,o,pv,e,h1,h2⟩:=aL i f hf;exact⟨b,o,pv,e,(ah.c (CK.u hu)).cell h1,h2.W (ah.c (CK.u hu))⟩) hl aP aU)
 have aw:=Ad (λ(u:Aa)(hu:Bw w2 u)(aV:At u nb 7 (.map (some bb)))=>Vc nb bb B (Ae adr T) (nBar ts fs T:Int) u aV (B2.e hu) ((HX.W ah).e hu));simp only[Ae,Bh]at aw;obtain⟨k,hk⟩:=AF (nBar ts fs T);obtain⟨fn,aA⟩:=AF K.fn;obtain⟨r,hr⟩:=AF K.r;rw[<-aA,<-hr]at hH;rw[<-hk]at aK aw aJ;obtain⟨ar,aS,HR⟩:=AK hk aA hr;clear hk aA hr;go_wp2_with fail
 go_region_held3 (λu=>At u w.heap.size 0 (.pointer (T[0]?.map adr))/\At u w.heap.size 1 (.pointer (T[1]?.map adr))/\At u w.heap.size 2 (.pointer (T[2]?.map adr))/\At u nb 0 ng/\At u nb 1 ct/\At u nb 2 (Pn ndb)/\At u nb 3 (.slice ta ts.length tc)/\At u nb 6 hv/\At u nb 7 (.map (some bb)))
  ((go_split_ands;first|done|(refine⟨?_,?_,?_,?_,?_,?_,?_,?_,?_⟩<;>first|assumption|with_reducible exact CK.cell au qk|with_reducible exact zab aD qk|exact zab Au.drew qk)))
  (first|(go_at_call 323;refine(aK _ Au.drew).rtn λw3 aD=>?_;have af:=Ad ((y8 w2.heap.size w2).drew.c aD))|(go_at_call 321;refine(aw w3 af (zab af m7)).rtn λw4⟨aQ,am⟩=>?_;have au:=am.W (B2.e af).aN)|fail)
 rename_i hh;have aI:CK w2 w4:=(CK.u af).c au;obtain⟨aB,P4⟩:=An (ah.c aI) ((P2.c (AM.u af)).c (AM.of am (.inr (.inl rfl))));have aT:∀g,g<w2.heap.size->g≠bb->w4.heap[g]?=w2.heap[g]?:=λg hg hb=>(am.block g (yg hg af.size) (λe'=>hb qQ)).c (af.block g hg);have aR:w2.heap.size<=w4.heap.size:=yi af.size am.rest.size;have I4:=Ad (aq.1 w2 w4 a I2 aI (λg hg hS=>aT g hg (λe'=>hbb (e'▸hS))) aR);have M4:Hid (Ao w4 tb (uv (Hm (Ae adr T) 1 L))):=show Ao _ _ _ from(((M2.e af)).aA am (λe'=>htb2 e'.z) (B2.e af).nc);have B4:Hid (Ao w4 bb (iv (Im (Ae adr T) (k:Int) B))):=show Ao _ _ _ from aQ;have X4:=HX.W aB;obtain⟨v0,v1,v2,m0,m1,m2,m3,m6,m7⟩:=hh;have L4:=PE tys Lu (Og w4.drew) (B4.e Au.drew) (X4.e Au.drew) false;rw[Ph]at L4;simp only[if_false,Yx]at L4;rw[ZN]at L4;simp only[Ae,Bh]at L4;have aO:=Ad X4;by_cases hz:k=0
 .have aN:((k:Int)==0)=true:=qX;go_wp2;go_region;go_wp2_with fail;have az:Hid (∀u,Bw w4 u->Ca fn #[Pn r,.agg #[.pointer (T[0]?.map adr),.pointer (T[1]?.map adr),.pointer (T[2]?.map adr)],I6 1] u λe u'=>e=.returned (.tuple #[])/\∃a',K.stp T a a'/\K.I u' a'/\CK u u'/\AM K.S u u'):=show∀_,_ fromλu hu=>by
   rw[aS.o,HR.o];exact aq.2 u a T (aq.1 w4 u a I4 (CK.u hu) (λg hg _=>hu.block g hg) hu.size) (aJ hz) (aO.e hu)
  rcases hH with⟨rfl,rfl⟩|⟨rfl,rfl⟩|⟨rfl,rfl⟩
  focus
   have hm:=λu=>Ti r u
   go_region_held3 (λu=>At u w.heap.size 0 (.pointer (T[0]?.map adr))∧At u w.heap.size 1 (.pointer (T[1]?.map adr))∧At u w.heap.size 2 (.pointer (T[2]?.map adr))∧At u nb 6 (.func (.method "loop.example/s01311/impl.take") #[.iface 337 (Pn r)] #[]))
    ((go_split_ands;first|done|(refine⟨?_,?_,?_,?_⟩<;>first|assumption|with_reducible exact CK.cell O qk|exact zab Au.drew qk)))
    (first|(go_at_call 325;refine(az _ Au.drew.drew).rtn λw5⟨a',ax,hi5,O,ak⟩=>?_)|fail)
  rotate_left
  focus
   have hm:=λu=>Tj r u
   go_region_held3 (λu=>At u w.heap.size 0 (.pointer (T[0]?.map adr))∧At u w.heap.size 1 (.pointer (T[1]?.map adr))∧At u w.heap.size 2 (.pointer (T[2]?.map adr))∧At u nb 6 (.func (.method "loop.example/s01311/impl.take") #[.iface 334 (Pn r)] #[]))
    ((go_split_ands;first|done|(refine⟨?_,?_,?_,?_⟩<;>first|assumption|with_reducible exact CK.cell O qk|exact zab Au.drew qk)))
    (first|(go_at_call 320;refine(az _ Au.drew.drew).rtn λw5⟨a',ax,hi5,O,ak⟩=>?_)|fail)
  rotate_left
  focus
   go_region_held3 (λu=>At u w.heap.size 0 (.pointer (T[0]?.map adr))/\At u w.heap.size 1 (.pointer (T[1]?.map adr))/\At u w.heap.size 2 (.pointer (T[2]?.map adr))/\At u nb 6 (.func (.func 155) #[Pn r] #[]))
    ((go_split_ands;first|done|(refine⟨?_,?_,?_,?_⟩<;>first|assumption|with_reducible exact CK.cell O qk|exact zab Au.drew qk)))
    (first|(go_at_call 155;refine(az _ Au.drew.drew).rtn λw5⟨a',ax,hi5,O,ak⟩=>?_)|fail)
  rotate_left
  all_goals
   go_wp2_with fail;refine bodyPost_end (results_none rfl _ _ _) rfl ⟨rfl,⟨a',by rw[<-ar.o,Du.aB,if_pos hz];exact ax,hi5⟩,?_,?_,?_,?_⟩
   .exact(M4.e Au.drew.drew).aD ak O htb
   .have hB:=(B4.e Au.drew.drew).aD ak O hbb;rw[ar.o]at hB;exact hB
   .exact aB.c ((CK.u Au.drew.drew).c O)
   exact(P4.c (AM.u Au.drew.drew)).c (ak.j λg q=>.inr (.inr q))
 have aN:((k:Int)==0)=false:=qX;go_wp2;go_region;go_wp2_with fail;refine bodyPost_end (results_none rfl _ _ _) rfl ⟨rfl,⟨a,by rw[<-ar.o,Du.aB,if_neg hz],?_⟩,?_,?_,?_,?_⟩
 .exact aq.1 w4 _ a I4 (CK.u Au.drew) (λg hg _=>(y8 w4.heap.size w4).drew.block g hg) (y8 w4.heap.size w4).drew.size
 .exact M4.e Au.drew
 .rw[<-ar.o];exact B4.e Au.drew
 .exact aB.c (CK.u Au.drew)
 exact P4.c (AM.u Au.drew)
def zoI{σ}(K:Du σ)(adr)(hK:K.aX adr (-1))(nb tb bb ng ct nd ts up hv T L B)(k:Nat)(a w)(hq:Bk w nb #[ng,ct,nd,ts,up,.map (some tb),hv,.map (some bb)] 336)(hH:JA hv K.fn K.r)(hM:Ao w tb (uv L))(hB:Ao w bb (iv B))(htb2:tb≠bb)(hx:A_ w (Ae adr T))(hk:AC (Ae adr T) B=(k:Int))(hI:K.I w a)(htb:¬K.S tb)(hbb:¬K.S bb)(hok:k=0->K.ok T a) :
  Ca 320 #[Pn nb,Bh (Ae adr T),I6 (-1)] w λe w'=>e=.returned (.tuple #[])/\(∃a',K.aB k T a a'/\K.I w' a')/\Ao w' tb (uv (Hm (Ae adr T) (-1) L))/\Ao w' bb (iv (Im (Ae adr T) 0 B))/\CK w w'/\AM (λg=>g=tb∨g=bb∨K.S g) w w':=by
 obtain⟨HQ,HM,aA,HX,HI,aK,ai,aj,aL⟩:=L_ hq hM hB hx hI hok hK (λ(u:Aa)(hu:Bw w u)=>iB nb 0 tb L (Ae adr T) (-1) u (zab hu (Bf (L:=[_,_,_,_,_,_,_,_]) hq (j:=5) rfl)) (hM.e hu) (hx.e hu) (.inr rfl) (λe=>qo)) hk;clear hq hM hB hx hI hok hK hk;simp only[Ae,Bh]at aj⊢;go_enter func320,ntmps320;go_upto_region 1 with fail;refine BF ?_;intro w1 au aB;obtain⟨t0,t1,t2⟩:=Ea aB rfl;have q1:=(au.block nb (Ap HQ)).c HQ;have n6:=Bf (L:=[_,_,_,_,_,_,_,_]) q1 (j:=6) rfl;have n7:=Bf (L:=[_,_,_,_,_,_,_,_]) q1 (j:=7) rfl;have HW:=Ad au;clear au q1 aB
 go_region_held3 (λu=>At u w.heap.size 0 (.pointer (T[0]?.map adr))/\At u w.heap.size 1 (.pointer (T[1]?.map adr))/\At u w.heap.size 2 (.pointer (T[2]?.map adr))/\At u nb 6 hv/\At u nb 7 (.map (some bb)))
  ((go_split_ands;first|done|(refine⟨?_,?_,?_,?_,?_⟩<;>first|assumption|with_reducible exact CK.cell am qk|exact zab Au.drew qk)))
  (first|(go_at_call 322;refine(aj _ HW.drew).rtn λw2⟨aD,ah⟩=>?_;have am:=ah.W (HM.e HW.drew).aN)|fail)
 rename_i hh;have C2:CK w w2:=(CK.u HW.drew).c am;obtain⟨P2,I2⟩:=An ((AM.u HW.drew:AM (λg=>g=tb∨g=bb∨K.S g) w w1.drew).c (AM.of ah (.inl rfl))) (ai.1 w w2 a HI C2 (λg hg hS=>(ah.block g (yg hg HW.drew.size) (λe'=>htb qG)).c (HW.drew.block g hg)) (yi HW.drew.size ah.rest.size));have M2:Hid (Ao w2 tb (uv (Hm (Ae adr T) (-1) L))):=show Ao _ _ _ from aD;obtain⟨B2,aC,ao⟩:=AK (((aA.e HW.drew)).aA ah htb2 (HM.e HW.drew).nc) C2 (HX.W C2);obtain⟨v0,v1,v2,m6,m7⟩:=hh;clear aD ah am C2 aj HI HM aA t0 t1 t2 n6 n7;have aq:=Ad (λ(u:Aa)(aM:At u nb 7 (.map (some bb)))(hB:Ao u bb (iv B))(hx:A_ u (Ae adr T))=>Vc nb bb B (Ae adr T) 0 u aM hB hx);simp only[Ae,Bh]at aq;obtain⟨fn,ax⟩:=AF K.fn;obtain⟨r,hr⟩:=AF K.r;rw[<-ax,<-hr]at hH;obtain⟨aJ,HR⟩:=An ax hr;clear ax hr;have L4:=PE tys Lu (Og w2.drew) (B2.e Au.drew) (ao.e Au.drew) false;rw[Ph]at L4;simp only[if_false,Yx]at L4;rw[aL.o]at L4;simp only[Ae,Bh]at L4;by_cases hz:k=0
 .have aF:((k:Int)==0)=true:=qX;go_wp2;go_region;go_wp2_with fail;have aw:Hid (∀u,Bw w2 u->Ca fn #[Pn r,.agg #[.pointer (T[0]?.map adr),.pointer (T[1]?.map adr),.pointer (T[2]?.map adr)],I6 (-1)] u λe u'=>e=.returned (.tuple #[])/\∃a',K.stp T a a'/\K.I u' a'/\CK u u'/\AM K.S u u'):=show∀_,_ fromλu hu=>by
   rw[aJ.o,HR.o];exact ai.2 u a T (ai.1 w2 u a I2 (CK.u hu) (λg hg _=>hu.block g hg) hu.size) (aK hz) (ao.e hu)
  rcases hH with⟨rfl,rfl⟩|⟨rfl,rfl⟩|⟨rfl,rfl⟩
  focus
   have hm:=λu=>Ti r u
   go_region_held3 (λu=>At u w.heap.size 0 (.pointer (T[0]?.map adr))∧At u w.heap.size 1 (.pointer (T[1]?.map adr))∧At u w.heap.size 2 (.pointer (T[2]?.map adr))∧At u nb 6 (.func (.method "loop.example/s01311/impl.take") #[.iface 337 (Pn r)] #[]))
    ((go_split_ands;first|done|(refine⟨?_,?_,?_,?_⟩<;>first|assumption|with_reducible exact CK.cell O qk|exact zab Au.drew qk)))
    (first|(go_at_call 325;refine(aw _ Au.drew.drew).rtn λw5⟨a',ar,hi5,O,ak⟩=>?_)|fail)
  rotate_left
  focus
   have hm:=λu=>Tj r u
   go_region_held3 (λu=>At u w.heap.size 0 (.pointer (T[0]?.map adr))∧At u w.heap.size 1 (.pointer (T[1]?.map adr))∧At u w.heap.size 2 (.pointer (T[2]?.map adr))∧At u nb 6 (.func (.method "loop.example/s01311/impl.take") #[.iface 334 (Pn r)] #[]))
    ((go_split_ands;first|done|(refine⟨?_,?_,?_,?_⟩<;>first|assumption|with_reducible exact CK.cell O qk|exact zab Au.drew qk)))
    (first|(go_at_call 320;refine(aw _ Au.drew.drew).rtn λw5⟨a',ar,hi5,O,ak⟩=>?_)|fail)
  rotate_left
  focus
   go_region_held3 (λu=>At u w.heap.size 0 (.pointer (T[0]?.map adr))/\At u w.heap.size 1 (.pointer (T[1]?.map adr))/\At u w.heap.size 2 (.pointer (T[2]?.map adr))/\At u nb 6 (.func (.func 155) #[Pn r] #[]))
    ((go_split_ands;first|done|(refine⟨?_,?_,?_,?_⟩<;>first|assumption|with_reducible exact CK.cell O qk|exact zab Au.drew qk)))
    (first|(go_at_call 155;refine(aw _ Au.drew.drew).rtn λw5⟨a',ar,hi5,O,ak⟩=>?_)|fail)
  rotate_left
  all_goals
   rename_i hh;obtain⟨u0,u1,u2,u6⟩:=hh;have C5:=(CK.u (y8 w2.heap.size w2).drew.drew).c O;obtain⟨B5,M5⟩:=An ((B2.e Au.drew.drew).aD ak O hbb) ((M2.e Au.drew.drew).aD ak O htb);obtain⟨az,aE,aH,aG,aI⟩:=Ei (aq w5 (C5.cell m7) B5 (ao.W C5)) C5 ak hi5 ar;go_wp2_with (first|(go_at_call 321;refine az.rtn λw6⟨ay,af⟩=>?_)|fail);have C6:=af.W B5.aN;refine bodyPost_end (results_none rfl _ _ _) rfl ⟨rfl,⟨a',by rw[Du.aB,if_pos hz];exact aI,ai.1 w5 w6 a' aG C6 (λg hg hS=>af.block g hg (λe'=>hbb qG)) af.rest.size⟩,?_,ay,aC.c (aE.c C6),?_⟩
   .exact M5.aA af (λe'=>htb2 e'.z) B5.nc
   exact((P2.c (AM.u Au.drew.drew)).c (aH.j λg q=>.inr (.inr q))).c (AM.of af (.inr (.inl rfl)))
 have aF:((k:Int)==0)=false:=qX;go_wp2;go_region;have B5:=Ad (B2.e (y8 w2.heap.size w2).drew);have az:=Ad (aq w2.drew m7 B5 (ao.e (y8 w2.heap.size w2).drew));go_wp2_with (first|(go_at_call 321;refine az.rtn λw6⟨ay,af⟩=>?_)|fail);have C6:=af.W B5.aN;refine bodyPost_end (results_none rfl _ _ _) rfl ⟨rfl,⟨a,by rw[Du.aB,if_neg hz],ai.1 w2.drew w6 a (ai.1 w2 _ a I2 (CK.u Au.drew) (λg hg _=>(y8 w2.heap.size w2).drew.block g hg) (y8 w2.heap.size w2).drew.size) C6 (λg hg hS=>af.block g hg (λe'=>hbb qG)) af.rest.size⟩,?_,ay,aC.c ((CK.u (y8 w2.heap.size w2).drew).c C6),?_⟩
 .exact(M2.e Au.drew).aA af (λe'=>htb2 e'.z) B5.nc
 exact(P2.c (AM.u Au.drew)).c (AM.of af (.inr (.inl rfl)))
def pJ{x y}(h:x≠y)(v M):AC y (Fa x v M)=AC y M:=by
 unfold Fa;split
 .unfold AC
  induction M with
  |nil=>rfl
  |cons z r ih=>
   rename_i d;rw[yx];by_cases hz:z.1=y
   .have O:¬z.1=x:=λe=>h (e.z.c hz);rw[if_neg O];simp[hz]
   have h1:¬(if z.1=x then(x,v) else z).1=y:=by
    split
    .exact h
    exact hz
   rw[Wf qx,Wf qX];by_cases a:x∈r.map Prod.fst
   .exact ih a
   have:r.map (λy=>if y.1=x then(x,v) else y)=r.map id:=Ym λq b=>by
    rw[if_neg (λe=>a (by rw[<-e];exact yS b))];rfl
   rw[this,KE]
 unfold AC;rw[List.find?_append];cases M.find? (λz=>decide (z.1=y)) with
 |some q=>rfl
 |none=>simp[h]
def pY{x y}(h:x≠y)(M):AC y (Gd x M)=AC y M:=by
 unfold AC Gd;rw[List.find?_filter];congr 3
 funext z
 by_cases a:z.1=y
 .have:¬z.1=x:=λe=>h (e.z.c a);simp[a];exactλe=>h e.z
 simp[a]
def VN{x y}(h:x≠y)(k M):AC y (Im x k M)=AC y M:=by
 unfold Im;split
 .exact pY h M
 exact pJ h k M
def Ew(adr:F->Addr)(s:Int):Am->B_->B_
 |[],B=>B
 |T::r,B=>Ew adr s r (Im (Ae adr T) (AC (Ae adr T) B+s) B)
def go(adr s T):∀(l:Am)(B:B_),Ew adr s (l++[T]) B=Im (Ae adr T) (AC (Ae adr T) (Ew adr s l B)+s) (Ew adr s l B)
 |[],_=>rfl
 |_::r,_=>go adr s T r _
def Rp(adr s x):∀(l:Am)(B:B_),x ∉ l.map (Ae adr)->AC x (Ew adr s l B)=AC x B
 |[],_,_=>rfl
 |U::r,B,h=>by
  rw[yx,yW,not_or]at h
  exact(Rp adr s x r _ h.2).c (VN (WU h.1) _ _)
def gU(adr s T):∀(l:Am)(B:B_),(l.map (Ae adr)).Nodup->T∈l->AC (Ae adr T) (Ew adr s l B)=AC (Ae adr T) B+s
 |U::r,B,hn,h=>by
  rw[yx,Yo]at hn
  by_cases e:Ae adr T=Ae adr U
  .rw[Ew,Rp adr s _ r _ (by rw[e];exact hn.1),e,ZN]
  have a:T∈r:=by
   rcases yW.1 h with h|h
   .exact absurd (by rw[h]) e
   exact h
  rw[Ew,gU adr s T r _ hn.2 a,VN (WU e)]
def jz{P:Prop}(h:P:=by
 obtain⟨HQ,HJ,bM,HM,bj,HI,aq,HF,bA⟩:=L_ hq hJ hTT hM hB hI hK hF hfit;obtain⟨bv,bK,HP⟩:=AK hok hcnt (RX ndb al aa ac (.pointer (some (adr f))) f w hN hF hal);have n2:=Bf (L:=[_,_,_,_,_,_,_,_]) hq (j:=2) rfl;have n5:=Bf (L:=[_,_,_,_,_,_,_,_]) hq (j:=5) rfl;have b4:=hB.lt;obtain⟨fn,bd⟩:=AF K.fn;obtain⟨r,hr⟩:=AF K.r;rw[<-bd,<-hr]at hH;obtain⟨bu,HR⟩:=An bd hr;clear hq hJ hTT hM hB hI hK hN hF hfit hok hcnt bd hr;cases hp:Ah al f
 .rw[hp]at HP;go_enter func319,ntmps319;go_wp2_with (first|(go_at_call 152;refine HP.rtn λw1 ai=>?_)|fail);refine bodyPost_ret (v:=.tuple #[]) (results_none rfl _ _ _) rfl ⟨rfl,⟨TT,a,.refl _,?_,aq.1 w w1 a HI (CK.u ai) (λg hg _=>ai.block g hg) ai.size,?_⟩,HM.e ai,CK.u ai,AM.u ai⟩
  .first
    | (have _:=tP
       have:TT.filter (λT=>false&&(ts.all (AA T f)&&decide (AC (Ae adr T) B=0)))=[]:=by simp)
    |(have:TT.filter (λT=>false&&(ts.all (AA T f)&&decide (AC (Ae adr T) B=1)))=[]:=by simp)
   rw[this];rfl
  have:TT.filter (λT=>false&&ts.all (AA T f))=[]:=by simp
  rw[this];exact bj.e ai
 .rw[hp]at HP;obtain⟨bl,aV,bi⟩:=AK (bA hp) (bv hp) (bK hp);clear bA bv bK;go_enter func319,ntmps319;go_upto_region 1 with(first|(go_at_call 152;refine HP.rtn λw1 ai=>?_)|fail);have m5:=zab ai n5;obtain⟨o,hR,aW⟩:=g_ (P:=prog) Gc (HM.e ai);obtain⟨bB,br⟩:=An aW ai;clear aW ai;have bZ:=bB.dC;have bU:=Ad (Au.alloc Bg o:Bw w1 (w1.alloc o));have bY:(TT.map (Ae adr)).Nodup:=by have:=HM.nd;rwa [S1]at this
  have bW:=Ad bY;have hs1:=br.size;have bm:¬K.S w1.heap.size:=λh=>by have:=hSl _ h;omega
  have aZ:w1.heap.size≠bb:=by omega
  go_wp2_with fail
  first
   | (have _:=tP
      go_loopw [] (λwr=>∃(done todo:Am)(a':σ),TT.Perm (done++todo)/\BD wr tb w1.heap.size (uv (TT.map (Ae adr))) (todo.map (Ae adr))/\CE K.stp (done.filter (λT=>ts.all (AA T f)&&decide (AC (Ae adr T) B=0))) a a'/\K.I wr a'/\Ao wr bb (iv (Ew adr 1 (done.filter (λT=>ts.all (AA T f))) B))/\CK w wr/\AM (λg=>g=bb∨K.S g) w wr) (λwr=>wr.rangeLeft tb w1.heap.size))
   |(go_loopw [] (λwr=>∃(done todo:Am)(a':σ),TT.Perm (done++todo)/\BD wr tb w1.heap.size (uv (TT.map (Ae adr))) (todo.map (Ae adr))/\CE K.stp (done.filter (λT=>ts.all (AA T f)&&decide (AC (Ae adr T) B=1))) a a'/\K.I wr a'/\Ao wr bb (iv (Ew adr (-1) (done.filter (λT=>ts.all (AA T f))) B))/\CK w wr/\AM (λg=>g=bb∨K.S g) w wr) (λwr=>wr.rangeLeft tb w1.heap.size))
  .have aE:Bw w (w1.alloc o):=br.c (bU.j hs1);exact⟨[],TT,a,.refl _,bB,rfl,aq.1 w _ a HI (CK.u aE) (λg hg _=>aE.block g hg) aE.size,bj.e aE,CK.u aE,AM.u aE⟩
  obtain⟨done,todo,a',bD,aB,bI,bH,bg,bw,bC⟩:=hrel;obtain⟨aS,bo,aF,bt,bp,bJ,aK⟩:=LG bD aB bI bH bg bw bC;clear bD bI bH bg bw bC;rcases Vd (P:=prog) aB 0 with⟨h0,hN⟩|⟨x,v,ob,w2,hx,b6,bV,hN,aI,hE⟩
  .have bS:todo=[]:=Kb.1 h0;clear aB;go_wp2_with fail;refine bodyPost_end (results_none rfl _ _ _) rfl ⟨rfl,⟨done,a',?_,?_,bt,?_⟩,bo.map,bJ,aK⟩
   .have:=aS.o;rwa [bS,yO]at this
   .simpa using aF.o
   simpa using bp.o
  obtain⟨T,hT,rfl⟩:=yv.1 hx;have hO:=VK (r:=w1.heap.size) (o:=ob) bV;obtain⟨W,hW⟩:=AF (ChangeMaps.setBlock w2 w1.heap.size ob);rw[<-hW]at hN aI hE hO;have aT:=Ad aI;have a0:=hO.W aB.cO;have bz:=bJ.c a0;have bn:K.I W a':=aq.1 wr W a' bt a0 (λg hg hS=>hO.block g hg (λe'=>bm (by injection e' with e';rw[e'];exact hS))) hO.rest.size;have bF:=Ad (bp.aA hO aZ (λc t=>aB.cO c t (0,0)));have a4:T∈TT:=aS.z.subset (YD _ hT);obtain⟨bq,bE⟩:=bM T a4;have aM:=(aS.map (Ae adr)).nodup_iff.1 bW;rw[yz,yL]at aM;have ax:=Tf (k:=Ae adr) (l:=todo) (T:=T) aM.2.1 hT;have bk:=Ad (λhx:Ae adr T∈done.map (Ae adr)=>aM.2.2 _ hx _ (yS hT) rfl);obtain⟨O,a8⟩:=AF (todo.filter (λU=>decide (Ae adr U≠Ae adr T)));rw[<-a8]at ax;have az:Hid (TT.Perm (done++T::O)):=show List.Perm _ _ from aS.c ((Y2 _).append ax);obtain⟨a5,ar,a6,bT,a9⟩:=Ei bn bz hO bq bE;have aA:=aB.left;have aw:O.length<todo.length:=by have:=ax.length_eq;simp at this;omega
  simp only[Ae,Bh]at hN hE;have aU:BD W tb w1.heap.size (uv (TT.map (Ae adr))) (O.map (Ae adr)):=by
   have:=aT.o;rw[YV]at this;rw[a8];exact this
  have aG:=Ad aU;clear aB aI bn bz hO a0 hW ax bq bE aM aU aT a8;go_upto_region 4 with fail;refine BF ?_;intro w3 bf bG;obtain⟨t0,t1,t2⟩:=Ea bG rfl;have aD:=Ad bf;have q3:=(ar.c (CK.u bf)) nb _ _ _ HQ;have p0:=Bf (L:=[_,_,_,_,_,_,_,_]) q3 (j:=0) rfl;have p1:=Bf (L:=[_,_,_,_,_,_,_,_]) q3 (j:=1) rfl;have p2:=Bf (L:=[_,_,_,_,_,_,_,_]) q3 (j:=2) rfl;have p3:=Bf (L:=[_,_,_,_,_,_,_,_]) q3 (j:=3) rfl;have p6:=Bf (L:=[_,_,_,_,_,_,_,_]) q3 (j:=6) rfl;have p7:=Bf (L:=[_,_,_,_,_,_,_,_]) q3 (j:=7) rfl;have aH:=Ad (λ(u:Aa)(hu:Bw w3 u)=>PQ ng ct (Pn ndb) (.pointer (T[0]?.map adr)) (.pointer (T[1]?.map adr)) (.pointer (T[2]?.map adr)) (.pointer (some (adr f))) ts ta tc T f u (HJ.W (ar.c (CK.u (aD.thn hu)))) (bT.W (ar.c (CK.u (aD.thn hu)))) (HF.W (ar.c (CK.u (aD.thn hu)))) hl (bl T a4));clear bf q3 bG
  cases ha:ts.all (AA T f)
  .rw[ha]at aH
   go_region_held3 (λu=>At u nb 0 ng/\At u nb 1 ct/\At u nb 2 (Pn ndb)/\At u nb 3 (.slice ta ts.length tc)/\At u nb 6 hv/\At u nb 7 (.map (some bb))/\At u W.heap.size 0 (.pointer (T[0]?.map adr))/\At u W.heap.size 1 (.pointer (T[1]?.map adr))/\At u W.heap.size 2 (.pointer (T[2]?.map adr)))
    ((go_split_ands;first|done|(refine⟨?_,?_,?_,?_,?_,?_,?_,?_,?_⟩<;>first|assumption|with_reducible exact zab aC (by assumption)|exact zab Au.drew (by assumption))))
    (first|(go_at_call 113;refine(aH _ Au.drew).rtn λw4 aC=>?_)|fail)
   have hb':Bw W w4:=aD.c (((y8 w3.heap.size w3).drew.c aC).j aD.size);have ak:=Ad hb';clear aC hb' p0 p1 p2 p3 p6 p7 t0 t1 t2;go_wp2_with fail;have af:=aG.e ak;refine⟨⟨done++[T],O,a',?_,af,?_,aq.1 W w4 a' a5 (CK.u ak) (λg hg _=>ak.block g hg) ak.size,?_,ar.c (CK.u ak),?_⟩,?_⟩
   .have:=az.o;exact TP
   .first
     | (have _:=tP
        rw[yV,yT (p:=λT=>ts.all (AA T f)&&decide (AC (Ae adr T) B=0)) (a:=T) (by rw[ha];simp),Yu,yO])
     |(rw[yV,yT (p:=λT=>ts.all (AA T f)&&decide (AC (Ae adr T) B=1)) (a:=T) (by rw[ha];simp),Yu,yO])
    exact aF
   .rw[yV,yT (p:=λT=>ts.all (AA T f)) (a:=T) (by rw[ha];decide),Yu,yO];exact bF.e ak
   .exact(aK.new a6 hs1).c (AM.u ak)
   rw[af.left,aA,yu,yu];exact aw
  obtain⟨k,hk,b7⟩:=bi T a4 ha;have HK:=Ad hk;clear hk;rw[ha]at aH
  go_region_held3 (λu=>At u nb 0 ng/\At u nb 1 ct/\At u nb 2 (Pn ndb)/\At u nb 3 (.slice ta ts.length tc)/\At u nb 6 hv/\At u nb 7 (.map (some bb))/\At u W.heap.size 0 (.pointer (T[0]?.map adr))/\At u W.heap.size 1 (.pointer (T[1]?.map adr))/\At u W.heap.size 2 (.pointer (T[2]?.map adr)))
   ((go_split_ands;first|done|(refine⟨?_,?_,?_,?_,?_,?_,?_,?_,?_⟩<;>first|assumption|with_reducible exact zab aC (by assumption)|exact zab Au.drew (by assumption))))
   (first|(go_at_call 113;refine(aH _ Au.drew).rtn λw4 aC=>?_)|fail)
  rename_i hh;have hb':Bw W w4:=aD.c (((y8 w3.heap.size w3).drew.c aC).j aD.size);have aj:=Ad hb';clear aC hb' p0 p1 p2 p3 p6 p7 t0 t1 t2 aH;obtain⟨m0,m1,m2,m3,m6,m7,v0,v1,v2⟩:=hh;have a7:=Ad (a9.W (ar.c (CK.u aj)))
  first
   | (have _:=tP
      have aR:AC (Ae adr T) (Ew adr 1 (done.filter (λT=>ts.all (AA T f))) B)=(k:Int):=(Rp adr 1 _ _ B (λhx=>bk (((Yt (p:=λT=>ts.all (AA T f)) (l:=done)).map (Ae adr)).subset hx))).c HK)
   |(have aR:AC (Ae adr T) (Ew adr (-1) (done.filter (λT=>ts.all (AA T f))) B)=(k:Int)+1:=(Rp adr (-1) _ _ B (λhx=>bk (((Yt (p:=λT=>ts.all (AA T f)) (l:=done)).map (Ae adr)).subset hx))).c HK)
  have au:=Ad (bF.e aj)
  first
   | (have _:=tP
      obtain⟨Bd,aP⟩:=AF (Ew adr 1 (done.filter (λT=>ts.all (AA T f))) B))
   |(obtain⟨Bd,aP⟩:=AF (Ew adr (-1) (done.filter (λT=>ts.all (AA T f))) B))
  rw[<-aP]at aR au;obtain⟨bh,bc⟩:=An aP aR;clear aP aR;have L5:=PE tys Lu (Og w4.drew) (au.e Au.drew) (a7.e Au.drew) false;rw[Ph]at L5;simp only[if_false,Yx]at L5;rw[bc.o]at L5;simp only[Ae,Bh]at L5
  first
   | (have _:=tP
      have aJ:=Ad (Vc nb bb Bd (Ae adr T) ((k:Int)+1) w4.drew m7 (au.e Au.drew) (a7.e Au.drew)))
   |(have aJ:=Ad (Vc nb bb Bd (Ae adr T) ((k:Int)) w4.drew m7 (au.e Au.drew) (a7.e Au.drew)))
  simp only[Ae,Bh]at aJ
  first
   | (have _:=tP
      have bN:IntKind.i64.wrap ((k:Int)+1)=(k:Int)+1:=by
        rw[Yh];omega)
   | (have bN:IntKind.i64.wrap ((k:Int)+1+(-1))=(k:Int):=by
        rw[Yh];omega)
  have b0:IntKind.i64.wrap (k:Int)=(k:Int):=by
   rw[Yh];omega
  have b5:((k:Int)+1==0)=false:=by
   simp;omega
  by_cases hz:k=0
  .have bR:((k:Int)==0)=true:=by simpa using hz
   have HZ:=Ad hz;clear hz;go_wp2;go_region;clear L5;go_wp2_with (first|(go_at_call 321;refine aJ.rtn λw5⟨aL,ao⟩=>?_;have ah:=ao.W (au.e Au.drew).aN;have u0:=ah.cell v0;have u1:=ah.cell v1;have u2:=ah.cell v2;have u6:=ah.cell m6;clear v0 v1 v2 m0 m1 m2 m3 m6 m7)|fail);have C5:=(CK.u aj.drew).c ah;have hsz:=yi aj.drew.size ao.rest.size;have I5:=aq.1 W w5 a' a5 C5 (λg hg hS=>(ao.block g (yg hg aj.drew.size) (λe'=>hbb (by injection e' with e';rw[e'];exact hS))).c (aj.drew.block g hg)) hsz;have P5:Hid (AM (λg=>g=bb) W w5):=show AM _ _ _ from(AM.u aj.drew).c (AM.of ao rfl);obtain⟨R5,bQ,bP⟩:=AK (aG.aD P5 C5 htb2 aZ) aL C5
   first
    | (have _:=tP
       have aN:Hid (∀u,Bw w5 u->Ca fn #[Pn r,.agg #[.pointer (T[0]?.map adr),.pointer (T[1]?.map adr),.pointer (T[2]?.map adr)],I6 (-1)] u λe u'=>e=.returned (.tuple #[])/\∃ay,K.stp T a' ay/\K.I u' ay/\CK u u'/\AM K.S u u'):=show∀_,_ fromλu hu=>by
         rw[bu.o,HR.o];exact aq.2 u a' T (aq.1 w5 u a' I5 (CK.u hu) (λg hg _=>hu.block g hg) hu.size) (aV done T O a' az ha (HK.c (by rw[HZ.o];rfl)) aF) ((a9.W (ar.c C5)).e hu))
    | (have aN:Hid (∀u,Bw w5 u->Ca fn #[Pn r,.agg #[.pointer (T[0]?.map adr),.pointer (T[1]?.map adr),.pointer (T[2]?.map adr)],I6 1] u λe u'=>e=.returned (.tuple #[])/\∃ay,K.stp T a' ay/\K.I u' ay/\CK u u'/\AM K.S u u'):=show∀_,_ fromλu hu=>by
         rw[bu.o,HR.o];exact aq.2 u a' T (aq.1 w5 u a' I5 (CK.u hu) (λg hg _=>hu.block g hg) hu.size) (aV done T O a' az ha (HK.c (by rw[HZ.o];rfl)) aF) ((a9.W (ar.c C5)).e hu))
   clear aL ao ah C5 hsz I5;rcases hH with⟨rfl,rfl⟩|⟨rfl,rfl⟩|⟨rfl,rfl⟩
   focus
    have hm:=λu=>Ti r u
    go_region_held3 (λu=>At u W.heap.size 0 (.pointer (T[0]?.map adr))∧At u W.heap.size 1 (.pointer (T[1]?.map adr))∧At u W.heap.size 2 (.pointer (T[2]?.map adr))∧At u nb 6 (.func (.method "loop.example/s01311/impl.take") #[.iface 337 (Pn r)] #[]))
     ((go_split_ands;first|done|(refine⟨?_,?_,?_,?_⟩<;>first|assumption|with_reducible exact CK.cell am (by assumption)|exact zab Au.drew (by assumption))))
     (first|(go_at_call 325;refine(aN _ Au.drew).rtn λw6⟨ay,aO,hi6,am,aQ⟩=>?_)|fail)
   rotate_left
   focus
    have hm:=λu=>Tj r u
    go_region_held3 (λu=>At u W.heap.size 0 (.pointer (T[0]?.map adr))∧At u W.heap.size 1 (.pointer (T[1]?.map adr))∧At u W.heap.size 2 (.pointer (T[2]?.map adr))∧At u nb 6 (.func (.method "loop.example/s01311/impl.take") #[.iface 334 (Pn r)] #[]))
     ((go_split_ands;first|done|(refine⟨?_,?_,?_,?_⟩<;>first|assumption|with_reducible exact CK.cell am (by assumption)|exact zab Au.drew (by assumption))))
     (first|(go_at_call 320;refine(aN _ Au.drew).rtn λw6⟨ay,aO,hi6,am,aQ⟩=>?_)|fail)
   rotate_left
   focus
    go_region_held3 (λu=>At u W.heap.size 0 (.pointer (T[0]?.map adr))/\At u W.heap.size 1 (.pointer (T[1]?.map adr))/\At u W.heap.size 2 (.pointer (T[2]?.map adr))/\At u nb 6 (.func (.func 155) #[Pn r] #[]))
     ((go_split_ands;first|done|(refine⟨?_,?_,?_,?_⟩<;>first|assumption|with_reducible exact CK.cell am (by assumption)|exact zab Au.drew (by assumption))))
     (first|(go_at_call 155;refine(aN _ Au.drew).rtn λw6⟨ay,aO,hi6,am,aQ⟩=>?_)|fail)
   rotate_left
   all_goals
    obtain⟨bO,bL,aY,aX⟩:=BP aO hi6 am aQ;clear aO hi6 am aQ u0 u1 u2 u6;go_wp2_with fail;have af:=(R5.e Au.drew).aD aX aY htb bm;refine⟨⟨done++[T],O,ay,?_,af,?_,bL,?_,ar.c (bP.c ((CK.u Au.drew).c aY)),?_⟩,?_⟩
    .have:=az.o;exact TP
    .first
      | (have _:=tP
         rw[yV,yQ (p:=λT=>ts.all (AA T f)&&decide (AC (Ae adr T) B=0)) (a:=T) (by rw[ha,HK.o,HZ.o];rfl),Yu])
      |(rw[yV,yQ (p:=λT=>ts.all (AA T f)&&decide (AC (Ae adr T) B=1)) (a:=T) (by rw[ha,HK.o,HZ.o];rfl),Yu])
     exact aF.snoc bO
    .rw[yV,yQ (p:=λT=>ts.all (AA T f)) (a:=T) ha,Yu,go,<-bh.o,bc.o];have bX:=(bQ.e Au.drew).aD aX aY hbb
     first
      |(have _:=tP)
      |(rw[show(k:Int)+1 + -1=(k:Int) from by omega])
     exact bX
    .exact((aK.new a6 hs1).c (P5.j λg q=>.inl q)).c ((AM.u Au.drew).c (aX.j λg q=>.inr q))
    rw[af.left,aA,yu,yu];exact aw
  have bR:((k:Int)==0)=false:=by simpa using hz
  have HZ:=Ad hz;clear hz;go_wp2;go_region;clear L5;go_wp2_with (first|(go_at_call 321;refine aJ.rtn λw5⟨aL,ao⟩=>?_;have ah:=ao.W (au.e Au.drew).aN;clear v0 v1 v2 m0 m1 m2 m3 m6 m7)|fail);have C5:=(CK.u aj.drew).c ah;have hsz:=yi aj.drew.size ao.rest.size;have I5:=aq.1 W w5 a' a5 C5 (λg hg hS=>(ao.block g (yg hg aj.drew.size) (λe'=>hbb (by injection e' with e';rw[e'];exact hS))).c (aj.drew.block g hg)) hsz;have P5:AM (λg=>g=bb) W w5:=(AM.u aj.drew).c (AM.of ao rfl);have af:=aG.aD P5 C5 htb2 aZ;refine⟨⟨done++[T],O,a',?_,af,?_,I5,?_,ar.c C5,?_⟩,?_⟩
  .have:=az.o;exact TP
  .first
    | (have _:=tP
       rw[yV,yT (p:=λT=>ts.all (AA T f)&&decide (AC (Ae adr T) B=0)) (a:=T) (by have:=HZ.o;rw[HK.o];simp;omega),Yu,yO])
    |(rw[yV,yT (p:=λT=>ts.all (AA T f)&&decide (AC (Ae adr T) B=1)) (a:=T) (by have:=HZ.o;rw[HK.o];simp;omega),Yu,yO])
   exact aF
  .rw[yV,yQ (p:=λT=>ts.all (AA T f)) (a:=T) ha,Yu,go,<-bh.o,bc.o]
   first
    |(have _:=tP)
    |(rw[show(k:Int)+1 + -1=(k:Int) from by omega])
   exact aL
  .exact(aK.new a6 hs1).c (P5.j λg q=>.inl q)
  rw[af.left,aA,yu,yu];exact aw
 ):P:=h
def zrx{σ}(K:Du σ)(adr)(hK:K.aX adr (-1))(nb ndb tb bb ng ct up hv ta aa tc ac ts al)(TT:Am)(f B a w)(hq:NN w nb ng ct (Pn ndb) up hv ta ts.length tc tb bb)(hH:JA hv K.fn K.r)(hN:DG w ndb al aa ac)(hF:DJ w (.pointer (some (adr f))) f)(hal:al.y.length<=1048576)(hJ:EJ w ta ts)(hl:ts.length<=1048576)(hTT:∀T∈TT,E_ w (.pointer (T[0]?.map adr)) (.pointer (T[1]?.map adr)) (.pointer (T[2]?.map adr)) T/\A_ w (Ae adr T))(hfit:Ah al f=true->∀T∈TT,∀t∈ts,t.ah T f)(hM:Ao w tb (uv (TT.map (Ae adr))))(hB:Ao w bb (iv B))(htb2:tb≠bb)(hcnt:Ah al f=true->∀T∈TT,ts.all (AA T f)=true->∃k:Nat,AC (Ae adr T) B=(k:Int)/\k<=1000)(hI:K.I w a)(htb:¬K.S tb)(hbb:¬K.S bb)(hSl:∀g,K.S g->g<w.heap.size)(hok:Ah al f=true->∀(pre:Am)(T:Ab)(af:Am)(a':σ),TT.Perm (pre++T::af)->ts.all (AA T f)=true->AC (Ae adr T) B=0->CE K.stp (pre.filter (λT=>ts.all (AA T f)&&decide (AC (Ae adr T) B=0))) a a'->K.ok T a') :
  Ca 319 #[Pn nb,.pointer (some (adr f)),I6 1] w λe w'=>e=.returned (.tuple #[])/\(∃O a',TT.Perm O/\CE K.stp (O.filter (λT=>Ah al f&&(ts.all (AA T f)&&decide (AC (Ae adr T) B=0)))) a a'/\K.I w' a'/\Ao w' bb (iv (Ew adr 1 (O.filter (λT=>Ah al f&&ts.all (AA T f))) B)))/\Ao w' tb (uv (TT.map (Ae adr)))/\CK w w'/\AM (λg=>g=bb∨K.S g) w w':=by
 have tP:=trivial;exact jz
def zqo{σ}(K:Du σ)(adr)(hK:K.aX adr 1)(nb ndb tb bb ng ct up hv ta aa tc ac ts al)(TT:Am)(f B a w)(hq:NN w nb ng ct (Pn ndb) up hv ta ts.length tc tb bb)(hH:JA hv K.fn K.r)(hN:DG w ndb al aa ac)(hF:DJ w (.pointer (some (adr f))) f)(hal:al.y.length<=1048576)(hJ:EJ w ta ts)(hl:ts.length<=1048576)(hTT:∀T∈TT,E_ w (.pointer (T[0]?.map adr)) (.pointer (T[1]?.map adr)) (.pointer (T[2]?.map adr)) T/\A_ w (Ae adr T))(hfit:Ah al f=true->∀T∈TT,∀t∈ts,t.ah T f)(hM:Ao w tb (uv (TT.map (Ae adr))))(hB:Ao w bb (iv B))(htb2:tb≠bb)(hcnt:Ah al f=true->∀T∈TT,ts.all (AA T f)=true->∃k:Nat,AC (Ae adr T) B=(k:Int)+1/\k<=1000)(hI:K.I w a)(htb:¬K.S tb)(hbb:¬K.S bb)(hSl:∀g,K.S g->g<w.heap.size)(hok:Ah al f=true->∀(pre:Am)(T:Ab)(af:Am)(a':σ),TT.Perm (pre++T::af)->ts.all (AA T f)=true->AC (Ae adr T) B=1->CE K.stp (pre.filter (λT=>ts.all (AA T f)&&decide (AC (Ae adr T) B=1))) a a'->K.ok T a') :
  Ca 319 #[Pn nb,.pointer (some (adr f)),I6 (-1)] w λe w'=>e=.returned (.tuple #[])/\(∃O a',TT.Perm O/\CE K.stp (O.filter (λT=>Ah al f&&(ts.all (AA T f)&&decide (AC (Ae adr T) B=1)))) a a'/\K.I w' a'/\Ao w' bb (iv (Ew adr (-1) (O.filter (λT=>Ah al f&&ts.all (AA T f))) B)))/\Ao w' tb (uv (TT.map (Ae adr)))/\CK w w'/\AM (λg=>g=bb∨K.S g) w w':=by
 exact jz
def zjJ{P:Program}(w:Aa)(a:Addr)(m:Mode)(fn:Fn)(x y:Bl):(store a (.func fn x y) m).run P w=stored P w a (.func fn x y) m:=run_store P w a _ m rfl
attribute [local go_sem] zjJ
def gJ(a up w)(h:At w a 4 up):Ca 316 #[Pn a] w λe w'=>e=.returned up/\w'=w:=by
 go_enter func316,ntmps316;go_wp2;exact bodyPost_ret (by simp[results,results316,go_sem]) rfl ⟨rfl,rfl⟩
def zis(a b L w)(h:At w a 5 (.map (some b)))(f:Ao w b (uv L)):Ca 318 #[Pn a] w λe w'=>e=.returned (I6 (L.length:Int))/\w'=w:=by
 have c:=Zn (P:=prog) (ty:=3) Gc f;have d:(uv L).length=L.length:=by simp[uv]
 rw[d]at c;simp only[goInt]at c;go_enter func318,ntmps318;go_wp2;exact bodyPost_ret (by simp[results,results318,go_sem]) rfl ⟨rfl,rfl⟩
def Tv(a hv cs t w)(h:Bk w a cs t)(b:6<cs.size)(f:∃c cap O,hv=.func c cap O):Ca 317 #[Pn a,hv] w λe w'=>e=.returned (.tuple #[])/\Bk w' a (cs.setIfInBounds 6 hv) t/\BU (some a) w w':=by
 obtain⟨c,cap,O,rfl⟩:=f;have i:At w a 6 cs[6]:=by simp[World.cell?,h,b]
 have g:w.frozen? ⟨a,6,none⟩=false:=by simp[World.frozen?,h]
 have d:=Ad h;go_enter func317,ntmps317;go_wp2;exact bodyPost_end (results_none rfl _ _ _) rfl ⟨rfl,C7 d _,BU.set _⟩
def Ao.new{w b a}(h:w.heap[b]?=some (.map #[] a)):Ao w b []:=⟨⟨#[],a,h,rfl,Y4,λ_ c=>by cases c⟩,Y4,λ_ d=>by cases d⟩
def GW(w:Aa)(o):(w.alloc o).heap.size=w.heap.size+1:=KM _
def Qz(w:Aa)(a b O):(((w.alloc a).alloc b).alloc O).heap[w.heap.size]?=some a/\(((w.alloc a).alloc b).alloc O).heap[w.heap.size+1]?=some b/\(((w.alloc a).alloc b).alloc O).heap[w.heap.size+1+1]?=some O:=by
 simp only[World.alloc,KS,KM];refine⟨?_,?_,?_⟩
 .rw[if_neg qd,if_neg qd,if_pos trivial]
 .rw[if_neg qd,if_pos trivial]
 rw[if_pos trivial]
def Mc(w a b O):Bw w (((w.alloc a).alloc b).alloc O):=(Ar.alloc (by rw[GW];omega) _).alloc (by rw[GW,GW];omega) _
def Me(w:Aa)(b O c a):((((w.alloc b).alloc O).alloc c).alloc a).heap[w.heap.size+1]?=some O/\((((w.alloc b).alloc O).alloc c).alloc a).heap[w.heap.size+1+1+1]?=some a:=by
 simp only[World.alloc,KS,KM];refine⟨?_,?_⟩
 .rw[if_neg qd,if_neg qd,if_pos trivial]
 rw[if_pos trivial]
def Mb(w a O b c):Bw w ((((w.alloc a).alloc O).alloc b).alloc c):=(Mc w a O b).alloc (by rw[GW,GW,GW];omega) _
def Md(w:Aa)(c O d b a):(((((w.alloc c).alloc O).alloc d).alloc b).alloc a).heap[w.heap.size+1]?=some O/\(((((w.alloc c).alloc O).alloc d).alloc b).alloc a).heap[w.heap.size+1+1+1]?=some b/\(((((w.alloc c).alloc O).alloc d).alloc b).alloc a).heap[w.heap.size+1+1+1+1]?=some a:=by
 simp only[World.alloc,KS,KM];refine⟨?_,?_,?_⟩
 .rw[if_neg qd,if_neg qd,if_neg qd,if_pos trivial]
 .rw[if_neg qd,if_pos trivial]
 rw[if_pos trivial]
def zlK{P:Program}(w:Aa)(a:Addr)(m:Mode):(store a .nilFunc m).run P w=stored P w a .nilFunc m:=run_store P w a _ m rfl
attribute [local go_sem] zlK
def zk0{P:Program}(t:TypeId)(w:Aa):(Instr.makeMap t none).run P w=.ok (.map (some w.heap.size)) (w.alloc (.map #[] 0)):=by simp[Instr.makeMap]
attribute [local go_sem] zk0
def sU(w):Ca 153 #[] w λe w'=>∃cb nb wb,e=.returned (Pn cb)/\w.heap.size<=cb/\w.heap.size<=nb/\w.heap.size<=wb/\nb≠wb/\Bk w' cb #[.map (some nb),.map (some wb)] 263/\Ao w' nb []/\Ao w' wb []/\Bw w w':=by
 go_enter func153,ntmps153;go_wp2_with fail;obtain⟨a,b,c⟩:=Qz w (.map #[] 0) (.map #[] 0) (.cells #[.map (some w.heap.size),.map (some (w.heap.size+1))] 263 (0,0));exact bodyPost_ret (by simp[results,results153,go_sem]) rfl ⟨_,_,_,rfl,qd,yA _,qd,qd,c,Ao.new a,Ao.new b,Mc _ _ _ _⟩
def zlC(up c)(at_:Nat)(b n a)(i:up=.nilIface∨∃t v,up=.iface t v)(j:∃p,c=.pointer p)(w):Ca 154 #[.agg #[.bool false,I6 (at_:Int),c,.slice b n a],up] w λe w'=>∃O d,e=.returned (.iface 337 (Pn O))/\w.heap.size<=O/\w.heap.size<=d/\JN w' O (.bool false) c up .nilFunc at_ b n a d/\Ao w' d []/\Bw w w':=by
 obtain⟨p,rfl⟩:=j;rcases i with rfl|⟨t,v,rfl⟩
 focus
  go_enter func154,ntmps154;go_wp2_with fail;obtain⟨f,g⟩:=Me w (.cells #[.bool false,I6 (at_:Int),.pointer p,.slice b n a] 197 (0,0)) (.map #[] 0) (.cells #[.bool false,I6 (at_:Int),.pointer p,.slice b n a,.nilIface,.map (some (w.heap.size+1)),.nilFunc] 333 (0,0)) (.cells #[.bool false,I6 (at_:Int),.pointer p,.slice b n a,.nilIface,.map (some (w.heap.size+1)),.nilFunc] 339 (0,0))
 rotate_left
 focus
  go_enter func154,ntmps154;go_wp2_with fail;obtain⟨f,g⟩:=Me w (.cells #[.bool false,I6 (at_:Int),.pointer p,.slice b n a] 197 (0,0)) (.map #[] 0) (.cells #[.bool false,I6 (at_:Int),.pointer p,.slice b n a,.iface t v,.map (some (w.heap.size+1)),.nilFunc] 333 (0,0)) (.cells #[.bool false,I6 (at_:Int),.pointer p,.slice b n a,.iface t v,.map (some (w.heap.size+1)),.nilFunc] 339 (0,0))
 rotate_left
 all_goals
  exact bodyPost_ret (by simp[results,results154,go_sem]) rfl ⟨_,_,rfl,qd,qd,g,Ao.new f,Mb _ _ _ _ _⟩
def zlk(up f)(at_:Nat)(b n a)(k:up=.nilIface∨∃t v,up=.iface t v)(l:∃p,f=.pointer p)(w):Ca 154 #[.agg #[.bool true,I6 (at_:Int),f,.slice b n a],up] w λe w'=>∃O d c,e=.returned (.iface 334 (Pn O))/\w.heap.size<=O/\w.heap.size<=d/\w.heap.size<=c/\d≠c/\NN w' O (.bool true) (I6 (at_:Int)) f up .nilFunc b n a d c/\Ao w' d []/\Ao w' c []/\Bw w w':=by
 obtain⟨p,rfl⟩:=l;rcases k with rfl|⟨t,v,rfl⟩
 focus
  go_enter func154,ntmps154;go_wp2_with fail;obtain⟨g,j,i⟩:=Md w (.cells #[.bool true,I6 (at_:Int),.pointer p,.slice b n a] 197 (0,0)) (.map #[] 0) (.cells #[.bool true,I6 (at_:Int),.pointer p,.slice b n a,.nilIface,.map (some (w.heap.size+1)),.nilFunc] 333 (0,0)) (.map #[] 0) (.cells #[.bool true,I6 (at_:Int),.pointer p,.slice b n a,.nilIface,.map (some (w.heap.size+1)),.nilFunc,.map (some (w.heap.size+1+1+1))] 336 (0,0))
 rotate_left
 focus
  go_enter func154,ntmps154;go_wp2_with fail;obtain⟨g,j,i⟩:=Md w (.cells #[.bool true,I6 (at_:Int),.pointer p,.slice b n a] 197 (0,0)) (.map #[] 0) (.cells #[.bool true,I6 (at_:Int),.pointer p,.slice b n a,.iface t v,.map (some (w.heap.size+1)),.nilFunc] 333 (0,0)) (.map #[] 0) (.cells #[.bool true,I6 (at_:Int),.pointer p,.slice b n a,.iface t v,.map (some (w.heap.size+1)),.nilFunc,.map (some (w.heap.size+1+1+1))] 336 (0,0))
 rotate_left
 all_goals
  exact bodyPost_ret (by simp[results,results154,go_sem]) rfl ⟨_,_,_,rfl,qd,qd,qd,qd,i,Ao.new g,Ao.new j,(Mb _ _ _ _ _).alloc (by rw[GW,GW,GW,GW];omega) _⟩
theorem Ao.same{w w' b L}(h:Ao w b L)(e:w'.heap[b]?=w.heap[b]?)(f:CK w w'):Ao w' b L:=by
 obtain⟨es,a,g,i⟩:=h.Y;exact⟨⟨es,a,e.c g,i⟩,h.nd,λy d=>(h.ok y d).W f⟩
def kf(adr:F->Addr)(s:Int)(cb nb wb:Nat):Du (Av × B_) where
 I w a:=CS w cb nb wb a.1 a.2
 S g:=g=nb∨g=wb
 fn:=155
 r:=cb
 ok T a:=(s=1->Ae adr T ∉ a.1) /\ -9<=AC (Ae adr T) a.2/\AC (Ae adr T) a.2<=9
 stp T a a':=a'=(Hm (Ae adr T) s a.1,Gr (Ae adr T) s a.2)
theorem CS.W{u d cb nb wb T M}(h:CS u cb nb wb T M)(f:AM (λg=>g=nb∨g=wb) u d):CK u d:=λg c t b a=>by
 refine(f.block g (Ap a) (λe=>?_)).c a;rcases e with rfl|rfl
 .exact h.now.aN c t b a
 exact h.ak.aN c t b a
def zi(adr s)(g:s=1∨s = -1)(cb nb wb):(kf adr s cb nb wb).aX adr s:=by
 refine⟨λu i a h c d _=>?_,λu a T h b f=>?_⟩
 .have h:CS u cb nb wb a.1 a.2:=h;exact⟨c _ _ _ _ h.q,h.now.same (d _ h.now.lt (.inl rfl)) c,h.ak.same (d _ h.ak.lt (.inr rfl)) c,h.ne⟩
 have h:CS u cb nb wb a.1 a.2:=h;exact(zo0 cb nb wb a.1 a.2 (Ae adr T) s u h f g b.1 b.2).j λe i q=>⟨q.1,_,rfl,q.2.1,h.W q.2.2,q.2.2⟩
def Ch(adr:F->Addr)(U:Ab)(w:Aa):Prop:=∀f∈U,DJ w (.pointer (some (adr f))) f/\BB w (some (adr f))
theorem Ch.W{adr U u w}(h:Ch adr U u)(a:CK u w):Ch adr U w:=λf b=>⟨(h f b).1.W a,(h f b).2.W a⟩
def ZE{adr U w}(h:Ch adr U w){T:Ab}(a:∀f∈T,f∈U)(i:Nat):BB w (T[i]?.map adr):=by grind[BB,DJ,Ch]
def Rk{adr U w}(h:Ch adr U w){T}(a:∀f∈T,f∈U):A_ w (Ae adr T):=⟨ZE h a 0,ZE h a 1,ZE h a 2⟩
def Td{adr U w}(h:Ch adr U w){T}(a:∀f∈T,f∈U)(hl:T.length<=3):E_ w (.pointer (T[0]?.map adr)) (.pointer (T[1]?.map adr)) (.pointer (T[2]?.map adr)) T:=λi f hi=>by
 have hf:=(h f (a f (yd hi))).1;have O:=(yf.1 hi).1
 match i,hi,O with
 |0,hi,_=>exact⟨_,rfl,Sb⟩
 |1,hi,_=>exact⟨_,rfl,Sb⟩
 |2,hi,_=>exact⟨_,rfl,Sb⟩
 |k+3,_,O=>omega
def Jf(adr:F->Addr)(T:Ab)(s:Int)(TT:Am):Am:=if s=1 then TT++[T] else TT.filter (λU=>decide (Ae adr U≠Ae adr T))
def iE(adr T s TT):(Jf adr T s TT).map (Ae adr)=Hm (Ae adr T) s (TT.map (Ae adr)):=by
 unfold Jf Hm;split
 .simp
 rw[YV];rfl
structure N_ where
 nb:Nat
 bR:Nat
 tb:Nat
 ng:Value
 up:Value
 hv:Value
 Y:Nat
 ta:Af
 tc:Nat
 fa:Af
 fc:Nat
 ts:List Jt
structure O5(adr:F->Addr) (U:Ab) (d:N_) (fs:Ab) (w:Aa):Prop where
 q:JN w d.nb d.ng (.pointer (some ⟨d.bR,0,none⟩)) d.up d.hv d.Y d.ta d.ts.length d.tc d.tb
 nd:w.cell? ⟨d.bR,4,none⟩=some (.slice d.fa fs.length d.fc)
 fp:Jq w d.fa fs adr
 jt:EJ w d.ta d.ts
 us:Ch adr U w
theorem O5.W{adr U d fs u w}(h:O5 adr U d fs u)(a:CK u w):O5 adr U d fs w:=⟨a _ _ _ _ h.q,a.cell h.nd,h.fp.W a,h.jt.W a,h.us.W a⟩
def js{σ:Type}(K:Du σ)(adr:F->Addr)(s:Int)(U:Ab)(d:N_)(fs:Ab):Du (Am × σ) where
 I w a:=O5 adr U d fs w/\Ao w d.tb (uv (a.1.map (Ae adr)))/\K.I w a.2
 S g:=g=d.tb∨K.S g
 fn:=325
 r:=d.nb
 ok T a:=T.length=d.Y/\(∀f∈T,f∈U)/\(∀f∈fs,∀t∈d.ts,t.ah T f)/\(s=1->Ae adr T ∉ a.1.map (Ae adr))/\∀(i:Nat)(f:F)(b:σ),fs[i]?=some f->d.ts.all (AA T f)=true->CE K.stp (((fs.take i).filter (λf=>d.ts.all (AA T f))).map (λf=>T++[f])) a.2 b->K.ok (T++[f]) b
 stp T a a':=a'.1=Jf adr T s a.1/\CE K.stp ((fs.filter (λf=>d.ts.all (AA T f))).map (λf=>T++[f])) a.2 a'.2
def x9{σ}(K:Du σ)(adr s)(z:s=1∨s = -1)(U d fs)(p:K.aX adr s)(B:JA d.hv K.fn K.r)(hl:d.ts.length<=1048576)(O:fs.length<=1000)(w:∀f∈fs,f∈U)(af:d.Y<3)(k:¬K.S d.tb):(js K adr s U d fs).aX adr s:=by
 refine⟨λu v a h l o Z=>?_,λu a T h m y=>?_⟩
 .obtain⟨b,c,i⟩:O5 adr U d fs u/\Ao u d.tb (uv (a.1.map (Ae adr)))/\K.I u a.2:=h;exact⟨b.W l,c.same (o _ c.lt (.inl rfl)) l,p.1 u v a.2 i l (λg C hS=>o g C (.inr hS)) Z⟩
 obtain⟨b,c,i⟩:O5 adr U d fs u/\Ao u d.tb (uv (a.1.map (Ae adr)))/\K.I u a.2:=h;obtain⟨D,R,M,x,N⟩:=m;have n:=b.q;rw[<-D]at n;refine(zrW K adr s z p d.nb d.bR d.tb d.ng d.up d.hv d.ta d.fa d.tc d.fc d.ts fs T (a.1.map (Ae adr)) a.2 u n B b.nd b.fp (λf L=>(b.us f (w f L)).2) b.jt (Td b.us R qd) hl O M qd c y x i k N).j λe v q=>?_;obtain⟨A,⟨a',G,E⟩,J,t,H⟩:=q;refine⟨A,(Jf adr T s a.1,a'),⟨rfl,G⟩,⟨b.W t,?_,E⟩,t,H⟩;rw[iE];exact J
def Jq.eB{w a fs adr}(h:Jq w a fs adr):Mv w a fs:=λi f c=>by
 obtain⟨b,o,e,O,d⟩:=h i f c;exact⟨b,o,_,e,O,d⟩
structure N6 where
 nb:Nat
 bR:Nat
 tb:Nat
 bb:Nat
 ng:Value
 ct:Value
 up:Value
 hv:Value
 ta:Af
 tc:Nat
 fa:Af
 fc:Nat
 ts:List Jt
structure O4(adr:F->Addr) (U:Ab) (d:N6) (fs:Ab) (w:Aa):Prop where
 q:NN w d.nb d.ng d.ct (.pointer (some ⟨d.bR,0,none⟩)) d.up d.hv d.ta d.ts.length d.tc d.tb d.bb
 nd:w.cell? ⟨d.bR,4,none⟩=some (.slice d.fa fs.length d.fc)
 fp:Jq w d.fa fs adr
 jt:EJ w d.ta d.ts
 us:Ch adr U w
theorem O4.W{adr U d fs u w}(h:O4 adr U d fs u)(a:CK u w):O4 adr U d fs w:=⟨a _ _ _ _ h.q,a.cell h.nd,h.fp.W a,h.jt.W a,h.us.W a⟩
def ju{σ:Type}(K:Du σ)(adr:F->Addr)(s:Int)(U:Ab)(d:N6)(fs:Ab):Du (Am × B_ × σ) where
 I w a:=O4 adr U d fs w/\Ao w d.tb (uv (a.1.map (Ae adr)))/\Ao w d.bb (iv a.2.1)/\K.I w a.2.2
 S g:=g=d.tb∨g=d.bb∨K.S g
 fn:=320
 r:=d.nb
 ok T a:=T.length<=3/\(∀f∈T,f∈U)/\(∀f∈fs,∀t∈d.ts,t.ah T f)/\(s=1->Ae adr T ∉ a.1.map (Ae adr)/\(nBar d.ts fs T=0->K.ok T a.2.2))/\(s = -1->0<=AC (Ae adr T) a.2.1/\(AC (Ae adr T) a.2.1=0->K.ok T a.2.2))
 stp T a a':=a'.1=Jf adr T s a.1/\a'.2.1=Im (Ae adr T) (if s=1 then(nBar d.ts fs T:Int) else 0) a.2.1/\K.aB (if s=1 then nBar d.ts fs T else(AC (Ae adr T) a.2.1).toNat) T a.2.2 a'.2.2
def xT{σ}(K:Du σ)(adr s)(J:s=1∨s = -1)(U d fs)(t:K.aX adr s)(G:JA d.hv K.fn K.r)(hl:d.ts.length<=1048576)(H:fs.length<=1000)(c:d.tb≠d.bb)(i:¬K.S d.tb)(l:¬K.S d.bb):(ju K adr s U d fs).aX adr s:=by
 refine⟨λu z a h m o hz=>?_,λu a T h C E=>?_⟩
 .obtain⟨b,k,f,n⟩:O4 adr U d fs u/\Ao u d.tb (uv (a.1.map (Ae adr)))/\Ao u d.bb (iv a.2.1)/\K.I u a.2.2:=h;exact⟨b.W m,k.same (o _ k.lt (.inl rfl)) m,f.same (o _ f.lt (.inr (.inl rfl))) m,t.1 u z a.2.2 n m (λg M hS=>o g M (.inr (.inr hS))) hz⟩
 obtain⟨b,k,f,n⟩:O4 adr U d fs u/\Ao u d.tb (uv (a.1.map (Ae adr)))/\Ao u d.bb (iv a.2.1)/\K.I u a.2.2:=h;obtain⟨N,Z,R,D,Y⟩:=C;rcases J with rfl|rfl
 .refine(zoT K adr t d.nb d.bR d.tb d.bb d.ng d.ct d.up d.hv d.ta d.fa d.tc d.fc d.ts fs T (a.1.map (Ae adr)) a.2.1 a.2.2 u b.q G b.nd b.fp.eB b.jt (Td b.us Z N) hl H R k f c E (D rfl).1 n i l (D rfl).2).j λe z q=>?_;obtain⟨p,⟨B,w,v⟩,x,y,O,A⟩:=q;refine⟨p,(Jf adr T 1 a.1,Im (Ae adr T) (nBar d.ts fs T:Int) a.2.1,B),⟨rfl,rfl,w⟩,⟨b.W O,?_,y,v⟩,O,A⟩;rw[iE];exact x
 obtain⟨p1,L⟩:=Y rfl;refine(zoI K adr t d.nb d.tb d.bb d.ng d.ct (Pn d.bR) (.slice d.ta d.ts.length d.tc) d.up d.hv T (a.1.map (Ae adr)) a.2.1 (AC (Ae adr T) a.2.1).toNat a.2.2 u b.q G k f c E qd n i l (λe=>L qd)).j λe z q=>?_;obtain⟨p,⟨B,w,v⟩,x,y,O,A⟩:=q;refine⟨p,(Jf adr T (-1) a.1,Im (Ae adr T) 0 a.2.1,B),⟨rfl,rfl,w⟩,⟨b.W O,?_,y,v⟩,O,A⟩;rw[iE];exact x
abbrev DL:=(N_ ⊕ N6) × Ab
abbrev Aw:=List DL
def DK:Aw->Type
 |[]=>Av × B_
 |(.inl _,_)::r=>Am × DK r
 |(.inr _,_)::r=>Am × B_ × DK r
def Ee(adr:F->Addr)(s:Int)(U:Ab)(cb nb wb:Nat):(l:Aw)->Du (DK l)
 |[]=>kf adr s cb nb wb
 |(.inl d,fs)::r=>js (Ee adr s U cb nb wb r) adr s U d fs
 |(.inr d,fs)::r=>ju (Ee adr s U cb nb wb r) adr s U d fs
def Ob(adr:F->Addr)(s:Int)(U:Ab)(cb nb wb:Nat):Aw->Prop
 |[]=>True
 |(.inl d,fs)::r=>JA d.hv (Ee adr s U cb nb wb r).fn (Ee adr s U cb nb wb r).r/\d.ts.length<=1048576/\fs.length<=1000/\(∀f∈fs,f∈U)/\d.Y<3/\¬(Ee adr s U cb nb wb r).S d.tb/\Ob adr s U cb nb wb r
 |(.inr d,fs)::r=>JA d.hv (Ee adr s U cb nb wb r).fn (Ee adr s U cb nb wb r).r/\d.ts.length<=1048576/\fs.length<=1000/\d.tb≠d.bb/\¬(Ee adr s U cb nb wb r).S d.tb/\¬(Ee adr s U cb nb wb r).S d.bb/\Ob adr s U cb nb wb r
def Rv(adr s)(a:s=1∨s = -1)(U cb nb wb):∀(l:Aw),Ob adr s U cb nb wb l->(Ee adr s U cb nb wb l).aX adr s
 |[],_=>zi adr s a cb nb wb
 |(.inl d,fs)::r,⟨h1,h2,h3,h4,h5,h6,h7⟩=>x9 _ adr s a U d fs (Rv adr s a U cb nb wb r h7) h1 h2 h3 h4 h5 h6
 |(.inr d,fs)::r,⟨h1,h2,h3,h4,h5,h6,h7⟩=>xT _ adr s a U d fs (Rv adr s a U cb nb wb r h7) h1 h2 h3 h4 h5 h6
def ztm (nb w):Sem.run prog (method 525 337 (Pn nb) "loop.example/s01311/impl.see") w=.ok (324,Pn nb) w:=by kernel_rfl
def zsL (nb w):Sem.run prog (method 525 334 (Pn nb) "loop.example/s01311/impl.see") w=.ok (319,Pn nb) w:=by kernel_rfl
def pT (nb w):Sem.run prog (method 525 337 (Pn nb) "loop.example/s01311/impl.above") w=.ok (316,Pn nb) w:=by kernel_rfl
def rA (nb w):Sem.run prog (method 525 334 (Pn nb) "loop.example/s01311/impl.above") w=.ok (316,Pn nb) w:=by kernel_rfl
def zsh (nb w):Sem.run prog (method 525 337 (Pn nb) "loop.example/s01311/impl.remembered") w=.ok (318,Pn nb) w:=by kernel_rfl
def zsx (nb w):Sem.run prog (method 525 334 (Pn nb) "loop.example/s01311/impl.remembered") w=.ok (318,Pn nb) w:=by kernel_rfl
def rY (nb w):Sem.run prog (method 525 337 (Pn nb) "loop.example/s01311/impl.handTo") w=.ok (317,Pn nb) w:=by kernel_rfl
def rL (nb w):Sem.run prog (method 525 334 (Pn nb) "loop.example/s01311/impl.handTo") w=.ok (317,Pn nb) w:=by kernel_rfl
def IY(n:Bool × Nat):Value:=if n.1=true then .iface 334 (.pointer (some ⟨n.2,0,none⟩)) else .iface 337 (.pointer (some ⟨n.2,0,none⟩))
def CV(ns:List (Bool × Nat))(k:Nat):Value:=(ns[k]?.map IY).getD .nilIface
def SH(ns:List (Bool × Nat)):Value->Nat
 |.iface _ (.pointer (some a))=>ns.length-(ns.map Prod.snd).idxOf a.block
 |_=>0
def LU(b:Bool):Nat:=if b=true then 319 else 324
def UW{a}(h:(a.map Prod.snd).Nodup){k}(d:k<=a.length):SH a (CV a k)=a.length-k:=by
 unfold CV;rcases Wg k a.length with hl|hl
 .have b:a[k]?=some a[k]:=MS;rw[b];have c:(a.map Prod.snd).idxOf a[k].2=k:=by
   have:=List.Nodup.idxOf_getElem h k NB;simpa using this
  show SH a (IY a[k])=_;unfold IY;split<;>simp only[SH,c]
 have b:a[k]?=none:=MS;rw[b];show 0=_;omega
def zs9(A a q s)(P:Nat->Aa->Prop)(B:(a.map Prod.snd).Nodup)(w)(C:P 0 w)(R:w.cell? ⟨A,0,none⟩=some (CV a 0))(O:∀(k:Nat)(n:Bool × Nat)(u:Aa),a[k]?=some n->P k u->Ca (LU n.1) #[.pointer (some ⟨n.2,0,none⟩),.pointer q,.int .i64 s] u λe D=>e=.returned (.tuple #[])/\P (k+1) D/\D.cell? ⟨n.2,4,none⟩=some (CV a (k+1))) :
  Ca 305 #[.pointer (some ⟨A,0,none⟩),.pointer q,.int .i64 s] w λe w'=>e=.returned (.tuple #[])/\P a.length w':=by
 obtain⟨J,N,y⟩:=AK O C B;clear O C B;go_enter func305,ntmps305;go_wp2
 go_loopw [6] (λv wr=>∃k,k<=a.length/\v=CV a k/\P k wr) (λv _=>SH a v)
 .exact⟨0,yn _,rfl,N⟩
 obtain⟨k,L,rfl,r⟩:=hrel;have x:=Ad r;clear r;rcases Wg k a.length with hl|hl
 .obtain⟨⟨b,nb⟩,E⟩:∃n,a[k]?=some n:=⟨a[k],MS⟩
  have i:=UW y L;have p:=UW y (show k+1<=a.length from hl);have hS:=J k (b,nb) wr E x;have hv:CV a k=IY (b,nb):=by simp[CV,E]
  rw[hv]at i⊢;obtain⟨nx,c⟩:=AF (CV a (k+1));rw[<-c]at hS p;obtain⟨t,f,z⟩:=AK c i p;clear c i p hv;cases b
  .have d:=Ad hS;simp only[LU,Yx,if_false]at d;simp only[IY,Yx,if_false]at f⊢;have G:=λu=>ztm nb u;have I:=λu=>pT nb u;go_wp2_with (first|(go_at_call 324;refine d.rtn λl⟨g,m⟩=>?_)|(go_at_call 316;refine(gJ nb nx l m).j ?_;rintro e K ⟨rfl,rfl⟩)|fail);refine⟨⟨k+1,hl,t,g⟩,?_⟩;have M:=f.o;have H:=z.o;omega
  have d:=Ad hS;simp only[LU,if_true]at d;simp only[IY,if_true]at f⊢;have G:=λu=>zsL nb u;have I:=λu=>rA nb u;go_wp2_with (first|(go_at_call 319;refine d.rtn λl⟨g,m⟩=>?_)|(go_at_call 316;refine(gJ nb nx l m).j ?_;rintro e K ⟨rfl,rfl⟩)|fail);refine⟨⟨k+1,hl,t,g⟩,?_⟩;have M:=f.o;have H:=z.o;omega
 obtain rfl:k=a.length:=qd;have hv:CV a a.length=.nilIface:=by simp[CV]
 rw[hv];go_wp2;exact bodyPost_end (results_none rfl _ _ _) rfl ⟨rfl,x⟩
def XG(c:Bl):Prop:=(∃k n,c=#[.int k n])∨∃a n k,c=#[.slice a n k]
def Jr(u w:Aa):Prop:=∀(g:Nat)c t fr,u.heap[g]?=some (.cells c t fr)->¬XG c->w.heap[g]?=some (.cells c t fr)
def De(B u w:Aa):Prop:=∀(g:Nat)c t fr,u.heap[g]?=some (.cells c t fr)->(B.heap.size<=g->t≠45)->¬XG c->w.heap[g]?=some (.cells c t fr)
def CK.i{B u w}(h:CK u w):De B u w:=λg c t a b _ _=>h g c t a b
def CK.b{u w}(h:CK u w):Jr u w:=λg c t a d _=>h g c t a d
def De.c{B u v w}(h:De B u v)(k:De B v w):De B u w:=λg c t d e a b=>k g c t d (h g c t d e a b) a b
def De.u{B u w}(h:Bw u w):De B u w:=(CK.u h).i
def De.b{B w}(h:De B B w):Jr B w:=λg c t e a d=>h g c t e a (λq=>absurd (Ap a) qd) d
def kh{u:Aa}{b o v}(f:At u b o v)(d:o≠0∨(∀k n,v≠.int k n)/\∀a n k,v≠.slice a n k):∃c t i,u.heap[b]?=some (.cells c t i)/\¬XG c:=by
 cases g:u.heap[b]? with
 |none=>simp[World.cell?,g]at f
 |some l=>
  cases l with
  |cells c t i=>
   refine⟨c,t,i,rfl,λe=>?_⟩;obtain⟨x,rfl,j⟩:∃x,c=#[x]/\((∃k n,x=.int k n)∨∃a n k,x=.slice a n k):=by
    rcases e with⟨k,n,rfl⟩|⟨a,n,k,rfl⟩
    .exact⟨_,rfl,.inl ⟨_,_,rfl⟩⟩
    exact⟨_,rfl,.inr ⟨_,_,_,rfl⟩⟩
   rcases o with _|o
   .simp[World.cell?,g]at f;rcases d with d|d
    .exact d rfl
    subst f;rcases j with⟨k,n,e⟩|⟨a,n,k,e⟩
    .exact d.1 k n e
    exact d.2 a n k e
   .simp[World.cell?,g]at f
  |_=>simp[World.cell?,g]at f
def Zg{o p}:o≠0∨(∀k n,Value.pointer p≠.int k n)/\∀a n k,Value.pointer p≠.slice a n k:=.inr ⟨qf,qf⟩
def Jr.ci{u w}(h:Jr u w){b o v}(g:u.cell? ⟨b,o,none⟩=some v)(i:o≠0∨(∀k n,v≠.int k n)/\∀a n k,v≠.slice a n k){p x}(e:u.cell? ⟨b,p,none⟩=some x):w.cell? ⟨b,p,none⟩=some x:=by
 obtain⟨c,t,f,d,j⟩:=kh g i;rw[<-e];exact yP (w:=u) ((h b c t f d j).c d.z)
def Cj.bu{u w a vs}(h:Cj u a vs)(d:Jr u w):Cj w a vs:=λi v hv=>by
 obtain⟨b,o,e,O,f,c⟩:=h i v hv;have q:=@Jr.ci _ _ d _ _ _ c (.inl qd);exact⟨b,o,e,q O,q f,q c⟩
def DJ.bu{u w v f}(h:DJ u v f)(d:Jr u w):DJ w v f:=by
 obtain⟨b,o,e,O,g,a,c,i,j⟩:=h;have q:=@Jr.ci _ _ d _ _ _ g (.inl qd);exact⟨b,o,e,q O,q g,a,c,q i,j.bu d⟩
def EJ.bu{u w a ts}(h:EJ u a ts)(g:Jr u w):EJ w a ts:=λi t d=>by
 obtain⟨b,o,e,O,c,j,f⟩:=h i t d;have q:=@Jr.ci _ _ g _ _ _ c (.inl qd);exact⟨b,o,e,q O,q c,q j,q f⟩
def Jq.bu{u w a fs adr}(h:Jq u a fs adr)(c:Jr u w):Jq w a fs adr:=λi f d=>by
 obtain⟨b,o,e,O,g⟩:=h i f d;exact⟨b,o,e,c.ci O Zg O,g.bu c⟩
def XL(B w:Aa)(a:Af)(fs:Ab)(adr:F->Addr):Prop:=∀(i:Nat)(f:F),fs[i]?=some f->∃b o,a=some ⟨b,o,none⟩/\w.cell? ⟨b,o+i,none⟩=some (.pointer (some (adr f)))/\(b<B.heap.size∨∃c fr,w.heap[b]?=some (.cells c 106 fr))
def XL.fy{B u w a fs adr}(h:XL B u a fs adr)(m:De B u w):XL B w a fs adr:=λi f p=>by
 obtain⟨b,o,e,j,d⟩:=h i f p;obtain⟨c,t,n,g,r⟩:=kh j Zg;have k:=m b c t n g (λq e=>by
  rcases d with d|⟨l,O,d⟩
  .omega
  rw[g,e]at d;cases d) r
 refine⟨b,o,e,?_,d.imp id λ⟨l,O,d⟩=>⟨l,O,by rw[k,<-g];exact d⟩⟩;rw[<-j];exact yP (w:=u) (k.c g.z)
def JB(adr:F->Addr)(U:Ab)(w:Aa):Prop:=∀f∈U,DJ w (.pointer (some (adr f))) f
def Ch.a{adr U w}(h:Ch adr U w):JB adr U w:=λf b=>(h f b).1
def JB.bu{adr U u w}(h:JB adr U u)(a:Jr u w):JB adr U w:=λf b=>(h f b).bu a
def oJ{adr U w}(h:JB adr U w){T}(a:∀f∈T,f∈U)(hl:T.length<=3):E_ w (.pointer (T[0]?.map adr)) (.pointer (T[1]?.map adr)) (.pointer (T[2]?.map adr)) T:=λi f hi=>by
 have hf:=h f (a f (yd hi));have O:=(yf.1 hi).1
 match i,hi,O with
 |0,hi,_=>exact⟨_,rfl,Sb⟩
 |1,hi,_=>exact⟨_,rfl,Sb⟩
 |2,hi,_=>exact⟨_,rfl,Sb⟩
 |k+3,_,O=>omega
end Go.Proofs.YtikojfajahnhgaaGreat
