import Derived.Test.YtikojfajahnhgaaGreatKbl
set_option linter.all false
set_option maxHeartbeats 12800000
set_option maxRecDepth 100000
namespace Go.Proofs.YtikojfajahnhgaaGreat
attribute [local simp] At I6 Pn mzI
attribute [local go_sem] At I6 Pn
open Go.RowKit Go.Proofs.Tryz
variable{P:Prop}
section
open Go.Maps
attribute [local go_sem ↓] wp_at_zero wp_at_succ
attribute [local go_sem] Oper.semAt_some
def UQ(Ds:List Nat):List Deferred:=Ds.map (λD=>{ target:=.collected D,args:=#[] })
structure NZ(B:Nat) (Ds:List Nat) (W:World):Prop where
 nodup:Ds.Nodup
 P:∀D∈Ds,B<=D/\W.heap[D]?=some (.deferred (some []))
structure RC(B:Nat) (W W':World):Prop where
 C:Below B W W'
 bT:CK W W'
def Sl{n fn tmps R B}:∀(b:List Nat)(W:World),NZ B b W->(∀a,RC B W a->∃v,(results fn tmps).run prog a=.ok v a/\R (.returned v) a)->LeavesInM Fence.wide n prog fn tmps R (UQ b) .returning W
 |[],W,_,h=>h W ⟨An,λ_ _ _ _ h=>h⟩
 |D::b,W,hd,h=>by
  obtain⟨o,g⟩:=hd.P D qe
  have j:=y9.1 hd.nodup
  have i:RC B W (W.putObj D (.deferred none)):=⟨⟨rfl,rfl,rfl,qe,λk d=>Ym qd⟩,λk c t m d=>by
   rw[Ym (λe=>by subst e;rw[g]at d;cases d)]
   exact d⟩
  refine⟨qe,.inl ⟨D,_,rfl,run_takeDeferred g,Sl b _ ⟨j.2,λl O=>⟨(hd.P l Mp).1,?_⟩⟩ (λa f=>h a ⟨i.C.c f.C,i.bT.c f.bT⟩)⟩⟩
  rw[Ym (λe=>j.1 (by rw[<-e];exact O))]
  exact(hd.P l Mp).2
def CK.dy{W l o o'}(hl:W.heap[l]?=some o)(O:o.isCells=false):CK W (W.putObj l o'):=λg c t b a=>by
 rw[Ym (λe=>by subst e;rw[hl]at a;cases a;simp[Obj.isCells]at O)];exact a
structure LT{Z:SN} (old:List Kt) (cb nb wb B:Nat) (K0:List Kt) (w:World) (pre:List (ES Z)) (W:World):Prop where
 ex:∃K M,(∀x,x∈K↔x∈K0∨x∈(pre.map (λy=>y.1)).map (Ab Z.adr))/\BS old K M/\CS W cb nb wb K M
 O:CK w W
 mp:Av (λg=>g=nb∨g=wb) w W
 low:nb<B/\wb<B/\w.heap.size<=B
def LT.Q{Z old cb nb wb B K0 w}:OwnFrom B (LT (Z:=Z) old cb nb wb B K0 w):=by
 intro pre W j row h d r;have key:∀k,k<W.heap.size->(k<B∨∃c t i,W.heap[k]?=some (.cells c t i))->j.heap[k]?=W.heap[k]?:=λk l b=>d.block k l (λe=>by
  obtain⟨v,o,u,s⟩:=r k e.y;rcases b with b|⟨c,t,i,b⟩
  .omega
  rw[u]at b;cases b;simp[Obj.isCells]at s)
 have f:CK W j:=λg c t i O=>(key g (Ak O) (.inr ⟨_,_,_,O⟩)).c O;obtain⟨K,M,p,m,a⟩:=h.ex;refine⟨⟨K,M,p,m,f _ _ _ _ a.q,a.now.same (key nb a.now.lt (.inl h.low.1)) f,a.ab.same (key wb a.ab.lt (.inl h.low.2.1)) f,a.ne⟩,h.O.c f,⟨?_,λg O n=>(key g (yg O h.mp.rest.size) (.inl (yg O h.low.2.2))).c (h.mp.block g O n)⟩,h.low⟩;exact h.mp.rest.c ⟨d.os,d.tape,d.output,d.size,λk l=>qd⟩
def LT.C{Z old cb nb wb B K0 w}{pre:List (ES Z)}{W b}(h:LT old cb nb wb B K0 w pre W)(a:Bw W b):LT old cb nb wb B K0 w pre b:=by
 obtain⟨K,M,g,e,f⟩:=h.ex;exact⟨⟨K,M,g,e,f.d a⟩,h.O.c (CK.m a),h.mp.c (Av.m a),h.low⟩
def r6{B W a S}(b:Av S W a)(e:∀g,S g->g<B):KeepsFrom B W a:=by
 refine⟨b.rest.size,λk o f d _=>?_⟩;exact(b.block k (yj.1 d).1 (λq=>by have:=e k q;omega)).c d
def zoa{W d}(a:Bw W d):KeepsOthers W d:=⟨a.size,λk _ b _=>(a.block k (yj.1 b).1).c b⟩
def Ut(Z:SN)(A:Value->Value->Act)(x:ES Z)(a:Act)(W:World):Prop:=∃tb,W.heap[tb]?=some (.cells #[.pointer (Ab Z.adr x.1).1,.pointer (Ab Z.adr x.1).2.1,.pointer (Ab Z.adr x.1).2.2] 111 (0,0))/\a=A (.pointer (some ⟨tb,0,none⟩)) (Lp x)
def Ut.Q{Z B A}(x a):OwnFrom B (λ(_:Unit)W=>Ut Z A x a W):=by
 intro _ W k row h i g;obtain⟨d,b,f⟩:=h;refine⟨d,(i.block d (Ak b) (λe=>?_)).c b,f⟩;obtain⟨_,o,O,j⟩:=g d e.y;rw[O]at b;cases b;simp[Obj.isCells]at j
def jd(Z old K M mb cb nb wb va n vc w)(hv:Z.vv=.slice va n vc)(aw:NM w mb (.slice Z.ca Z.X.length Z.cc) Z.vv cb)(aS:∀(k:Nat)(c:Cx),Z.X[k]?=some c->Dp Z.adr Z.vw Z.ca w k c)(aW:Br Z.adr Z.U w)(hC:CS w cb nb wb K M)(hN:BS old K M)(aZ:IX Z 0 Z.X []) :
  Ca 156 #[Pn mb,.agg #[I6 Z.sa,.pointer (Z.sf.map Z.adr)]] w λe w'=>e=.returned (.tuple #[])/\(∃K' M',(∀x,x∈K'↔x∈K∨x∈(De Z 0 Z.X []).map (Ab Z.adr))/\BS old K' M'/\CS w' cb nb wb K' M')/\CK w w'/\Av (λg=>g=nb∨g=wb) w w':=by
 obtain⟨aA,HC,HN,HCX,HUS,aU,HV⟩:=Jj aw hC hN aS aW aZ hv;clear aw hC hN aS aW aZ hv;refine(callsIn_wide (n:=9)).1 ?_;refine callsIn_of_wp_marks func156 rfl trivial ?_ rfl;simp only[ntmps156,K2,yI,Yz,Nat.reduceAdd,Nat.reduceSub,Ky,Kz,K3,KI,yY,Yb];refine wpIn_wide.2 ?_;go_upto_region 1 with fail;refine BF ?_;intro b aK aJ aL;obtain⟨Q1,Q2⟩:=Ah aJ aL;have m0:=AV aJ;obtain⟨s0,s1⟩:=Az aL;have aM:=Aa aK;have ay:=(aK.block mb (Ak aA.o)).c aA.o;have v0:=AS (L:=[_,_,_]) ay (j:=0) rfl;have v1:=AS (L:=[_,_,_]) ay (j:=1) rfl;have v2:=AS (L:=[_,_,_]) ay (j:=2) rfl;clear aK aJ aL ay;go_wp2_with fail;refine wp_region_noPanic ?_;refine wp_region_held_drew (S:=(λu=>At u w.heap.size 0 (Pn mb)/\At u (w.heap.size+1) 0 (I6 Z.sa)/\At u (w.heap.size+1) 1 (.pointer (Z.sf.map Z.adr))/\At u mb 0 (.slice Z.ca Z.X.length Z.cc)/\At u mb 1 Z.vv)) qg ?_ (λhHeld=>?_)
 ·(try dsimp only);exact⟨m0,s0,s1,v0,v1⟩
 refine sr 0 5 ?_;refine wpAnyH_ready (rs:=[5]) qg qe ?_;refine Yj (ym.c rfl) (λK p=>?_) Yx;go_simp;(go_at_call 57;refine (jm _ _ Z.sa (Z.sf.map Z.adr) Z.ca va Z.X.length Z.cc n vc rfl HV.o _).j ?_;rintro e' r ⟨rfl,aY,aH,H⟩);(try go_wp2_with fail);refine p.o _ _ (by (try dsimp only);exact ⟨zab H m0,zab H s0,zab H s1,zab H v0,zab H v1⟩) λhHeld=>?_;clear p K;(try simp only[pA,pZ,pS,pN]);refine wpAnyH_done qg ?_ _;refine Ya ?_;have bf:b.heap.size+1<r.heap.size:=Ak aH.o;obtain ⟨z,aD,aG,a7⟩:=Bn (show Bw w r from aM.o.drew.c (H.j (show w.heap.size<=b.drew.heap.size from aM.o.size))) (show r.heap[b.heap.size]?=some (.cells #[.slice Z.ca Z.X.length Z.cc,Z.vv] 102 (0,0)) from aY.o) (show r.heap[b.heap.size+1]?=some (.cells #[I6 Z.sa,.pointer (Z.sf.map Z.adr)] 108 (0,0)) from aH.o) ((H.block w.heap.size (Ak Q1.o)).c Q1.o);have a9:=Aa (show NM r mb (.slice Z.ca Z.X.length Z.cc) Z.vv cb from (z.o.block mb (Ak aA.o)).c aA.o);have bh:=HC.o.now.lt;have bg:=HC.o.ab.lt;have aF:=z.o.size;obtain ⟨EX,a8,bd⟩:=AA (Vx (Z:=Z) (Z':={ Z with pb:=b.heap.size,sb:=b.heap.size+1 }) rfl rfl rfl Z.X 0 []) (show LT (Z:={ Z with pb:=b.heap.size,sb:=b.heap.size+1 }) old cb nb wb r.heap.size K r [] r from ⟨⟨K,M,λx=>qe,HN.o,HC.o.d z.o⟩,λ_ _ _ _ h=>h,Av.refl _ _,qd,qd,yu _⟩) (QT { Z with pb:=b.heap.size,sb:=b.heap.size+1 } 8 r ⟨aD.o,aG.o,λk c hc=>(HCX.o k c hc).O (CK.m z.o),(HUS.o.O (CK.m z.o)).a⟩ ((Vu (Z:=Z) (Z':={ Z with pb:=b.heap.size,sb:=b.heap.size+1 }) rfl rfl rfl Z.X 0 []).2 aU.o));clear hHeld m0 s0 s1 v0 v1 v2 H aY aH aD aG HCX aU HC HN aM Q1 Q2;go_wp2_with fail;refine (wpIn_wide (n:=9)).1 ?_;refine wpIn_rangeFunc_ownH (α:=ES { Z with pb:=b.heap.size,sb:=b.heap.size+1 }) rfl qh (gf:=108) (lb:=#[Pn b.heap.size,Pn (b.heap.size+1)]) rfl trivial (enters_of func108 qg rfl)
  bd.o (λh k=>Cl.c h k) (λW l o o' _ h2 h3 _=>(CK.dy h2 h3).i) An (λ_=>rfl)
  (LT old cb nb wb r.heap.size K r) (λ_ _ _=>False) LT.Q (λ_ _ _ _ _ hs _ _=>hs) a8.o
  (Ut { Z with pb:=b.heap.size,sb:=b.heap.size+1 } (λpv tv=>{ tmps:=#[Pn mb,.agg #[I6 Z.sa,.pointer (Z.sf.map Z.adr)],Pn w.heap.size,Pn (w.heap.size+1),pv,Pn mb,Pn mb,Pn mb,.agg #[.slice Z.ca Z.X.length Z.cc,Z.vv],.agg #[I6 Z.sa,.pointer (Z.sf.map Z.adr)],.func (.func 108) #[] #[Pn b.heap.size,Pn (b.heap.size+1)],tv,undef,undef,undef,undef,undef,undef,undef,undef,undef,undef,undef,undef,undef],defers:=[] })) (λx a=>Ut.Q x a) ?assign ?body ?done ?stop
 case assign=>
  rintro l pre x t Kc s p;simp only[Lp,AM];obtain⟨E,a6⟩:=Ah s p;clear s p;gi_wp2;exact a6.o _ _ ((KeepsOthers.alloc _ _).from _) (Cl.m Aj) (E.o.C Aj) ⟨t.heap.size,heap_alloc_new _ _,rfl⟩
 case body=>
  rintro l pre x a' t bi _ s ⟨A,aw,rfl⟩ aa;obtain⟨J,M1,az,au,ah⟩:=s.ex;have ax:=s.O;have m0:=AV (ax _ _ _ _ a7.o);have v2:=AS (L:=[_,_,_]) (ax _ _ _ _ a9.o) (j:=2) rfl;obtain⟨t0,t1,t2⟩:=Ao aw;obtain⟨Y,aC⟩:∃q,q=Ab Z.adr x.1:=⟨_,rfl⟩
  have a5:=t0;have aO:=Aa (show AG t Y by rw[aC];exact Ou (HUS.o.O ((CK.m z.o).c ax)) x.2.2);obtain⟨ao,aE,R,aX,aI,I,aR⟩:=Jj (λ(u:World)(hu:Bw t u)=>zr cb nb wb J M1 Y u (ah.d hu) (aO.o.d hu)) (λ(u:World)(hu:Bw t u)(hx:Y ∉ J)=>iD cb nb wb J M1 Y u (ah.d hu) (aO.o.d hu) hx (au.bR _)) ah au az s aC;simp only[show Ab ({ Z with pb:=b.heap.size,sb:=b.heap.size+1 }:SN).adr x.1=Y from aC.y]at t0 t1 t2;obtain⟨x0,x1,N⟩:=Y;simp only[AM]at t0 t1 t2 ao aE;clear s aw aa az au ah ax aC a5;by_cases T:(x0,x1,N)∈J
  .have aB:=Aa T;rw[decide_eq_true T]at ao;clear T;gi_wp2;refine Xk (S:=(λu=>At u w.heap.size 0 (Pn mb)/\At u mb 2 (Pn cb)/\At u A 0 (.pointer x0)/\At u A 1 (.pointer x1)/\At u A 2 (.pointer N))) ZS qF qg ?_ (λhHeld=>?_)
   ·(try dsimp only);exact⟨m0,v2,t0,t1,t2⟩
   refine sr 0 5 ?_;refine wpAnyH_ready (rs:=[5]) qg qe ?_;refine Yj (ym.c rfl) (λK p=>?_) Yx;go_simp;(go_at_call 212;refine(ao.o _ An.drew).j ?_;rintro e' w3 ⟨rfl,O⟩);(try go_wp2_with fail);refine p.o _ _ pw λhHeld=>?_;clear p K;(try simp only[pA,pZ,pS,pN]);refine sr 6 7 ?_;refine wpAnyH_done qg ?_ _;refine Ya ?_;have f:=Aa (show Bw t w3 from An.drew.c (O.j qe));clear O hHeld;gi_wp2;exact⟨(zoa f.o).from _,Cl.m f.o,⟨J,M1,λy=>by rw[aI.o y,yF,yF,yn];exact⟨λq=>q.elim .inl (λq=>.inr (.inl q)),λq=>q.elim .inl (λq=>q.elim .inr (λq=>by simp only[yq,YB,yp]at q;rw[q,<-show(x0,x1,N)=Ab Z.adr x.1 from aR.o];exact(aI.o _).1 aB.o))⟩,aX.o,R.o.d f.o⟩,I.o.O.c (CK.m f.o),I.o.mp.c (Av.m f.o),I.o.low⟩
  .have aB:=Aa T;rw[decide_eq_false T]at ao;clear T;gi_wp2;refine Xk (S:=(λu=>At u w.heap.size 0 (Pn mb)/\At u mb 2 (Pn cb)/\At u A 0 (.pointer x0)/\At u A 1 (.pointer x1)/\At u A 2 (.pointer N))) ZS qF qg ?_ (λhHeld=>?_)
   ·(try dsimp only);exact⟨m0,v2,t0,t1,t2⟩
   refine sr 0 5 ?_;refine wpAnyH_ready (rs:=[5]) qg qe ?_;refine Yj (ym.c rfl) (λK p=>?_) Yx;go_simp;(go_at_call 212;refine(ao.o _ An.drew).j ?_;rintro e' w3 ⟨rfl,O⟩);(try go_wp2_with fail);refine p.o _ _ pw λhHeld=>?_;clear p K;(try simp only[pA,pZ,pS,pN]);refine sr 6 7 ?_;refine wpAnyH_done qg ?_ _;refine Ya ?_;have f:=Aa (show Bw t w3 from An.drew.c (O.j qe));clear O hHeld;have a0:=zab f.o m0;have aQ:=zab f.o v2;have aT:=zab f.o t0;have aP:=zab f.o t1;have a3:=zab f.o t2;gi_wp2;refine Xk (S:=(λu=>At u w.heap.size 0 (Pn mb)/\At u mb 2 (Pn cb)/\At u A 0 (.pointer x0)/\At u A 1 (.pointer x1)/\At u A 2 (.pointer N))) ZS (by intro i o ho c hc;rcases i with _|_|_|_|_|_|i<;>simp at ho<;>subst ho<;>cases hc) qg ?_ (λhHeld=>?_)
   ·(try dsimp only);exact⟨a0,aQ,aT,aP,a3⟩
   refine sr 0 5 ?_;refine wpAnyH_ready (rs:=[5]) qg qe ?_;refine Yj (ym.c rfl) (λK p=>?_) Yx;go_simp;(go_at_call 210;refine(aE.o _ f.o.drew aB.o).j ?_;rintro e' w6 ⟨rfl,aV,af⟩);(try go_wp2_with fail);refine p.o _ _ (by(try dsimp only);exact⟨(R.o.d f.o.drew).O af |>.cell a0,(R.o.d f.o.drew).O af |>.cell aQ,(R.o.d f.o.drew).O af |>.cell aT,(R.o.d f.o.drew).O af |>.cell aP,(R.o.d f.o.drew).O af |>.cell a3⟩) λhHeld=>?_;clear p K;(try simp only[pA,pZ,pS,pN]);refine wpAnyH_done qg ?_ _;refine Ya ?_;have aN:Av (λg=>g=nb∨g=wb) t w6:=(Av.m f.o).c ((Av.m An.drew).c af);have a4:CK t w6:=R.o.O aN;exact⟨r6 aN (λg hg=>by rcases hg with rfl|rfl;exact I.o.low.1;exact I.o.low.2.1),a4.i,⟨_,_,λy=>by rw[yn,aI.o y,yF,yF,yn,or_assoc,show [(x0,x1,N)]=(List.map (λy:ES { Z with pb:=b.heap.size,sb:=b.heap.size+1 }=>y.1) [x]).map (Ab Z.adr) by rw[yq,YB,yq,YB,show(x0,x1,N)=Ab Z.adr x.1 from aR.o]],aX.o.bG aB.o,aV⟩,I.o.O.c a4,I.o.mp.c aN,I.o.low⟩
 case done=>
  rintro D ys t hD hS s p;obtain⟨E,HK,HS⟩:=AA s p hS;clear hS s p;go_wp2_with fail;refine Sl (B:=r.heap.size) [D] _ ⟨qe,λD' bc=>by rw[yp.1 bc];exact⟨hD,HK.o⟩⟩ ?_;intro W2 G;obtain⟨J,M1,az,au,ah⟩:=E.o.ex;refine⟨_,results_none rfl _ _ _,rfl,⟨J,M1,λy=>?_,au,G.bT _ _ _ _ ah.q,ah.now.same (G.C.block nb E.o.low.1) G.bT,ah.ab.same (G.C.block wb E.o.low.2.1) G.bT,ah.ne⟩,(CK.m z.o).c (E.o.O.c G.bT),⟨((z.o.j (yk _)).c E.o.mp.rest).c (G.C.j (yk _)),λg hg hn=>(G.C.block g (yg hg aF)).c ((E.o.mp.block g (yg hg aF) hn).c (z.o.block g hg))⟩⟩;rw[az y];have e:List.map (λy=>y.1) ys=De Z 0 Z.X []:=HS.o.c EX.o;rw[e]
 case stop=>
  rintro D c pre W _ _ h _;exact h.elim
end
section
attribute [local go_sem ↓] wp_at_zero wp_at_succ
def iC{w p q}(b:A5 w p)(a:A5 w q):(binOp .eql 106 (.pointer p) (.pointer q)).run prog w=.ok (.bool (decide (p=q))) w:=by
 have h:=RV tys 9999 b a;simp[binOp,Op.equal,Op.maxDepth,h]
def uC(b c)(a:List (Option Addr))(v w)(m:∀(i:Nat)p,a[i]?=some p->At w b i (.pointer p))(l:∀p∈a,A5 w p)(hv:A5 w v)(hl:a.length<=1000) :
  Ca 315 #[.slice (some ⟨b,0,none⟩) a.length c,.pointer v] w λe w'=>∃r:Int,e=.returned (I6 r)/\(0<=r↔v∈a)/\w'=w:=by
 obtain⟨t,u,x⟩:=AA m l hv;clear m l hv;go_enter func315,ntmps315;go_wp2_with fail
 go_loopw [8] (λiv wr=>∃k:Nat,iv=I6 (k:Int)/\k<=a.length/\v ∉ a.take k/\wr=w) (mz a.length)
 case atStart=>exact⟨0,rfl,yk _,qe,rfl⟩
 case round=>
  obtain⟨k,rfl,A,d,q⟩:=hrel;subst q;by_cases s:k<a.length
  .obtain⟨p,O⟩:=Ba s;have B:=t.o k p O;have z:(0:Int)<=(k:Int):=qd;have y:(k:Int)<(a.length:Int):=qd;obtain⟨g,n⟩:=Ah d O;have j:=iC x.o (u.o p (yd O));clear d O;by_cases e:v=p
   .have f:=Aa e;rw[decide_eq_true e]at j;clear e;go_wp2_with fail;refine bodyPost_ret (v:=I6 (k:Int)) (by simp[results,results315,go_sem]) rfl ⟨_,rfl,⟨λ_=>by rw[f.o];exact yd n.o,λ_=>qd⟩,rfl⟩
   have f:=Aa e;rw[decide_eq_false e]at j;clear e;go_wp2_with fail;go_roundw
   case rel=>
    refine⟨k+1,qm,qd,?_,trivial⟩;rw[yZ,n.o];simp only[Option.toList_some,yn,yp,not_or];exact⟨g.o,f.o⟩
   case measure=>(simp;omega)
  obtain rfl:k=a.length:=qd;have y:¬(a.length:Int)<(a.length:Int):=qd;have g:=Aa d;clear d;go_wp2_with fail;refine bodyPost_ret (v:=I6 (-1)) (by simp[results,results315,go_sem]) rfl ⟨_,rfl,⟨λh=>qd,λh=>?_⟩,rfl⟩;have:=g.o;rw[yV]at this;exact absurd h this
def zjn(b c)(a:List (Option Addr))(v w)(k:∀(i:Nat)p,a[i]?=some p->At w b i (.pointer p))(g:∀p∈a,A5 w p)(hv:A5 w v)(hl:a.length<=1000) :
  Ca 314 #[.slice (some ⟨b,0,none⟩) a.length c,.pointer v] w λe w'=>e=.returned (.bool (decide (v∈a)))/\w'=w:=by
 have l:=Aa (uC b c a v w k g hv hl);obtain⟨d,hd⟩:∃d,d=decide (v∈a):=⟨_,rfl⟩
 rw[<-hd];have m:=Aa hd;clear k g hv hd;go_enter func314,ntmps314;go_wp2_with fail;refine l.o.j ?_;rintro e q ⟨r,rfl,f,rfl⟩;have n:decide (0<=r)=d:=by
  rw[m.o,KF,decide_eq_true_eq,decide_eq_true_eq];exact f
 clear f;go_wp2_with fail;exact Mn
def zoC(f b k v w)(m:AG w (f,b,k))(hv:A5 w v) :
  Ca 313 #[.agg #[.pointer f,.pointer b,.pointer k],.pointer v] w λe w'=>e=.returned (.bool (decide (v∈[f,b,k])))/\Bw w w':=by
 obtain⟨A,y⟩:=Ah m hv;clear m hv;obtain⟨d,hd⟩:∃d,d=decide (v∈[f,b,k]):=⟨_,rfl⟩
 rw[<-hd];have C:=Aa hd;clear hd;go_enter func313,ntmps313;go_upto_region 1 with fail;refine Be ?_;intro q O u;obtain⟨x,z,t2⟩:=Da u rfl;have B:=Aa O;have l:=A.o.d O;have n:=Aa (zjn w.heap.size 3 [f,b,k] v q (λi p a=>by
  match i,a with
  |0,a=>cases a;exact x
  |1,a=>cases a;exact z
  |2,a=>cases a;exact t2
  |i+3,a=>simp at a) (λp s=>by
   simp only[yG,YF,or_false]at s;rcases s with rfl|rfl|rfl
   .exact l.1
   .exact l.2.1
   exact l.2.2) (y.o.iter λg c t r=>(O.block g (Ak r)).c r) qe)
 rw[<-C.o]at n;have D:w.heap.size<q.heap.size:=Ak u;clear O l;go_wp2_with fail;refine n.o.j ?_;rintro e E ⟨rfl,rfl⟩;go_wp2_with fail;go_ret;exact⟨rfl,B.o⟩
def vC(b k i T c f n j l w)(m:w.heap[n]?=some (.cells #[.bool c.cp.neg,I6 (c.cp.N:Int),Pn c.node,.slice c.ta c.cp.x.length c.tc] 197 (0,0)))(g:w.heap[j]?=some (.cells #[.pointer l] 106 (0,0)))(s:En w (.pointer b) (.pointer k) (.pointer i) T)(r:DS w c.ta c.cp.x)(hF:DB w (.pointer l) f)(hl:c.cp.x.length<=1048576)(a:∀t∈c.cp.x,t.V T f) :
  Ca 311 #[.agg #[.pointer b,.pointer k,.pointer i],Pn n,Pn j] w λe w'=>e=.returned (.bool (H9 c T f))/\Bw w w':=by
 have q:=Aa (λu(hu:Bw w u)=>MZ (.bool c.cp.neg) (I6 (c.cp.N:Int)) (Pn c.node) (.pointer b) (.pointer k) (.pointer i) (.pointer l) c.cp.x c.ta c.tc T f u (r.d hu) (s.d hu) (hF.d hu) hl a);obtain⟨d,hd⟩:∃d,d=H9 c T f:=⟨_,rfl⟩
 rw[show c.cp.x.all (Ap T f)=d from hd.y]at q;rw[<-hd];clear hd a s r hF;go_enter func311,ntmps311;go_upto_region 1 with fail;refine Be ?_;intro A O v;obtain⟨C,D,t2⟩:=Da v rfl;obtain⟨I,H,B,J⟩:=Ay ((O.block n (Ak m)).c m);have G:=AV ((O.block j (Ak g)).c g);have p:=Aa O;clear O v m g;go_wp2_with fail;refine(q.o A p.o).rtn λE z=>?_;go_wp2_with fail;go_ret;exact⟨rfl,p.o.thn z⟩
def vG(b a g j f w)(i:w.heap[j]?=some (.cells #[.pointer f] 106 (0,0)))(l:AG w (b,a,g))(hv:A5 w f) :
  Ca 312 #[.agg #[.pointer b,.pointer a,.pointer g],Pn j] w λe w'=>e=.returned (.bool (decide (f∈[b,a,g])))/\Bw w w':=by
 have p:=Aa (λu(hu:Bw w u)=>zoC b a g f u (l.d hu) (hv.O (CK.m hu)));obtain⟨d,hd⟩:∃d,d=decide (f∈[b,a,g]):=⟨_,rfl⟩
 rw[<-hd]at p⊢;clear hd l hv;go_enter func312,ntmps312;go_upto_region 1 with fail;refine Be ?_;intro r O k;obtain⟨s,t,t2⟩:=Da k rfl;have x:=AV ((O.block j (Ak i)).c i);have n:=Aa O;clear O k i;go_wp2_with fail;refine(p.o r n.o).rtn λv q=>?_;go_wp2_with fail;go_ret;exact⟨rfl,n.o.thn q⟩
structure TD where
 adr:F->Addr
 U:List F
 X:List Cx
 vw:Nat->Option Addr × Nat × List F
 ca:Option Addr
 cc:Nat
 va:Option Addr
 n:Nat
 vc:Nat
 mb:Nat
 cb:Nat
 nb:Nat
 wb:Nat
def TD.g(D:TD)(c:Cx):List F:=(D.vw c.node).2.2
structure Fg(D:TD):Prop where
 small:∀c∈D.X,c.cp.x.length<=6/\c.cp.F.x.length<=1048576
 X6:D.X.length<=6
 few:∀c∈D.X,(D.g c).length<=1000
 sub:∀c∈D.X,∀x∈D.g c,x∈D.U/\Ae c.cp.F x=true
 sr:Dz (D.X.map (BB D.U)) []
 inj:Bs D.adr D.U
structure Fz(D:TD) (w:World):Prop where
 tb:NM w D.mb (.slice D.ca D.X.length D.cc) (.slice D.va D.n D.vc) D.cb
 cx:∀(k:Nat)(c:Cx),D.X[k]?=some c->Dp D.adr D.vw D.ca w k c
 nd:∀c∈D.X,∃a n,CP w c.node c.cp.F a n
 us:Br D.adr D.U w
def Fz.O{D u w}(h:Fz D u)(b:CK u w):Fz D w:=⟨b _ _ _ _ h.tb,λk c d=>(h.cx k c d).O b,λc d=>by
 obtain⟨a,n,e⟩:=h.nd c d;exact⟨a,n,e.O b⟩,h.us.O b⟩
def TD.Z(D:TD)(h:Fg D)(sa:Int)(sf:Option F)(hs:∀f,sf=some f->f∈D.U):SN:={ adr:=D.adr,U:=D.U,l:=0,pb:=0,yb:=0,sb:=0,xb:=0,ca:=D.ca,cc:=D.cc,vv:=.slice D.va D.n D.vc,X:=D.X,vw:=D.vw,sa:=sa,sf:=sf,small:=λc hc=>(h.small c hc).1,X6:=h.X6,few:=h.few,sub:=λc hc f hf=>(h.sub c hc f hf).1,sfU:=hs }
structure AK(D:TD) (old:List Kt) (S:List F->Prop) (w:World):Prop where
 ex:∃K M,Hm D.adr S K/\BS old K M/\CS w D.cb D.nb D.wb K M
def AK.C{D old S u w}(h:AK D old S u)(c:Bw u w):AK D old S w:=by
 obtain⟨K,M,e,a,b⟩:=h.ex;exact⟨K,M,e,a,b.d c⟩
def AK.congr{D old S O w}(h:AK D old S w)(d:∀T,S T↔O T):AK D old O w:=by
 obtain⟨K,M,c,a,b⟩:=h.ex;exact⟨K,M,c.congr d,a,b⟩
def AK.S(D:TD)(g:Nat):Prop:=g=D.nb∨g=D.wb
def oQ(h:P:=by simp only[yY];exact⟨λ⟨W,e,h⟩=>by rw[e];exact h,λh=>⟨V,rfl,h⟩⟩):=h
def pH(h:P:=by
 constructor
 .rintro(⟨T,hT,rfl⟩|hx)
  .exact⟨T,.inl hT,rfl⟩
  obtain⟨T,hT,rfl⟩:=yz.1 hx;exact⟨T,.inr ((hm T).1 hT),rfl⟩
 rintro⟨T,hT|hT,rfl⟩
 .exact .inl ⟨T,hT,rfl⟩
 exact .inr (yz.2 ⟨T,(hm T).2 hT,rfl⟩)
 ):=h
def fU(D)(O:Fg D)(old S)(k:Nat)(c f w)(m:Fz D w)(hS:AK D old S w)(b:D.X[k]?=some c)(af:f∈D.U)(E:Ae c.cp.F f=true) :
  Ca 156 #[Pn D.mb,.agg #[I6 (k:Int),.pointer (some (D.adr f))]] w λe w'=>e=.returned (.tuple #[])/\AK D old (λT=>S T∨NV D.g f k D.X [] T) w'/\CK w w'/\Av (AK.S D) w w':=by
 obtain⟨K,M,t,C,z⟩:=hS.ex;have hs:∀g,some f=some g->g∈D.U:=λg e=>by cases e;exact af
 have ah:IX (D.Z O (k:Int) (some f) hs) 0 D.X []:=Sf _ D.X 0 [] O.sr (λc b x hx=>O.sub c b x hx) (λi d hd e=>by
  have:i=k:=by
   have G:(k:Int)=((0+i:Nat):Int):=e;omega
  subst this;rw[b]at hd;cases hd;exact⟨f,rfl,af,E⟩)
 refine(jd (D.Z O (k:Int) (some f) hs) old K M D.mb D.cb D.nb D.wb D.va D.n D.vc w rfl m.tb m.cx m.us z C ah).j λe w' q=>?_;obtain⟨p,⟨y,M',r,s,A⟩,u,B⟩:=q;refine⟨p,⟨y,M',λx=>?_,s,A⟩,u,B⟩;rw[r x,t x];have hm:∀V,V∈De (D.Z O (k:Int) (some f) hs) 0 D.X []↔NV D.g f k D.X [] V:=λV=>by
  rw[jU _ f rfl D.X 0 k [] V (ye.1 b).1 (by simp[TD.Z])];exact oQ
 exact pH
def fY(D)(B:Fg D)(old S)(p:List F->Bool)(fn:Nat)(g w)(k:Fz D w)(hS:AK D old S w)(c:∀T,S T->T.length<=3/\∀f∈T,f∈D.U)(y:∀args w,(callFunc fn args).run prog w=.ok (.enter fn args) w)(I:∀T,S T->∀u,CK w u->Ca fn (#[AM (Ab D.adr T)]++g) u λe G=>e=.returned (.bool (p T))/\Bw u G) :
  Ca 310 #[Pn D.mb,.func (.func fn) #[] g] w λe w'=>e=.returned (.tuple #[])/\AK D old (λT=>S T/\p T=false) w'/\CK w w'/\Av (AK.S D) w w':=by
 obtain⟨K,M,l,E,z⟩:=hS.ex;obtain⟨TT,i,b⟩:=Hm.dx (adr:=D.adr) (S:=S) (K:=K) (λx a=>(l x).1 a);refine(xL D.adr p old TT K M D.mb D.cb D.nb D.wb fn _ _ g w k.tb z (by rw[i]) E y (λT O u hu=>⟨Ou k.us (c T (b T O)).2,I T (b T O) u hu⟩)).j λe w' q=>?_;obtain⟨m,⟨v,M',n,r,A⟩,t,C⟩:=q;refine⟨m,⟨v,M',λx=>?_,r,A⟩,t,C⟩;rw[n.mem_iff];constructor
 .intro a;obtain⟨T,O,rfl⟩:=yz.1 a;obtain⟨o,s⟩:=yf.1 O;exact⟨T,⟨b T o,by simpa using s⟩,rfl⟩
 rintro⟨T,⟨O,H⟩,rfl⟩;have a:Ab D.adr T∈K:=(l _).2 ⟨T,O,rfl⟩;rw[i]at a;obtain⟨V,d,e⟩:=yz.1 a;have:=JO B.inj (c V (b V d)).2 (c T O).2 (c V (b V d)).1 (c T O).1 e;subst this;exact yU (yf.2 ⟨d,by rw[H];rfl⟩)
def DA.len{D}(O:Fg D){gO f k T}(b:∀c∈D.X,∀x,x∈D.g c↔x∈gO c∨(Ae c.cp.F f=true/\x=f))(h:DA gO D.g f D.X k T):T.length<=3/\∀f∈T,f∈D.U:=by
 have af:∀c∈D.X,∀x∈gO c,x∈D.U/\Ae c.cp.F x=true:=λc d x e=>O.sub c d x ((b c d x).2 (.inl e));rcases h.ch b with h|h
 .have:=LY O.sr af h qe qe;simpa using this
 have:=LY O.sr O.sub h qe qe;simpa using this
def DA.eg{D}(d:Fg D){gO f k c T}(m:∀c∈D.X,∀x,x∈D.g c↔x∈gO c∨(Ae c.cp.F f=true/\x=f))(O:f∈D.U)(b:D.X[k]?=some c)(e:c.cp.neg=true)(n:Ae c.cp.F f=true)(h:DA gO D.g f D.X k T):(LP f k D.X [] T↔H9 c T f=true)/\∀t∈c.cp.x,t.V T f:=by
 have af:∀c∈D.X,∀x∈gO c,x∈D.U/\Ae c.cp.F x=true:=λc b x p=>d.sub c b x ((m c b x).2 (.inl p));rcases h.ch m with h|h
 .have:=S2 b d.sr af O n e h;simpa using this
 have:=S2 b d.sr d.sub O n e h;simpa using this
def zlR:∀args w,(callFunc 311 args).run prog w=.ok (.enter 311 args) w:=enters_of func311 qg rfl
def xD(D)(hD:Fg D)(old gO f w)(hW:Fz D w)(hS:AK D old (BC gO D.X []) w)(hg:∀c∈D.X,∀x,x∈D.g c↔x∈gO c∨(Ae c.cp.F f=true/\x=f))(H:f∈D.U) :
  Ca 306 #[.pointer (some ⟨D.mb,0,none⟩),.pointer (some (D.adr f))] w λe w'=>e=.returned (.tuple #[])/\AK D old (BC D.g D.X []) w'/\CK w w'/\Av (AK.S D) w w':=by
 obtain⟨HW,HS,n,b⟩:=Bn hW hS hg hD;have aZ:=hD.X6;clear hW hS hg hD;have a3:=Im;go_enter func306,ntmps306;go_upto_region 1 with fail;refine Be ?_;intro w1 M aN;obtain⟨Q1,aQ,aR⟩:=AA aN M (HW.o.O (CK.m M));have v0:=AS (L:=[_,_,_]) aR.o.tb (j:=0) rfl;have aJ:=Aa ((HS.o.C M).congr (λT=>(zw (gO:=gO) (gN:=D.g) (f:=f) (X:=D.X) (T:=T)).y));clear M aN HS HW;go_wp2_with fail;clear v0
 go_loopw [12] (λiv wr=>∃k:Nat,iv=.int .i64 (k:Int)/\k<=D.X.length/\AK D old (DA gO D.g f D.X k) wr/\CK w1 wr/\Av (AK.S D) w1 wr) (mz D.X.length)
 case atStart=>exact⟨0,rfl,yk _,aJ.o,λ_ _ _ _ h=>h,Av.refl _ _⟩
 case round=>
  obtain⟨k,rfl,hk,aK,aU,aS⟩:=hrel;obtain⟨K,p,J⟩:=AA aK aU aS;clear aK aU aS aJ;by_cases aX:k<D.X.length
  .obtain⟨c,N⟩:=Ba aX;have aB:=yd N;have z:=aR.o.O p.o;obtain⟨gb,aH,⟨c0,c1,c2,c3⟩,aM,_⟩:=z.cx k c N;rw[aH];obtain⟨na,nn,aO⟩:=z.nd c aB;have z0:(0:Int)<=(k:Int):=qd;have z1:(k:Int)<(D.X.length:Int):=qd;obtain⟨i,a0,HWR⟩:=AA N aM z;have fq:=p.o _ _ _ _ Q1.o;have aP:=Aa (λ(u:World)(hu:Bw wr u)=>OP c.node c.cp.F na nn (.pointer (some (D.adr f))) f u (aO.d hu) ((z.us f H).1.d hu) (b.o.small c aB).2);clear N aH aM z aO;go_upto_region 5 with fail;refine Be ?_;intro w2 I W;obtain⟨aF,Q2⟩:=Ah I W;obtain⟨q,d1,d2,d3⟩:=Ay W;have Z:=(I.block _ (Ak fq)).c fq;have f0:=AV Z;obtain⟨aT,v⟩:=Ah Z (aP.o w2 I);clear I W fq Z aP c0 c1 c2 c3
   cases t:Ae c.cp.F f
   .rw[t]at v;have l:=Aa t;clear t;go_wp2_with fail;refine v.o.rtn λR a=>?_;have O:=Aa (aF.o.thn a);clear a;go_wp2_with fail;go_roundw
    case rel=>exact⟨k+1,qm,qd,(K.o.C O.o).congr (λT=>(zs i.o l.o).y),p.o.c (CK.m O.o),J.o.c (Av.m O.o)⟩
    case measure=>(simp;omega)
   rw[t]at v;have l:=Aa t;clear t;cases s:c.cp.neg
   .rw[s]at q;have B:=Aa s;clear s;go_wp2_with fail;refine v.o.rtn λR a=>?_;have O:=Aa (aF.o.thn a);have aV:=zab a q;have a4:=zab a f0;have aW:=Aa (fU D b.o old (DA gO D.g f D.X k) k c f R (HWR.o.O (CK.m O.o)) (K.o.C O.o) i.o H l.o);clear a q d1 d2 d3 f0;go_wp2_with fail;refine aW.o.rtn λw4⟨A,E,G⟩=>?_;obtain⟨aA,Y,az⟩:=AA A E G;clear A E G;go_wp2_with fail;go_roundw
    case rel=>exact⟨k+1,qm,qd,aA.o.congr (λT=>(uz i.o B.o l.o).y),p.o.c ((CK.m O.o).c Y.o),J.o.c ((Av.m O.o).c az.o)⟩
    case measure=>(simp;omega)
   rw[s]at q;have B:=Aa s;clear s;go_wp2_with fail;refine v.o.rtn λR a=>?_;have O:=Aa (aF.o.thn a);have aV:=zab a q;have aI:=(a.block _ (Ak Q2.o)).c Q2.o;have aL:=(a.block _ (Ak aT.o)).c aT.o;have aY:=Aa (fY D b.o old (DA gO D.g f D.X k) (λT=>H9 c T f) 311 #[.pointer (some ⟨wr.heap.size,0,none⟩),.pointer (some ⟨w.heap.size,0,none⟩)] R (HWR.o.O (CK.m O.o)) (K.o.C O.o) (λT r=>r.len b.o n.o) zlR (λT r u hu=>by
    have hl:=r.len b.o n.o;have aC:=HWR.o.O ((CK.m O.o).c hu);obtain⟨_,_,_,hj,_⟩:=aC.cx k c i.o;exact vC (T[0]?.map D.adr) (T[1]?.map D.adr) (T[2]?.map D.adr) T c f wr.heap.size w.heap.size (some (D.adr f)) u (hu _ _ _ _ aI) (hu _ _ _ _ aL) (PQ aC.us hl.2 hl.1) hj (aC.us f H).1 (yh (b.o.small c aB).1 qh) (r.eg b.o n.o H i.o B.o l.o).2))
   clear a q d1 d2 d3 f0 aI aL;go_wp2_with fail;refine aY.o.rtn λw4⟨A,E,G⟩=>?_;obtain⟨aA,Y,az⟩:=AA A E G;clear A E G;go_wp2_with fail;go_roundw
   case rel=>
    refine⟨k+1,qm,qd,aA.o.congr (λT=>?_),p.o.c ((CK.m O.o).c Y.o),J.o.c ((Av.m O.o).c az.o)⟩;rw[xp n.o i.o B.o l.o];refine and_congr_right λr=>?_;rw[(r.eg b.o n.o H i.o B.o l.o).1];simp
   case measure=>(simp;omega)
  obtain rfl:k=D.X.length:=qd;have z1:¬(D.X.length:Int)<(D.X.length:Int):=qd;go_wp2_with fail;refine bodyPost_end (results_none rfl _ _ _) rfl ⟨rfl,K.o.congr (λT=>vJ n.o),(CK.m aQ.o).c p.o,(Av.m aQ.o).c J.o⟩
def tX{adr}{U T:List F}{f}(j:Bs adr U)(c:T.length<=3/\∀f∈T,f∈U)(l:f∈U):some (adr f)∈[T[0]?.map adr,T[1]?.map adr,T[2]?.map adr]↔f∈T:=by
 have key:∀i:Nat,T[i]?.map adr=some (adr f)->f∈T:=λi a=>by
  obtain⟨g,d,e⟩:=Yd.1 a;have b:=yd d;rw[<-j g (c.2 g b) f l e];exact b
 constructor
 .intro h;simp only[yG,YF,or_false]at h;rcases h with h|h|h
  .exact key 0 h.y
  .exact key 1 h.y
  exact key 2 h.y
 intro h;obtain⟨i,a⟩:=YW h;have O:=(ye.1 a).1
 match i,a,O with
 |0,a,_=>simp[a]
 |1,a,_=>simp[a]
 |2,a,_=>simp[a]
 |k+3,_,O=>omega
def zmN:∀args w,(callFunc 312 args).run prog w=.ok (.enter 312 args) w:=enters_of func312 qg rfl
def vB(D)(R:Fg D)(old gO f w)(hW:Fz D w)(hS:AK D old (BC gO D.X []) w)(hg:∀c∈D.X,∀x,x∈D.g c↔x∈gO c/\x≠f)(Z:∀c∈D.X,∀x∈gO c,x∈D.U/\Ae c.cp.F x=true)(M:f∈D.U) :
  Ca 308 #[Pn D.mb,.pointer (some (D.adr f))] w λe w'=>e=.returned (.tuple #[])/\AK D old (BC D.g D.X []) w'/\CK w w'/\Av (AK.S D) w w':=by
 obtain⟨HW,HS,HG,a3,I⟩:=DE hW hS hg Z R;have a5:=R.X6;have b:∀T,BC gO D.X [] T->T.length<=3/\∀f∈T,f∈D.U:=λT n=>by
  have:=LY R.sr Z n qe qe;simpa using this
 have aC:=Aa b;clear hW hS hg R Z b;have a6:=Im;go_enter func308,ntmps308;go_upto_region 1 with fail;refine Be ?_;intro w0 K aE;have Q0:=Aa aE;have aN:=Aa K;have G:=Aa (HW.o.O (CK.m K));have aP:=Aa (fY D I.o old (BC gO D.X []) (λT=>decide (some (D.adr f)∈[T[0]?.map D.adr,T[1]?.map D.adr,T[2]?.map D.adr])) 312 #[Pn w.heap.size] w0 G.o (HS.o.C K) (λT n=>aC.o T n) zmN (λT n u hu=>by
  have hl:=aC.o T n;have aH:=G.o.O hu;exact vG (T[0]?.map D.adr) (T[1]?.map D.adr) (T[2]?.map D.adr) w.heap.size (some (D.adr f)) u (hu _ _ _ _ aE) (Ou aH.us hl.2) (aH.us f M).2))
 clear K aE HS HW;go_wp2_with fail;refine aP.o.rtn λw1⟨A,af,aB⟩=>?_;have a0:=Aa af;have a4:=Aa aB;have aR:=Aa (G.o.O af);have v0:=AS (L:=[_,_,_]) aR.o.tb (j:=0) rfl;have Q1:=Aa (af _ _ _ _ Q0.o);have aI:=Aa (A.congr (λT=>show(BC gO D.X [] T/\decide (some (D.adr f)∈[T[0]?.map D.adr,T[1]?.map D.adr,T[2]?.map D.adr])=false)↔FC gO D.g f D.X 0 T by
  rw[wD];refine and_congr_right λn=>?_;rw[decide_eq_false_iff_not,tX I.o.inj (aC.o T n) M]))
 clear A af aB Q0 G aP;go_wp2_with fail;clear v0
 go_loopw [15] (λiv wr=>∃k:Nat,iv=I6 (k:Int)/\k<=D.X.length/\AK D old (FC gO D.g f D.X k) wr/\CK w1 wr/\Av (AK.S D) w1 wr) (mz D.X.length)
 case atStart=>exact⟨0,rfl,yk _,aI.o,λ_ _ _ _ h=>h,Av.refl _ _⟩
 case round=>
  obtain⟨k,rfl,hk,aJ,aT,aS⟩:=hrel;obtain⟨Y,p,J⟩:=AA aJ aT aS;clear aJ aT aS aI;by_cases aZ:k<D.X.length
  .obtain⟨c,z⟩:=Ba aZ;have aG:=yd z;have B:=aR.o.O p.o;obtain⟨gb,aF,⟨c0,c1,c2,c3⟩,aY,_⟩:=B.cx k c z;rw[aF];obtain⟨na,nn,aM⟩:=B.nd c aG;have z0:(0:Int)<=(k:Int):=qd;have z1:(k:Int)<(D.X.length:Int):=qd;obtain⟨H,HWR⟩:=Ah z B;have fq:=p.o _ _ _ _ Q1.o;have aO:=Aa (λ(u:World)(hu:Bw wr u)=>OP c.node c.cp.F na nn (.pointer (some (D.adr f))) f u (aM.d hu) ((B.us f M).1.d hu) (I.o.small c aG).2);clear z aF aY B aM;go_upto_region 5 with fail;refine Be ?_;intro w2 N aQ;have E:=Aa N;obtain⟨d0,d1,d2,d3⟩:=Ay aQ;have aK:=(N.block _ (Ak fq)).c fq;have f0:=AV aK;have ah:=Aa (aO.o w2 N);clear N aQ fq aK aO c0 c1 c2 c3
   cases r:c.cp.neg
   .rw[r]at d0;have HN:=Aa r;clear r;go_wp2_with fail;go_roundw
    case rel=>exact⟨k+1,qm,qd,(Y.o.C E.o).congr (λT=>(kC H.o (λq=>by rw[HN.o]at q;cases q.1)).y),p.o.c (CK.m E.o),J.o.c (Av.m E.o)⟩
    case measure=>(simp;omega)
   rw[r]at d0;have HN:=Aa r;clear r;cases s:Ae c.cp.F f
   .rw[s]at ah;have W:=Aa s;clear s;go_wp2_with fail;refine ah.o.rtn λw3 t=>?_;have O:=Aa (E.o.thn t);clear t;go_wp2_with fail;go_roundw
    case rel=>exact⟨k+1,qm,qd,(Y.o.C O.o).congr (λT=>(kC H.o (λq=>by rw[W.o]at q;cases q.2)).y),p.o.c (CK.m O.o),J.o.c (Av.m O.o)⟩
    case measure=>(simp;omega)
   rw[s]at ah;have W:=Aa s;clear s;go_wp2_with fail;refine ah.o.rtn λw3 t=>?_;have O:=Aa (E.o.thn t);have a7:=zab t f0;have aW:=Aa (fU D I.o old (FC gO D.g f D.X k) k c f w3 (HWR.o.O (CK.m O.o)) (Y.o.C O.o) H.o M W.o);clear t d0 d1 d2 d3 f0;go_wp2_with fail;refine aW.o.rtn λw4⟨aL,aA,az⟩=>?_;obtain⟨aV,aX,aU⟩:=AA aL aA az;clear aL aA az;go_wp2_with fail;go_roundw
   case rel=>exact⟨k+1,qm,qd,aV.o.congr (λT=>(xG H.o HN.o W.o).y),p.o.c ((CK.m O.o).c aX.o),J.o.c ((Av.m O.o).c aU.o)⟩
   case measure=>(simp;omega)
  obtain rfl:k=D.X.length:=qd;have z1:¬(D.X.length:Int)<(D.X.length:Int):=qd;go_wp2_with fail;refine bodyPost_end (results_none rfl _ _ _) rfl ⟨rfl,Y.o.congr (λT=>vk HG.o (λc z hf=>(a3.o c z f hf).2)),(CK.m aN.o).c (a0.o.c p.o),(Av.m aN.o).c (a4.o.c J.o)⟩
def wT(mb cb a v1 w)(h:NM w mb a v1 cb):Ca 307 #[Pn mb] w λe w'=>e=.returned (Pn cb)/\w'=w:=by
 have b:=AS (L:=[_,_,_]) h (j:=2) rfl;clear h;go_enter func307,ntmps307;go_wp2_with fail;exact bodyPost_ret (by simp[results,results307,go_sem]) rfl ⟨rfl,rfl⟩
def xV(mb cb nb wb d v1 K M w)(h:NM w mb d v1 cb)(a:CS w cb nb wb K M):Ca 309 #[Pn mb] w λe w'=>e=.returned (I6 (K.length:Int))/\w'=w:=by
 have g:=AS (L:=[_,_,_]) h (j:=2) rfl;have f:=AS (L:=[_,_]) a.q (j:=0) rfl;have c:=Vn (P:=prog) (ty:=3) EP a.now;have b:(uv K).length=K.length:=by simp[uv]
 rw[b]at c;simp only[goInt]at c;clear h a b;go_enter func309,ntmps309;go_wp2_with fail;exact bodyPost_ret (by simp[results,results309,go_sem]) rfl ⟨rfl,rfl⟩
end
def CS.aw{S w w' cb nb wb T M}(h:CS w cb nb wb T M)(b:Av S w w')(a:CK w w')(d:¬S nb)(c:¬S wb):CS w' cb nb wb T M:=⟨a _ _ _ _ h.q,h.now.aw b a d,h.ab.aw b a c,h.ne⟩
def VF{adr U cb nb wb S w w'}(b:CK w w')(c:Av S w w'):∀{l:List Ar}{a:CQ l},(∀g,E5 nb wb l g->¬S g)->EE adr U cb nb wb l w a->EE adr U cb nb wb l w' a
 |[],_,hs,h=>CS.aw h c b (hs _ (.inl rfl)) (hs _ (.inr rfl))
 |(.inl _,_)::_,_,hs,h=>⟨h.1.O b,h.2.1.aw c b (hs _ (.inl rfl)),VF b c (λg d=>hs g (.inr d)) h.2.2⟩
 |(.inr _,_)::_,_,hs,h=>⟨h.1.O b,h.2.1.aw c b (hs _ (.inl rfl)),h.2.2.1.aw c b (hs _ (.inr (.inl rfl))),VF b c (λg d=>hs g (.inr (.inr d))) h.2.2.2⟩
def K_:(l:List Ar)->CQ l->List Kt × List (Kt × Int)
 |[],a=>a
 |(.inl _,_)::r,a=>K_ r a.2
 |(.inr _,_)::r,a=>K_ r a.2.2
def RS:(l:List Ar)->CQ l->CQ l
 |[],a=>(a.1,[])
 |(.inl _,_)::r,a=>(a.1,RS r a.2)
 |(.inr _,_)::r,a=>(a.1,a.2.1,RS r a.2.2)
def PE{adr U cb nb wb w}:∀{l:List Ar}{a:CQ l},EE adr U cb nb wb l w a->CS w cb nb wb (K_ l a).1 (K_ l a).2
 |[],_,h=>h
 |(.inl _,_)::r,a,h=>PE (l:=r) (a:=a.2) h.2.2
 |(.inr _,_)::r,a,h=>PE (l:=r) (a:=a.2.2) h.2.2.2
def Ia{nb wb}:∀{l:List Ar},E5 nb wb l nb/\E5 nb wb l wb
 |[]=>⟨.inl rfl,.inr rfl⟩
 |(.inl _,_)::r=>⟨.inr (Ia (l:=r)).1,.inr (Ia (l:=r)).2⟩
 |(.inr _,_)::r=>⟨.inr (.inr (Ia (l:=r)).1),.inr (.inr (Ia (l:=r)).2)⟩
def oU(h:P:=by
 rintro(e|e)
 .exact hw.2.2.2.2.1 (by rw[e];exact Ia.1)
 exact hw.2.2.2.2.1 (by rw[e];exact Ia.2)
 ):=h
def U_{adr U cb nb wb w w'}(b:CK w w')(c:Av (λg=>g=nb∨g=wb) w w'):∀{l:List Ar}{a:CQ l},Iz cb nb wb l->EE adr U cb nb wb l w a->CS w' cb nb wb (K_ l a).1 []->EE adr U cb nb wb l w' (RS l a)
 |[],_,_,_,hc=>hc
 |(.inl d,_)::r,_,hw,h,hc=>by
  have f:¬(d.tb=nb∨d.tb=wb):=by
   exact oU
  exact⟨h.1.O b,h.2.1.aw c b f,U_ b c hw.2.2.2.2.2 h.2.2 hc⟩
 |(.inr d,_)::r,_,hw,h,hc=>by
  have f:¬(d.tb=nb∨d.tb=wb):=by
   exact oU
  have i:¬(d.bb=nb∨d.bb=wb):=by
   rintro(e|e)
   .exact hw.2.2.2.2.2.1 (by rw[e];exact Ia.1)
   exact hw.2.2.2.2.2.1 (by rw[e];exact Ia.2)
  exact⟨h.1.O b,h.2.1.aw c b f,h.2.2.1.aw c b i,U_ b c hw.2.2.2.2.2.2 h.2.2.2 hc⟩
def k9(K):BS K K []:=⟨λ_ h=>absurd h qe,λx=>(Int.sub_self _).y⟩
def Vk{adr old}:∀{l:List Ar}{G TT:List (List F)}{a:CQ l},Gd adr old l G TT a->Gd adr (K_ l a).1 l G TT (RS l a)
 |[],_,_,_,h=>⟨h.1,k9 _⟩
 |(.inl _,_)::_,_,_,_,h=>⟨h.1,Vk h.2⟩
 |(.inr _,_)::_,_,_,_,h=>⟨h.1,h.2.1,Vk h.2.2⟩
def Lv.cq{adr old vw hl}:∀{up:Value}{cs:List Cx}{xs:List CG}{TT:List (List F)}{a:CQ (Au vw hl up cs xs)},xs.length=cs.length->Lv adr old (Au vw hl up cs xs) TT a->(K_ _ a).1.Perm ((TT.flatMap (BK (cs.map (Ce vw)))).map (Ab adr))/\BS old (K_ _ a).1 (K_ _ a).2
 |_,[],[],TT,a,_,h=>by
  have:TT.flatMap (BK (List.map (Ce vw) []))=TT:=by
   exact TM
  rw[this];exact h
 |up,c::cs,x::xs,TT,a,hlen,h=>by
  revert a;rw[Au,<-Qe];cases b:c.cp.neg
  .rw[Ib b,if_neg qh];intro a h;exact Lv.cq Ns h.2
  .rw[Ic b,if_pos rfl];intro a h;exact Lv.cq Ns h.2.2
 |_,[],_::_,_,_,h,_=>by simp at h
 |_,_::_,[],_,_,h,_=>by simp at h
section
attribute [local go_sem ↓] wp_at_zero wp_at_succ
def tV(D)(O:Fg D)(old S w)(b:Fz D w)(hS:AK D old S w) :
  Ca 156 #[Pn D.mb,.agg #[I6 (-1),.pointer none]] w λe w'=>e=.returned (.tuple #[])/\AK D old (λT=>S T∨BC D.g D.X [] T) w'/\CK w w'/\Av (AK.S D) w w':=by
 obtain⟨K,M,r,B,u⟩:=hS.ex;have hs:∀g,(none:Option F)=some g->g∈D.U:=λg e=>by cases e
 have af:IX (D.Z O (-1) none hs) 0 D.X []:=Sf _ D.X 0 [] O.sr (λc C x hx=>O.sub c C x hx) (λi d hd e=>by
  have y:(-1:Int)=((0+i:Nat):Int):=e;omega)
 refine(jd (D.Z O (-1) none hs) old K M D.mb D.cb D.nb D.wb D.va D.n D.vc w rfl b.tb b.cx b.us u B af).j λe w' q=>?_;obtain⟨f,⟨t,M',m,p,z⟩,s,A⟩:=q;refine⟨f,⟨t,M',λx=>?_,p,z⟩,s,A⟩;rw[m x,r x];have hm:∀V,V∈De (D.Z O (-1) none hs) 0 D.X []↔BC D.g D.X [] V:=λV=>by
  rw[VI _ D.X 0 [] V (λi _ e=>by
   have y:(-1:Int)=((0+i:Nat):Int):=e;omega)]
  exact oQ
 exact pH
structure LF(D:TD) (w:World):Prop where
 cx:∀(k:Nat)(c:Cx),D.X[k]?=some c->Dp D.adr D.vw D.ca w k c
 nd:∀c∈D.X,∃a n,CP w c.node c.cp.F a n
 us:Br D.adr D.U w
def LF.O{D u w}(h:LF D u)(d:CK u w):LF D w:=⟨λk c b=>(h.cx k c b).O d,λc b=>by
 obtain⟨a,n,e⟩:=h.nd c b;exact⟨a,n,e.O d⟩,h.us.O d⟩
def jH:BS [] [] []:=⟨λy a=>by simp at a,λx=>rfl⟩
def Av.aO{S w u v}(h:Bw w u)(k:Av S u v)(b:∀g,S g->w.heap.size<=g):Bw w v:=
 ⟨k.rest.os.c h.os,k.rest.tape.c h.tape,k.rest.output.c h.output,yh h.size k.rest.size,λg a=>(k.block g (yg a h.size) (λq=>by have:=b g q;omega)).c (h.block g a)⟩
def zkx(D)(hD:Fg D)(w)(J:LF D w) :
  Ca 93 #[.agg #[.slice D.ca D.X.length D.cc,.slice D.va D.n D.vc]] w λe w'=>∃mb cb nb wb,e=.returned (.iface 256 (Pn mb))/\(w.heap.size<=mb/\w.heap.size<=cb/\w.heap.size<=nb/\w.heap.size<=wb)/\Fz { D with mb:=mb,cb:=cb,nb:=nb,wb:=wb } w'/\AK { D with mb:=mb,cb:=cb,nb:=nb,wb:=wb } [] (BC D.g D.X []) w'/\Bw w w':=by
 obtain⟨HW,b⟩:=Ah J hD;clear J hD;go_enter func93,ntmps93;go_upto_region 1 with fail;refine Be ?_;intro q z H;obtain⟨C,p1⟩:=Az H;have p:=Aa z;clear z H
 go_region_held3 (λu=>At u w.heap.size 0 (.slice D.ca D.X.length D.cc)/\At u w.heap.size 1 (.slice D.va D.n D.vc))
  ((go_split_ands;first|done|(refine⟨?_,?_⟩<;>first|assumption|with_reducible exact zab ah qk|exact zab Aj aB|exact zab Aj ax|exact zab An.drew qk)))
  (first|(go_at_call 153;refine(nS _).j ?_;rintro e f ⟨cb,nb,wb,rfl,L,K,E,N,b5,B,U,ah⟩;have aB:=zab ah C;have ax:=zab ah p1)|fail)
 rename_i ar;clear ar C p1 aB ax;have aM:q.heap.size<=cb:=L;have aO:q.heap.size<=nb:=K;have aN:q.heap.size<=wb:=E;have Z:=Aa (show Bw w f from p.o.drew.c (ah.j (show w.heap.size<=q.drew.heap.size from p.o.size)));have aa:=p.o.size;have aH:=Z.o.size;have W:=Aa (show CS f cb nb wb [] [] from⟨b5,B,U,N⟩);clear L K E N b5 B U ah p;go_upto_region 2 with fail;refine Be ?_;intro t r Y;obtain⟨G,y,aF⟩:=AA (Z.o.thn r) (show NM t f.heap.size (.slice D.ca D.X.length D.cc) (.slice D.va D.n D.vc) cb from Y) (W.o.d r);clear r Y W;have af:=Aa (HW.o.O (CK.m G.o));have A:=Aa (λ(u:World)(hu:Bw t u)=>tV { D with mb:=f.heap.size,cb:=cb,nb:=nb,wb:=wb } ⟨b.o.small,b.o.X6,b.o.few,b.o.sub,b.o.sr,b.o.inj⟩ [] (λ_=>False) u ⟨(hu.block _ (Ak y.o)).c y.o,(af.o.O (CK.m hu)).cx,(af.o.O (CK.m hu)).nd,(af.o.O (CK.m hu)).us⟩ ⟨[],[],λx=>qe,jH,aF.o.d hu⟩);go_wp2_with fail;refine(iB t).rtn λw4 s=>?_;obtain⟨aK,M⟩:=Ah (A.o w4 s) s;clear s A;go_wp2_with fail;refine aK.o.rtn λw5⟨az,R,I⟩=>?_;obtain⟨aL,aJ,aI⟩:=AA az R I;clear az R I;go_wp2_with fail;go_ret;have O:=(CK.m M.o).c aJ.o;refine⟨f.heap.size,cb,nb,wb,rfl,⟨aH,qd,qd,qd⟩,⟨O _ _ _ _ y.o,(af.o.O O).cx,(af.o.O O).nd,(af.o.O O).us⟩,aL.o.congr (λT=>by simp;rfl),?_⟩;refine Av.aO (G.o.thn M.o) aI.o (λg hg=>?_);rcases hg with e|e
 .have e:g=nb:=e;omega
 have e:g=wb:=e;omega
end
structure TC where
 X:List Cx
 ca:Option Addr
 cc:Nat
 va:Option Addr
 n:Nat
 vc:Nat
 mb:Nat
 cb:Nat
 nb:Nat
 wb:Nat
def TC.D(t:TC)(adr:F->Addr)(U:List F)(vw:Vw):TD:=⟨adr,U,t.X,vw,t.ca,t.cc,t.va,t.n,t.vc,t.mb,t.cb,t.nb,t.wb⟩
abbrev MK:=(RD × Option Addr) ⊕ TC
namespace MK
def X:MK->List Cx
 |.inl (R,_)=>R.X
 |.inr t=>t.X
def ca:MK->Option Addr
 |.inl (_,c)=>c
 |.inr t=>t.ca
def cb:MK->Nat
 |.inl (R,_)=>R.cb
 |.inr t=>t.cb
def nb:MK->Nat
 |.inl (R,_)=>R.nb
 |.inr t=>t.nb
def wb:MK->Nat
 |.inl (R,_)=>R.wb
 |.inr t=>t.wb
def S:MK->Nat->Prop
 |.inl (R,_),g=>R.S g
 |.inr t,g=>g=t.nb∨g=t.wb
def val:MK->Value
 |.inl (R,_)=>.iface 248 (.pointer (some ⟨R.rb,0,none⟩))
 |.inr t=>.iface 256 (.pointer (some ⟨t.mb,0,none⟩))
def Ok:MK->Prop
 |.inl (R,_)=>∀U,Js R U
 |.inr t=>(∀c∈t.X,c.cp.x.length<=6/\c.cp.F.x.length<=1048576)/\t.X.length<=6/\∀U,Dz (t.X.map (BB U)) []
def St(adr:F->Addr)(U:List F)(vw:Vw)(g:Cx->List F)(old:List Kt)(w:World):MK->Prop
 |.inl (R,_)=>EF R adr U vw g old w
 |.inr t=>Fz (t.D adr U vw) w/\AK (t.D adr U vw) old (BC g t.X []) w
end MK
structure GM(m:MK) (adr:F->Addr) (U:List F) (vw:Vw) (w:World):Prop where
 cx:∀(k:Nat)(c:Cx),m.X[k]?=some c->Dp adr vw m.ca w k c
 nd:∀c∈m.X,∃a n,CP w c.node c.cp.F a n
 us:Br adr U w
def GM.O{m adr U vw u w}(h:GM m adr U vw u)(d:CK u w):GM m adr U vw w:=⟨λk c b=>(h.cx k c b).O d,λc b=>by
 obtain⟨a,n,e⟩:=h.nd c b;exact⟨a,n,e.O d⟩,h.us.O d⟩
def iE{t adr U vw}(h:MK.Ok (.inr t))(b:Bs adr U)(hv:EG U t.X (gV vw)):Fg (t.D adr U vw):=
 ⟨h.1,h.2.1,λc a=>yh (hv c a).2.2 qd,λc a x d=>yf.1 ((hv c a).1 x d),h.2.2 U,b⟩
def MK.St.keep{m:MK}{adr U vw g old S w w'}(h:m.St adr U vw g old w)(b:CK w w')(i:Av S w w')(f:∀x,m.S x->¬S x):m.St adr U vw g old w':=by
 cases m with
 |inl O=>
  obtain⟨R,c⟩:=O;obtain⟨⟨a,e,d⟩,j⟩:=h;exact⟨⟨a,VF b i (λg o=>f g (G_.1 o)) e,d⟩,b _ _ _ _ j⟩
 |inr t=>
  obtain⟨e,d⟩:=h;obtain⟨K,M,n,l,k⟩:=d.ex;exact⟨e.O b,⟨K,M,n,l,k.aw i b (f _ (.inl rfl)) (f _ (.inr rfl))⟩⟩
def UW{adr U cb nb wb w}:∀{l:List Ar}{a:CQ l},EE adr U cb nb wb l w a->∀n∈l,Pz adr U w n
 |[],_,_,n,b=>absurd b (by simp)
 |(.inl d,fs)::r,a,h,n,b=>by
  rcases yG.1 b with rfl|b
  .exact h.1
  .exact UW (l:=r) (a:=a.2) h.2.2 n b
 |(.inr d,fs)::r,a,h,n,b=>by
  rcases yG.1 b with rfl|b
  .exact h.1
  exact UW (l:=r) (a:=a.2.2) h.2.2.2 n b
structure Pf(S:Nat->Prop) (w w':World):Prop where
 kept:∀(k:Nat)(c:Array Value)(t:TypeId)(fr:Nat × Nat),w.heap[k]?=some (.cells c t fr)->(t=145∨t=263∨t=339∨t=336∨t=252∨t=258)->w'.heap[k]?=some (.cells c t fr)
 maps:∀(k:Nat)es cl,S k->w.heap[k]?=some (.map es cl)->w'.heap[k]?=some (.map es cl)
def Dr.k{base S w w'}(h:Dr base w w'):Pf S w w':=⟨λk c t b a ht=>h.kept k c t b a qx qx,λk _ _ _ a=>h.maps k _ a (λ_ _ _ e=>qo)⟩
def Ag.fk{S w w' b L}(h:Ag w b L)(d:Pf S w w')(hS:S b):Ag w' b L:=by
 obtain⟨es,a,j,i⟩:=h.N;exact⟨⟨es,a,d.maps b _ _ hS j,i⟩,h.nd,λy e=>(h.ok y e).aV λg c f=>d.kept g c _ _ f (.inl rfl)⟩
def CS.fk{S w w' cb nb wb T M}(h:CS w cb nb wb T M)(a:Pf S w w')(c:S nb)(b:S wb):CS w' cb nb wb T M:=⟨a.kept _ _ _ _ h.q (.inr (.inl rfl)),h.now.fk a c,h.ab.fk a b,h.ne⟩
def j6{S adr adr' U i vw vw' w w' hl}(b:Pf S w w')(f:Br adr' i w'):∀{up:Value}{cs:List Cx}{xs:List CG},(∀c∈cs,DS w' c.ta c.cp.x/\At w' c.node 4 (.slice (vw' c.node).1 (vw' c.node).2.2.length (vw' c.node).2.1)/\Ho w' (vw' c.node).1 (vw' c.node).2.2 adr')->(∀n∈Au vw hl up cs xs,Pz adr U w n)->∀n∈Au vw' hl up cs xs,Pz adr' i w' n
 |_,[],[],_,_,n,a=>by simp[Au]at a
 |_,[],_::_,_,_,n,a=>by simp[Au]at a
 |_,_::_,[],_,_,n,a=>by simp[Au]at a
 |up,c::cs,x::xs,hc,h,n,a=>by
  rw[Au]at h a
  obtain⟨k,j,g⟩:=hc c qe
  rcases yG.1 a with rfl|a
  .have O:=h _ Y6
   cases e:c.cp.neg
   .rw[Ib e]at O⊢
    exact⟨b.kept _ _ _ _ O.q qe,j,g,k,f⟩
   rw[Ic e]at O⊢
   exact⟨b.kept _ _ _ _ O.q qe,j,g,k,f⟩
  exact j6 b f (λd hd=>hc d IP) (λn a=>h n (YH _ a)) n a
def MK.St.bq{m adr adr' U u vw vw' g old w w'}(h:m.St adr U vw g old w)(E:m.Ok)(O:∀f∈U,adr' f=adr f)(r:EG U m.X g)(p:GM m adr' u vw' w')(hf:Pf m.S w w'):m.St adr' u vw' g old w':=by
 cases m with
 |inl G=>
  obtain⟨R,c⟩:=G;obtain⟨⟨a,q,A⟩,z⟩:=h;have C:Js R U:=E U;have af:∀n∈R.l vw',Pz adr' u w' n:=j6 hf p.us (λc D=>by
   obtain⟨k,hk⟩:=YW D;obtain⟨g,_,_,W,J,q6⟩:=p.cx k c hk;exact⟨W,J,q6⟩) (UW q)
  obtain⟨I,s,B⟩:=FV (Sx:=R.S) O (λb L hS H=>Ag.fk H hf hS) (λK M Z=>CS.fk Z hf (G_.1 (Ia (l:=R.l vw)).1) (G_.1 (Ia (l:=R.l vw)).2)) (R.l vw) (R.l vw') (R.X.map g) (R.X.map (λc:Cx=>U.filter (Ae c.cp.F))) [[]] a (λg r=>G_.1 r) lB q A af (λT d=>by
   rw[yp.1 d];exact Pv C.len C.sr qe qe) (EG.sub r) (by rw[yt];exact(VK C.len).y)
  exact⟨⟨I,s,B⟩,z.same ((hf.kept _ _ _ _ z qe).c z.y)⟩
 |inr t=>
  obtain⟨q,A⟩:=h;obtain⟨K,M,s,B,Y⟩:=A.ex;refine⟨⟨hf.kept _ _ _ _ q.tb qe,p.cx,p.nd,p.us⟩,⟨K,M,λx=>?_,B,Y.fk hf (.inl rfl) (.inr rfl)⟩⟩;have key:∀T,BC g t.X [] T->Ab adr' T=Ab adr T:=λT d=>OI λf hf=>O f ((LY (E.2.2 U) (λc D x N=>yf.1 ((r c D).1 x N)) d qe qe).2 f (by simpa using hf));rw[s x];constructor
  .rintro⟨T,d,e⟩;exact⟨T,d,e.c (key T d).y⟩
  rintro⟨T,d,e⟩;exact⟨T,d,e.c (key T d)⟩
def CK.aA{nb wb w w' cb T M}(h:CS w cb nb wb T M)(d:Av (λg=>g=nb∨g=wb) w w'):CK w w':=λg c t b a=>by
 refine(d.block g (Ak a) ?_).c a;rintro(e|e)
 .exact h.now.aD c t b (e▸a)
 exact h.ab.aD c t b (e▸a)
def MK.cU:MK->Nat
 |.inl _=>301
 |.inr _=>306
def MK.cV:MK->Nat
 |.inl _=>303
 |.inr _=>308
def MK.cW:MK->Nat
 |.inl _=>304
 |.inr _=>309
def MK.dl:MK->Nat
 |.inl _=>302
 |.inr _=>307
def MK.ptr:MK->Value
 |.inl (R,_)=>.pointer (some ⟨R.rb,0,none⟩)
 |.inr t=>.pointer (some ⟨t.mb,0,none⟩)
def xF{p f g v}(h:FU 1 p f g v)(x):x∈v↔x∈g∨(p=true/\x=f):=by
 unfold FU at h;cases p
 .rw[if_neg qh]at h;subst h;simp
 rw[if_pos rfl,if_pos rfl]at h;rw[h.mem_iff,yG];constructor
 .rintro(e|e)
  .exact .inr ⟨rfl,e⟩
  exact .inl e
 rintro(e|⟨_,e⟩)
 .exact .inr e
 exact .inl e
def vI{p f g v}(h:FU (-1) p f g v)(a:g.Nodup)(b:∀x∈g,x=f->p=true)(x):x∈v↔x∈g/\x≠f:=by
 unfold FU at h;cases p
 .rw[if_neg qh]at h;subst h;exact⟨λq=>⟨q,λe=>by have:=b x q e;cases this⟩,λq=>q.1⟩
 rw[if_pos rfl,if_neg qh]at h;have O:=h.nodup_iff.1 a;rw[h.mem_iff,yG];constructor
 .intro q;exact⟨.inr q,λe=>(y9.1 O).1 (e▸q)⟩
 rintro⟨q|q,e⟩
 .exact absurd q e
 exact q
def ub(m)(d:m.Ok)(adr U)(b:Bs adr U)(vw)(O:EG U m.X (gV vw))(g)(n:EG U m.X g)(old f)(i:f∈U)(w)(hS:m.St adr U vw g old w)(o:GM m adr U vw w)(k:∀c∈m.X,FU 1 (Ae c.cp.F f) f (g c) (gV vw c)) :
  Ca m.cU #[m.ptr,.pointer (some (adr f))] w λe w'=>e=.returned (.tuple #[])/\m.St adr U vw (gV vw) old w'/\CK w w'/\Av m.S w w':=by
 cases m with
 |inl l=>
  obtain⟨R,c⟩:=l;exact xJ R.rb _ (λw w'=>EF R adr U vw (gV vw) old w'/\CK w w'/\Av R.S w w') w (kR R adr U (d U) b vw O g n old 1 (.inl rfl) f i w hS (λc a=>⟨o.nd c a,k c a⟩))
 |inr t=>
  refine(xD (t.D adr U vw) (iE d b O) old g f w hS.1 hS.2 (λc a x=>xF (k c a) x) i).j λe w' q=>?_;exact⟨q.1,⟨hS.1.O q.2.2.1,q.2.1⟩,q.2.2.1,q.2.2.2⟩
def zL(m)(i:m.Ok)(adr U)(d:Bs adr U)(vw)(O:EG U m.X (gV vw))(g)(b:EG U m.X g)(old f)(l:f∈U)(w)(hS:m.St adr U vw g old w)(s:GM m adr U vw w)(n:∀c∈m.X,FU (-1) (Ae c.cp.F f) f (g c) (gV vw c)) :
  Ca m.cV #[m.ptr,.pointer (some (adr f))] w λe w'=>e=.returned (.tuple #[])/\m.St adr U vw (gV vw) old w'/\CK w w'/\Av m.S w w':=by
 cases m with
 |inl o=>
  obtain⟨R,c⟩:=o;exact ue R.rb _ (λw w'=>EF R adr U vw (gV vw) old w'/\CK w w'/\Av R.S w w') w (kR R adr U (i U) d vw O g b old (-1) (.inr rfl) f l w hS (λc a=>⟨s.nd c a,n c a⟩))
 |inr t=>
  have k:∀c∈t.X,∀x∈g c,x∈U/\Ae c.cp.F x=true:=λc a x p=>yf.1 ((b c a).1 x p);refine(vB (t.D adr U vw) (iE i d O) old g f w hS.1 hS.2 (λc a x=>vI (n c a) (b c a).2.1 (λy r e=>e▸(k c a y r).2) x) k l).j λe w' q=>?_;exact⟨q.1,⟨hS.1.O q.2.2.1,q.2.1⟩,q.2.2.1,q.2.2.2⟩
def Xw(m:MK){adr U vw g old w}(hS:m.St adr U vw g old w):Ca m.dl #[m.ptr] w λe w'=>e=.returned (Pn m.cb)/\w'=w:=by
 cases m with
 |inl O=>
  obtain⟨R,c⟩:=O;exact re R vw w hS.2
 |inr t=>exact wT t.mb t.cb _ _ w hS.1.tb
def lY{α β:Type}(h:α->List β):∀l:List α,l.Nodup->(∀x∈l,(h x).Nodup)->(∀x∈l,∀y∈l,∀z,z∈h x->z∈h y->x=y)->(l.flatMap h).Nodup
 |[],_,_,_=>by simp
 |x::l,hn,h1,h2=>by
  rw[yL]
  refine yK.2 ⟨h1 x (by simp),lY h l (y9.1 hn).2 (λy hy=>h1 y (by simp[hy])) (λy hy z O=>h2 y (by simp[hy]) z (by simp[O])),λa d b f e=>?_⟩
  obtain⟨y,hy,c⟩:=Yo.1 f
  have:=h2 x qe y Jc a d (e▸c)
  exact(y9.1 hn).1 (this▸hy)
def Lm{vw}:∀(cs:List Cx)(T V:List F),V∈BK (cs.map (Ce vw)) T↔∃W,V=T++W/\BC (gV vw) cs T W
 |[],T,V=>by
  simp only[YB,BK,yp,BC,E7]
  exact⟨λh=>⟨[],by simp[h],rfl⟩,λ⟨W,h,e⟩=>by rw[h,e,yQ]⟩
 |c::cs,T,V=>by
  have ih:=λT=>Lm (vw:=vw) cs T V
  rw[yq]
  cases d:c.cp.neg
  .rw[V2 (show(Ce vw c).neg=false from d),Yo]
   constructor
   .rintro⟨f,i,a⟩
    split at a
    .rename_i g
     obtain⟨W,rfl,b⟩:=(ih _).1 a
     exact⟨f::W,qe,(Ha (show BT c=false from d)).2 ⟨f,W,rfl,i,g,b⟩⟩
    simp at a
   rintro⟨W,rfl,b⟩
   obtain⟨f,k,rfl,i,g,O⟩:=(Ha (show BT c=false from d)).1 b
   exact⟨f,i,by rw[if_pos (show(Ce vw c).x.all (Ap T f)=true from g)];exact(ih _).2 ⟨k,qe,O⟩⟩
  rw[Xe (show(Ce vw c).neg=true from d)]
  constructor
  .intro a
   split at a
   .simp at a
   rename_i g
   obtain⟨W,rfl,b⟩:=(ih _).1 a
   exact⟨W,rfl,(GW (show BT c=true from d)).2 ⟨Mb.1 (Bool.eq_false_iff.2 g),b⟩⟩
  rintro⟨W,rfl,b⟩
  obtain⟨j,O⟩:=(GW (show BT c=true from d)).1 b
  have l:(Ce vw c).G.any (λf=>(Ce vw c).x.all (Ap T f))=false:=Mb.2 j
  rw[if_neg (by rw[l];decide)]
  exact(ih _).2 ⟨W,rfl,O⟩
def lQ{vw}:∀{cs:List Cx}{T:List F},(∀c∈cs,(gV vw c).Nodup)->(BK (cs.map (Ce vw)) T).Nodup
 |[],T,_=>by simp[BK]
 |c::cs,T,h=>by
  have O:=λT=>lQ (vw:=vw) (cs:=cs) (T:=T) (λd hd=>h d IP)
  rw[yq]
  cases g:c.cp.neg
  .rw[V2 (show(Ce vw c).neg=false from g)]
   refine lY _ _ (h c qe) (λf _=>?_) (λx _ y _ z a b=>?_)
   .split
    .exact O _
    exact Y1
   split at a
   .split at b
    .obtain⟨W,i,_⟩:=(Lm _ _ _).1 a
     obtain⟨j,e,_⟩:=(Lm _ _ _).1 b
     rw[i]at e
     simp only[yW,List.append_cancel_left_eq,Kk,Yu]at e
     exact e.1
    simp at b
   simp at a
  rw[Xe (show(Ce vw c).neg=true from g)]
  split
  .exact Y1
  exact O _
def oY(h:P:=by rintro⟨T,hT,e⟩;obtain⟨W,e1,q1⟩:=(Lm _ _ _).1 hT;rw[yY]at e1;subst e1;exact⟨_,q1,e.y⟩):=h
def MK.St.now{m:MK}{adr U vw old w}(h:m.St adr U vw (gV vw) old w)(k:m.Ok)(v:Bs adr U)(O:EG U m.X (gV vw)):∃K M,CS w m.cb m.nb m.wb K M/\BS old K M/\K.Perm ((BK (m.X.map (Ce vw)) []).map (Ab adr)):=by
 cases m with
 |inl s=>
  obtain⟨R,c⟩:=s;obtain⟨⟨a,z,q⟩,G⟩:=h;have r:Js R U:=k U;have A:(R.l vw).map Prod.snd=R.X.map (gV vw):=MU r.len;rw[<-A]at q;obtain⟨b,i⟩:=Lv.cq r.len (Hu.1 q);simp only[yL,YQ,yQ]at b;exact⟨_,_,PE z,i,b⟩
 |inr t=>
  obtain⟨K,M,b,i,p⟩:=h.2.ex;refine⟨K,M,p,i,?_⟩;have d:∀T,BC (gV vw) t.X [] T->T.length<=3/\∀f∈T,f∈U:=λT hT=>LY (k.2.2 U) (λc j x B=>yf.1 ((O c j).1 x B)) hT qe qe;have D:K.Nodup:=by
   have:=p.now.nd;rwa [PM]at this
  have u:((BK (t.X.map (Ce vw)) []).map (Ab adr)).Nodup:=by
   refine Kj.2 ((lQ (λc j=>(O c j).2.1)).imp_of_mem ?_);intro T E hT C g e;obtain⟨W,e1,q1⟩:=(Lm _ _ _).1 hT;obtain⟨H,o,n⟩:=(Lm _ _ _).1 C;rw[yY]at e1 o;subst e1;subst o;exact g (JO v (d _ q1).2 (d _ n).2 (d _ q1).1 (d _ n).1 e)
  refine(KV D u).2 λx=>?_;rw[b x,yz];constructor
  .rintro⟨T,hT,e⟩;exact⟨T,(Lm _ _ _).2 ⟨T,rfl,hT⟩,e.y⟩
  exact oY
def nR(m:MK)(adr U vw old w)(h:m.St adr U vw (gV vw) old w)(p:m.Ok)(A:Bs adr U)(r:EG U m.X (gV vw)) :
  Ca 94 #[Pn m.cb] w λe w'=>e=.returned (.tuple #[])/\(∃K,K.Perm ((BK (m.X.map (Ce vw)) []).map (Ab adr))/\m.St adr U vw (gV vw) K w')/\CK w w'/\Av m.S w w':=by
 obtain⟨K0,G,s,_,v⟩:=h.now p A r;cases m with
 |inl z=>
  obtain⟨R,c⟩:=z;obtain⟨⟨a,k,u⟩,C⟩:=h;have f:Js R U:=p U;have E:(R.l vw).map Prod.snd=R.X.map (gV vw):=MU f.len;have O:=u;rw[<-E]at O;obtain⟨n,D⟩:=Lv.cq f.len (Hu.1 O);simp only[yL,YQ,yQ]at n;refine(lu R.cb R.nb R.wb _ _ w (PE k)).j λe w' q=>?_;obtain⟨q1,i,b⟩:=q;have d:=CK.aA (PE k) b;refine⟨q1,⟨_,n,⟨_,U_ d b (Sc f.maps (λc o=>⟨(f.small c o).1,(r c o).2.2,(f.small c o).2.2⟩)) k i,Vk u⟩,d _ _ _ _ C⟩,d,b.j λg B=>?_⟩;rcases B with rfl|rfl
  .exact G_.1 (Ia (l:=R.l vw)).1
  .exact G_.1 (Ia (l:=R.l vw)).2
 |inr t=>
  obtain⟨K,M,n,D,H⟩:=h.2.ex;refine(lu t.cb t.nb t.wb _ _ w s).j λe w' q=>?_;obtain⟨q1,i,b⟩:=q;have d:=CK.aA s b;refine⟨q1,⟨K0,v,h.1.O d,⟨K0,[],λx=>?_,k9 _,i⟩⟩,d,b⟩;rw[v.mem_iff,yz];constructor
  .exact oY
  rintro⟨T,hT,e⟩;exact⟨T,(Lm _ _ _).2 ⟨T,rfl,hT⟩,e.y⟩
def MK.sz(vw:Vw):MK->Int
 |.inl (R,_)=>Oc vw R.X
 |.inr t=>((BK (t.X.map (Ce vw)) []).length:Int)
def wV(m:MK)(adr U vw old w)(h:m.St adr U vw (gV vw) old w)(a:m.Ok)(k:Bs adr U)(O:EG U m.X (gV vw))(d:((Fm vw m.X [[]]).map List.length).sum<=1000000000) :
  Ca m.cW #[m.ptr] w λe w'=>e=.returned (I6 (m.sz vw))/\w'=w:=by
 obtain⟨K0,f,g,_,i⟩:=h.now a k O;cases m with
 |inl b=>
  obtain⟨R,c⟩:=b;exact tB R adr U (a U) vw old w h d
 |inr t=>
  refine(xV t.mb t.cb t.nb t.wb _ _ K0 f w h.1.tb g).j λe w' q=>⟨?_,q.2⟩
  rw[q.1,i.length_eq,yt];rfl
def AC(w:World)(c:Cx)(x:CG)(up hv:Value):Prop:=
 match c.cp.neg with
 |true=>NN w x.nb (.bool true) (.int .i64 (c.cp.N:Int)) (.pointer (some ⟨c.node,0,none⟩)) up hv c.ta c.cp.x.length c.tc x.tb x.bb/\Ag w x.tb []/\Ag w x.bb []
 |false=>JN w x.nb (.bool false) (.pointer (some ⟨c.node,0,none⟩)) up hv c.cp.N c.ta c.cp.x.length c.tc x.tb/\Ag w x.tb []
def Ag.T{w w' b}(h:Ag w b [])(e:w'.heap[b]?=w.heap[b]?):Ag w' b []:=by
 obtain⟨es,a,f,d⟩:=h.N;exact⟨⟨es,a,e.c f,d⟩,h.nd,λy g=>by simp at g⟩
def EC(c:Cx)(x:CG):List Nat:=match c.cp.neg with|true=>[x.tb,x.bb]|false=>[x.tb]
def VE{nb wb c x}:∀{cs:List Cx}{xs:List CG},xs.length=cs.length->(Cz nb wb (cs++[c]) (xs++[x])).Perm (EC c x++Cz nb wb cs xs)
 |[],[],_=>by
  show List.Perm (EC c x++[nb,wb]) _
  exact .refl _
 |d::cs,y::xs,h=>by
  have O:=VE (nb:=nb) (wb:=wb) (c:=c) (x:=x) (cs:=cs) (xs:=xs) qq
  show List.Perm (EC d y++Cz nb wb (cs++[c]) (xs++[x])) (EC c x++(EC d y++Cz nb wb cs xs))
  refine((YZ _).append O).c ?_
  rw[<-yW,<-yW]
  exact Km.append (.refl _)
 |[],_::_,h=>by simp at h
 |_::_,[],h=>by simp at h
def Vl{nb wb}:∀{cs:List Cx}{ys:List CG},nb∈Cz nb wb cs ys/\wb∈Cz nb wb cs ys
 |[],_=>by simp[Cz]
 |_::_,[]=>by simp[Cz]
 |d::cs,y::ys=>⟨YD _ (Vl (cs:=cs) (ys:=ys)).1,YD _ (Vl (cs:=cs) (ys:=ys)).2⟩
def gW{nb wb}:∀{cs:List Cx}{ys:List CG},(Cz nb wb cs ys).Nodup->nb≠wb
 |[],_,h=>by simpa[Cz] using h
 |_::_,[],h=>by simpa[Cz] using h
 |d::cs,y::ys,h=>gW (cs:=cs) (ys:=ys) (yK.1 h).2.1
def AC.same{w w' c x up hv}(h:AC w c x up hv)(b:w'.heap[x.nb]?=w.heap[x.nb]?)(a:∀g∈EC c x,w'.heap[g]?=w.heap[g]?):AC w' c x up hv:=by
 unfold AC EC at *
 cases d:c.cp.neg
 .rw[d]at h a;exact⟨b.c h.1,h.2.T (a _ qe)⟩
 rw[d]at h a;exact⟨b.c h.1,h.2.1.T (a _ qe),h.2.2.T (a _ qe)⟩
def AC.pos{w c x up hv}(a:c.cp.neg=false):AC w c x up hv↔JN w x.nb (.bool false) (Pn c.node) up hv c.cp.N c.ta c.cp.x.length c.tc x.tb/\Ag w x.tb []:=by
 unfold AC;rw[a]
def AC.neg{w c x up hv}(a:c.cp.neg=true):AC w c x up hv↔NN w x.nb (.bool true) (I6 (c.cp.N:Int)) (Pn c.node) up hv c.ta c.cp.x.length c.tc x.tb x.bb/\Ag w x.tb []/\Ag w x.bb []:=by
 unfold AC;rw[a]
def EU(w:World)(hl:Value):Value->List Cx->List CG->Prop
 |up,c::cs,x::xs=>AC w c x up (J5 hl cs xs)/\EU w hl (Ek c x) cs xs
 |_,[],[]=>True
 |_,_,_=>False
def Gj:Value->List Cx->List CG->Value
 |_,c::cs,x::xs=>Gj (Ek c x) cs xs
 |up,_,_=>up
def EU.len{w hl}:∀{up:Value}{cs:List Cx}{xs:List CG},EU w hl up cs xs->xs.length=cs.length
 |_,[],[],_=>rfl
 |_,_::_,_::_,h=>by rw[yI,yI,h.2.len]
 |_,[],_::_,h=>h.elim
 |_,_::_,[],h=>h.elim
def EU.same{w w' hl}:∀{up:Value}{cs:List Cx}{xs:List CG}{nb wb:Nat},EU w hl up cs xs->(∀x∈xs,w'.heap[x.nb]?=w.heap[x.nb]?)->(∀g∈Cz nb wb cs xs,w'.heap[g]?=w.heap[g]?)->EU w' hl up cs xs
 |_,[],[],_,_,_,_,_=>trivial
 |_,c::cs,x::xs,nb,wb,h,h1,h2=>⟨h.1.same (h1 x (by simp)) (λg a=>h2 g (by show g∈EC c x++Cz nb wb cs xs;simp[a])),h.2.same (nb:=nb) (wb:=wb) (λy b=>h1 y (by simp[b])) (λg a=>h2 g (by show g∈EC c x++Cz nb wb cs xs;simp[a]))⟩
 |_,[],_::_,_,_,h,_,_=>h.elim
 |_,_::_,[],_,_,h,_,_=>h.elim
def EU.bN{w hl}:∀{up:Value}{cs:List Cx}{xs:List CG},EU w hl up cs xs->cs≠[]->∃O c a x b,cs=O++[c]/\xs=a++[x]/\a.length=O.length/\Gj up cs xs=Ek c x/\AC w c x b hl
 |up,[c],[x],h,_=>⟨[],c,[],x,up,rfl,rfl,rfl,rfl,h.1⟩
 |up,c::d::cs,x::y::xs,h,_=>by
  obtain⟨O,k,a,i,b,g,j,e,f,l⟩:=h.2.bN qe
  exact⟨c::O,k,x::a,i,b,by rw[g];rfl,by rw[j];rfl,by simp[e],f,l⟩
 |_,[_],_::_::_,h,_=>h.2.elim
 |_,_::_::_,[_],h,_=>h.2.elim
 |_,_::_,[],h,_=>h.elim
 |_,[],_,_,hne=>(hne rfl).elim
def EU.bw{w w' b a nb wb}:∀{up:Value}{cs:List Cx}{xs:List CG}{c:Cx}{x:CG},EU w b up (cs++[c]) (xs++[x])->xs.length=cs.length->(∀y∈xs,w'.heap[y.nb]?=w.heap[y.nb]?)->(∀g∈Cz nb wb (cs++[c]) (xs++[x]),w'.heap[g]?=w.heap[g]?)->(∀O,AC w c x O b->AC w' c x O a)->EU w' a up (cs++[c]) (xs++[x])
 |up,[],[],c,x,h,_,_,_,hl=>⟨hl up h.1,trivial⟩
 |up,d::cs,y::xs,c,x,h,hlen,hx,hm,hl=>by
  refine⟨?_,h.2.bw (nb:=nb) (wb:=wb) (by simpa using hlen) (λz i=>hx z (by simp[i])) (λg f=>hm g (by show g∈EC d y++Cz nb wb (cs++[c]) (xs++[x]);simp[f])) hl⟩
  have e:J5 a (cs++[c]) (xs++[x])=J5 b (cs++[c]) (xs++[x]):=by
   match cs,xs,hlen with
   |[],[],_=>rfl
   |_::_,_::_,_=>rfl
   |[],_::_,h=>simp at h
   |_::_,[],h=>simp at h
  show AC w' d y up (J5 a (cs++[c]) (xs++[x]));rw[e];exact h.1.same (hx y qe) (λg f=>hm g (by show g∈EC d y++Cz nb wb (cs++[c]) (xs++[x]);simp[f]))
 |_,[],_::_,_,_,_,h,_,_,_=>by simp at h
 |_,_::_,[],_,_,_,h,_,_,_=>by simp at h
def EU.snoc{w hl c x}:∀{up:Value}{cs:List Cx}{xs:List CG},EU w (Mx c x) up cs xs->AC w c x (Gj up cs xs) hl->EU w hl up (cs++[c]) (xs++[x])
 |up,[],[],_,hn=>⟨hn,trivial⟩
 |up,d::cs,y::xs,h,hn=>by
  refine⟨?_,h.2.snoc hn⟩
  have e:J5 hl (cs++[c]) (xs++[x])=J5 (Mx c x) cs xs:=by
   match cs,xs,h.2.len with
   |[],[],_=>rfl
   |_::_,_::_,_=>rfl
   |[],_::_,h=>simp at h
   |_::_,[],h=>simp at h
  show AC w d y up (J5 hl (cs++[c]) (xs++[x]));rw[e];exact h.1
 |_,[],_::_,h,_=>h.elim
 |_,_::_,[],h,_=>h.elim
def ls{c x}:∀{up:Value}{cs:List Cx}{xs:List CG},xs.length=cs.length->Gj up (cs++[c]) (xs++[x])=Ek c x
 |_,[],[],_=>rfl
 |_,d::cs,y::xs,h=>ls (up:=Ek d y) (cs:=cs) (xs:=xs) (by simpa using h)
 |_,[],_::_,h=>by simp at h
 |_,_::_,[],h=>by simp at h
def xQ:∀{up:Value}{xs:List CG},Gj up [] xs=up
 |_,[]=>rfl
 |_,_::_=>rfl
def li:∀{up:Value}{cs:List Cx}{xs:List CG},(up=.nilIface∨∃t v,up=.iface t v)->(Gj up cs xs=.nilIface∨∃t v,Gj up cs xs=.iface t v)
 |_,[],[],h=>h
 |_,[],_::_,h=>h
 |_,_::_,[],h=>h
 | _,c::cs,x::xs,_=>li (up:=Ek c x) (cs:=cs) (xs:=xs) (.inr (by
  unfold Ek GT
  split
  .exact⟨_,_,rfl⟩
  exact⟨_,_,rfl⟩))
structure FE(X:List Cx) (w:World) (rb cb nb wb k:Nat) (xs:List CG) (wr:World):Prop where
 le:k<=X.length
 bn:EU wr .nilFunc .nilIface (X.take k) xs
 box:wr.heap[rb]?=some (.cells #[Gj .nilIface (X.take k) xs,.pointer (some ⟨cb,0,none⟩)] 252 (0,0))
 cs:wr.heap[cb]?=some (.cells #[.map (some nb),.map (some wb)] 263 (0,0))/\Ag wr nb []/\Ag wr wb []
 maps:(Cz nb wb (X.take k) xs).Nodup
 cF:(xs.map (·.nb)).Nodup
 al:w.heap.size<=rb/\w.heap.size<=cb/\(∀x∈xs,w.heap.size<=x.nb/\x.nb≠rb/\x.nb<wr.heap.size)/\∀g∈Cz nb wb (X.take k) xs,w.heap.size<=g/\g<wr.heap.size
 C:Bw w wr
def FE.bH{X w e cb nb wb k xs wr O}(h:FE X w e cb nb wb k xs wr)(a:Bw wr O):FE X w e cb nb wb k xs O:=
 ⟨h.le,h.bn.same (nb:=nb) (wb:=wb) (λx b=>a.block _ (h.al.2.2.1 x b).2.2) (λg d=>a.block _ (h.al.2.2.2 g d).2),(a.block _ (Ak h.box)).c h.box,⟨(a.block _ (Ak h.cs.1)).c h.cs.1,h.cs.2.1.T (a.block _ h.cs.2.1.lt),h.cs.2.2.T (a.block _ h.cs.2.2.lt)⟩,h.maps,h.cF,⟨h.al.1,h.al.2.1,λx b=>⟨(h.al.2.2.1 x b).1,(h.al.2.2.1 x b).2.1,yg (h.al.2.2.1 x b).2.2 a.size⟩,λg d=>⟨(h.al.2.2.2 g d).1,yg (h.al.2.2.2 g d).2 a.size⟩⟩,h.C.thn a⟩
def EU.maps{w hl nb wb g}(b:Ag w nb [])(c:Ag w wb []):∀{up:Value}{cs:List Cx}{xs:List CG},EU w hl up cs xs->g∈Cz nb wb cs xs->Ag w g []
 |_,[],[],_,a=>by
  simp only[Cz,yG,YF,or_false]at a
  rcases a with rfl|rfl
  .exact b
  .exact c
 |_,d::cs,y::ys,hN,a=>by
  have a:g∈EC d y++Cz nb wb cs ys:=a
  rcases yn.1 a with a|a
  .have b:=hN.1
   unfold EC at a
   cases hd:d.cp.neg
   .rw[hd]at a
    simp at a
    rw[a]
    exact((AC.pos hd).1 b).2
   rw[hd]at a
   simp at a
   rcases a with a|a
   .rw[a]
    exact((AC.neg hd).1 b).2.1
   rw[a]
   exact((AC.neg hd).1 b).2.2
  .exact hN.2.maps b c a
 |_,[],_::_,h,_=>h.elim
 |_,_::_,[],h,_=>h.elim
def FE.aC{X w b cb nb wb k xs wr}(h:FE X w b cb nb wb k xs wr){g}(a:g∈Cz nb wb (X.take k) xs):∀c t d,wr.heap[g]?≠some (.cells c t d):=(h.bn.maps h.cs.2.1 h.cs.2.2 a).aD
def JK:List Cx->List CG->Value
 |c::_,x::_=>Ek c x
 |_,_=>.nilIface
def mX{c x}:∀{cs:List Cx}{xs:List CG},xs.length=cs.length->JK (cs++[c]) (xs++[x])=(if cs=[] then Ek c x else JK cs xs)
 |[],[],_=>rfl
 |_::_,_::_,_=>by simp[JK]
 |[],_::_,h=>by simp at h
 |_::_,[],h=>by simp at h
def M_{X:List Cx}{k c}(h:X[k]?=some c):X.take (k+1)=X.take k++[c]:=by
 rw[yZ,h];rfl
def FE.step{X w p O l m cb nb wb k lb xs c x}(h:FE X w m cb nb wb k xs p)(q:X[k]?=some c)(J:Bw p O)(R:AC O c x (Gj .nilIface (X.take k) xs) .nilFunc)(Y:p.heap.size<=x.nb)(s:∀g∈EC c x,p.heap.size<=g/\g<O.heap.size)(M:(EC c x).Nodup)(L:x.nb<O.heap.size)(r:∀g,g<O.heap.size->g≠m->g≠lb->l.heap[g]?=O.heap[g]?)(U:O.heap.size<=l.heap.size)(N:Bw w l)(H:l.heap[m]?=some (.cells #[Ek c x,Pn cb] 252 (0,0)))(I:lb=m∨lb<p.heap.size)(E:EU l (Mx c x) .nilIface (X.take k) xs)(u:∀g,(g∈EC c x∨g∈Cz nb wb (X.take k) xs∨g=cb)->g≠lb):FE X w m cb nb wb (k+1) (xs++[x]) l:=by
 have j:=h.bH J;have W:=(ye.1 q).1;have ax:m<p.heap.size:=Ak h.box;have i:=h.bn.len;have K:x.nb≠lb:=by rcases I with h|h<;>omega
 have D:l.heap[cb]?=O.heap[cb]?:=r cb (Ak j.cs.1) (λe=>by
  have B:=j.box;rw[<-e,j.cs.1]at B;simp at B) (u cb (.inr (.inr rfl)))
 have G:∀g,g∈Cz nb wb (X.take k) xs->g≠m:=λg f e=>by
  exact j.aC f _ _ _ (by rw[e];exact j.box)
 have z:∀g,g∈Cz nb wb (X.take k) xs->l.heap[g]?=O.heap[g]?:=λg f=>r g (j.al.2.2.2 g f).2 (G g f) (u g (.inr (.inl f)));have A:nb∈Cz nb wb (X.take k) xs/\wb∈Cz nb wb (X.take k) xs:=by
  have:∀{cs:List Cx}{ys:List CG},nb∈Cz nb wb cs ys/\wb∈Cz nb wb cs ys:=by
   intro cs
   induction cs with
   |nil=>intro ys;simp[Cz]
   |cons d cs ih=>
    intro ys
    match ys with
    |[]=>simp[Cz]
    |y::ys=>exact⟨YD _ ih.1,YD _ ih.2⟩
  exact this
 refine⟨W,?_,?_,⟨D.c j.cs.1,j.cs.2.1.T (z _ A.1),j.cs.2.2.T (z _ A.2)⟩,?_,?_,⟨h.al.1,h.al.2.1,?_,?_⟩,N⟩
 .rw[M_ q];refine E.snoc (R.same (r x.nb L qd K) (λg f=>r g (s g f).2 ?_ (u g (.inl f))));have:=(s g f).1;omega
 .rw[M_ q,ls i];exact H
 .rw[M_ q];refine(VE i).nodup_iff.2 (yK.2 ⟨M,h.maps,λa t b o e=>?_⟩);have h1:=(s a t).1;have Z:=(h.al.2.2.2 b o).2;omega
 .rw[yF,yK];refine⟨h.cF,qe,λa t b o e=>?_⟩;obtain⟨y,n,rfl⟩:=yz.1 t;have:=(h.al.2.2.1 y n).2.2;simp at o;omega
 .intro y n;rcases yn.1 n with n|n
  .obtain⟨a1,v,a3⟩:=j.al.2.2.1 y n;exact⟨a1,v,qd⟩
  rw[yp.1 n];have:=h.C.size;exact⟨qd,qd,qd⟩
 intro g f;rw[M_ q,(VE i).mem_iff]at f;rcases yn.1 f with f|f
 .have:=s g f;have:=h.C.size;exact⟨qd,qd⟩
 obtain⟨a1,v⟩:=j.al.2.2.2 g f;exact⟨a1,qd⟩
def MH:(l:List Ar)->CQ l
 |[]=>([],[])
 |(.inl _,_)::r=>([],MH r)
 |(.inr _,_)::r=>([],[],MH r)
def U6{adr}:∀(l:List Ar),Lv adr [] l [] (MH l)
 |[]=>⟨.refl _,jH⟩
 |(.inl _,_)::r=>⟨.refl _,U6 r⟩
 |(.inr _,_)::r=>⟨.refl _,λT a=>(by simp at a),U6 r⟩
def jF{adr U vw cb nb wb w}(g:CS w cb nb wb [] [])(O:Br adr U w):∀{up:Value}{cs:List Cx}{xs:List CG},EU w (Ec cb) up cs xs->(∀c∈cs,DS w c.ta c.cp.x/\At w c.node 4 (.slice (vw c.node).1 (vw c.node).2.2.length (vw c.node).2.1)/\Ho w (vw c.node).1 (vw c.node).2.2 adr)->EE adr U cb nb wb (Au vw (Ec cb) up cs xs) w (MH _)
 |_,[],[],_,_=>g
 |_,c::cs,x::xs,h,hc=>by
  have ih:=jF g O (vw:=vw) h.2 (λd hd=>hc d IP)
  obtain⟨j,i,f⟩:=hc c qe
  rw[Au]
  cases a:c.cp.neg
  .rw[Ib a]
   obtain⟨e,b⟩:=(AC.pos a).1 h.1
   exact⟨⟨e,i,f,j,O⟩,b,ih⟩
  .rw[Ic a]
   obtain⟨e,b,k⟩:=(AC.neg a).1 h.1
   exact⟨⟨e,i,f,j,O⟩,b,k,ih⟩
 |_,[],_::_,h,_=>h.elim
 |_,_::_,[],h,_=>h.elim
section
attribute [local go_sem ↓] wp_at_zero wp_at_succ
def zjB{P:Program}(w:World)(a:Addr)(m:Mode)(t:TypeId)(v:Value):(store a (.iface t v) m).run P w=stored P w a (.iface t v) m:=run_store P w a _ m rfl
attribute [local go_sem] zjB
def Vb{P:World->Prop}{w b t x0 x1 y0}(O:w.heap[b]?=some (.cells #[x0,x1] t (0,0)))(h:∀wt,wt.heap[b]?=some (.cells #[y0,x1] t (0,0))->Turned w wt b->P wt):P (w.setCell ⟨b,0,none⟩ y0):=by
 exact oI
structure NW(X:List Cx) (adr:F->Addr) (U:List F) (vw:Vw) (ca:Option Addr):Prop where
 small:∀c∈X,c.cp.x.length<=6/\c.cp.F.x.length<=1048576/\(c.cp.neg=false->c.cp.N<3)
 sr:Dz (X.map (BB U)) []
 ne:X≠[]
 X6:X.length<=6
 eh:EG U X (gV vw)
 inj:Bs adr U
def gT{c x}(h:c.cp.neg=false):EC c x=[x.tb]:=by
 unfold EC;rw[h]
def gA{c x}(h:c.cp.neg=true):EC c x=[x.tb,x.bb]:=by
 unfold EC;rw[h]
def L8{c x}(h:c.cp.neg=false):Ek c x=.iface 337 (Pn x.nb):=by
 unfold Ek GT;rw[h];rfl
def L9{c x}(h:c.cp.neg=true):Ek c x=.iface 334 (Pn x.nb):=by
 unfold Ek GT;rw[h];rfl
def FE.cX{X w a cb nb wb k xs wr}(h:FE X w a cb nb wb k xs wr){g b c t e}(f:g∈Cz nb wb (X.take k) xs)(d:wr.heap[b]?=some (.cells c t e)):g≠b:=by
 rintro rfl;exact h.aC f _ _ _ d
def Ag.cG{w b g L c t d}(h:Ag w b L)(a:w.heap[g]?=some (.cells c t d)):b≠g:=by
 rintro rfl;exact h.aD _ _ _ a
def kK{vw hl}:∀{up:Value}{cs:List Cx}{xs:List CG},xs.length=cs.length->cs≠[]->Gj up cs xs=BU (CD (Au vw hl up cs xs)) 0
 |_,[c],[x],_,_=>by
  show Ek c x=_
  simp only[Au,CD,BU,yq,YB,List.reverse_cons,List.reverse_nil,yY,yv,Y4,YE,On]
  rfl
 |up,c::d::cs,x::y::xs,h,_=>by
  have O:=kK (vw:=vw) (hl:=hl) (up:=Ek c x) (cs:=d::cs) (xs:=y::xs) qq qe
  show Gj (Ek c x) (d::cs) (y::xs)=_
  rw[O]
  have e:CD (Au vw hl up (c::d::cs) (x::y::xs))=CD (Au vw hl (Ek c x) (d::cs) (y::xs))++[(c.cp.neg,x.nb)]:=by
   rw[Au];unfold CD;rw[yq,List.reverse_cons,On]
  rw[e];unfold BU;rw[yr];rw[Au];simp[CD]
 |_,[],_,_,h=>(h rfl).elim
 |_,[_],[],h,_=>by simp at h
 |_,[_],_::_::_,h,_=>by simp at h
 |_,_::_::_,[],h,_=>by simp at h
 |_,_::_::_,[_],h,_=>by simp at h
def sO{X w wr O f cb nb wb lb xs}(h:FE X w f cb nb wb X.length xs wr)(m:Bg (some lb) wr O)(j:cb≠lb)(d:∀g,g∈Cz nb wb (X.take X.length) xs->g≠lb):CS O cb nb wb [] []:=by
 have b:nb∈Cz nb wb (X.take X.length) xs/\wb∈Cz nb wb (X.take X.length) xs:=Vl;have a:nb≠wb:=by
  have:=h.maps;intro e;exact gW this e
 have k:∀g,g<wr.heap.size->g≠lb->O.heap[g]?=wr.heap[g]?:=λg l i=>m.block g l (λe=>i Uf);exact⟨(k cb (Ak h.cs.1) j).c h.cs.1,h.cs.2.1.T (k nb h.cs.2.1.lt (d nb b.1)),h.cs.2.2.T (k wb h.cs.2.2.lt (d wb b.2)),a⟩
def i_{X w wr i v cb nb wb xs a q c x hv}(h:FE X w v cb nb wb X.length xs wr)(n:X=q++[c])(j:xs=a++[x])(B:a.length=q.length)(p:Bg (some x.nb) wr i)(hl:∀s,AC wr c x s .nilFunc->AC i c x s hv):EU i hv .nilIface X xs:=by
 have b:=h.bn;have l:=λg f=>h.aC (g:=g) f;have k:=h.cF;have O:=h.al;rw[yV]at b l O;have m:∃c t z,wr.heap[x.nb]?=some (.cells c t z):=by
  rw[n,j]at b;obtain⟨_,d,_,y,up,u,A,_,_,o⟩:=b.bN qe;obtain⟨_,e⟩:=List.append_inj' u rfl;obtain⟨_,C⟩:=List.append_inj' A rfl;cases e;cases C;cases r:c.cp.neg
  .exact⟨_,_,_,((AC.pos r).1 o).1⟩
  exact⟨_,_,_,((AC.neg r).1 o).1⟩
 obtain⟨G,D,E,m⟩:=m;rw[n,j]at b l O⊢;rw[j]at k;refine EU.bw (nb:=nb) (wb:=wb) b B (λy hy=>?_) (λg f=>?_) hl
 .refine p.block _ (O.2.2.1 y Jc).2.2 (λe=>?_);injection e with e;rw[yF,yK]at k;exact k.2.2 y.nb (yU hy) x.nb qe e.y
 refine p.block _ (O.2.2.2 g f).2 (λe=>?_);injection e with e;exact l g f _ _ _ (by rw[<-e];exact m)
def wl(X xs)(_rb cb nb wb:Nat)(adr U vw ca)(d:NW X adr U vw ca)(w)(r:(Cz nb wb (X.take X.length) xs).Nodup)(y:EU w (Ec cb) .nilIface X xs)(R:CS w cb nb wb [] [])(Y:∀(k:Nat)(c:Cx),X[k]?=some c->Dp adr vw ca w k c)(ah:Br adr U w) :
  Ca (Hk (Au vw (Ec cb) .nilIface X xs)) #[Pn (ND cb (Au vw (Ec cb) .nilIface X xs)),.agg #[.pointer none,.pointer none,.pointer none],I6 1] w λe w'=>e=.returned (.tuple #[])/\(∃a:CQ (Au vw (Ec cb) .nilIface X xs),EE adr U cb nb wb _ w' a/\Lv adr [] _ [[]] a)/\CK w w'/\Av (E5 nb wb (Au vw (Ec cb) .nilIface X xs)) w w':=by
 rw[yV]at r;have b:=y.len;obtain⟨l,hl⟩:∃l,l=Au vw (Ec cb) .nilIface X xs:=⟨_,rfl⟩
 have t:EE adr U cb nb wb (Au vw (Ec cb) .nilIface X xs) w (MH _):=jF R ah y (λc n=>by
  obtain⟨k,W⟩:=YW n;obtain⟨_,_,_,B,E,H⟩:=Y k c W;exact⟨B,E,H⟩)
 have af:(Au vw (Ec cb) .nilIface X xs).map Prod.snd=X.map (gV vw):=MU b;have p:FL U (Au vw (Ec cb) .nilIface X xs) (X.map (λc=>U.filter (Ae c.cp.F))) []:=Pv b d.sr qe qe;have u:Iz cb nb wb (Au vw (Ec cb) .nilIface X xs):=Sc r (λc n=>⟨(d.small c n).1,(d.eh c n).2.2,(d.small c n).2.2⟩);have hu:∀m∈Au vw (Ec cb) .nilIface X xs,∀f∈m.2,f∈U:=λm r f hf=>by
  have x:m.2∈(Au vw (Ec cb) .nilIface X xs).map Prod.snd:=yU r;rw[af]at x;obtain⟨c,n,e⟩:=yz.1 x;rw[<-e]at hf;exact(yf.1 ((d.eh c n).1 f hf)).1
 have O:CH ((Au vw (Ec cb) .nilIface X xs).map Prod.snd) (X.map (λc:Cx=>U.filter (Ae c.cp.F))):=by
  rw[af];exact d.eh.sub
 have z:=U6 (adr:=adr) (Au vw (Ec cb) .nilIface X xs);rw[<-hl]at t p u hu O z⊢;obtain⟨K,Z⟩:=Qo (old:=[]) (cb:=cb) (nb:=nb) (wb:=wb) d.inj l _ [] (MH l) [] z (λT M=>by simp at M) qe (p.dk O) qe;have hG:=Ov adr 1 (.inl rfl) U cb nb wb l (u.ok hu);obtain⟨D,I⟩:=Ox adr 1 U cb nb wb l;have h:=hG.2 w (MH l) [] ((IF adr 1 U cb nb wb l w _).2 t) K (Ou ah qe);rw[D,I]at h;refine h.j λe w' q=>?_;obtain⟨A,s,C,G,N,L⟩:=q;exact⟨A,⟨s,(IF adr 1 U cb nb wb l w' s).1 G,Z s C⟩,N,L.j λg J=>(GV adr 1 U cb nb wb l g).1 J⟩
def sy{X w O b cb nb wb k B xs c x}(h:FE X w b cb nb wb k xs O)(f:∀g∈EC c x,B<=g/\g<O.heap.size)(i:b<B){g}(a:g∈EC c x∨g∈Cz nb wb (X.take k) xs∨g=cb)(e:g=b):False:=by
 subst e;rcases a with a|a|a
 .have:=(f g a).1;omega
 .exact h.aC a _ _ _ h.box
 subst a;have d:=h.box;rw[h.cs.1]at d;simp at d
def Zp(h:P:=by
 first
  | (have _:=tP1
     rw[L8 HN.o])
  |(rw[L9 HN.o])
 exact aG.o
 ):=h
def n8(h:P:=by exact(O.o.C.c (ah.o.d O.o.C.size (λg e=>by injection e with e;rw[<-e];exact am.1))).c (af.o.d O.o.al.1)):=h
def pB(h:P:=by refine(af.o.block _ (λe=>hM g hg _ _ _ (by rw[e];exact O.o.box))).c (ah.o.block _ (aq.2.2.2 g hg).2 (λe=>?_));injection e with e;exact hM g hg _ _ _ (by rw[<-e];exact L1.o)):=h
def pD(h:P:=by
 intro g hg e;rcases hg with hg|hg|hg
 .have:=(ak.o g hg).1;omega
 .exact O.o.aC hg _ _ _ (by rw[e];exact L1.o)
 .have b1:=O.o.cs.1;rw[<-hg,e,show w5.heap[x'.nb]?=_ from L1.o]at b1;simp at b1
 ):=h
def pG(h:P:=by refine(af.o.block _ (aq.2.2.1 y (by simp[hy])).2.1).c (ah.o.block _ (aq.2.2.1 y (by simp[hy])).2.2 (λe=>?_));injection e with e;rw[yF,yK]at az;exact az.2.2 y.nb (yU hy) x'.nb (by simp) e.y):=h
def gL(h:P:=by
 rw[hn]at d0;have HN:=Aa hn;clear hn
 first
  | (have _:=tP1
     go_region_held3 (λu=>At u wr.heap.size 0 (.bool false)/\At u wr.heap.size 1 (I6 (c.cp.N:Int))/\At u wr.heap.size 2 (Pn c.node)/\At u wr.heap.size 3 (.slice c.ta c.cp.x.length c.tc)/\At u rb 0 lv)
       ((go_split_ands;first|done|(refine⟨?_,?_,?_,?_,?_⟩<;>first|assumption|with_reducible exact zab aw (by assumption)|exact zab An.drew (by assumption))))
       (first|(go_at_call 154;refine(zk3 lv (Pn c.node) c.cp.N c.ta c.cp.x.length c.tc HLK.o ⟨_,rfl⟩ _).j ?_;rintro e w5 ⟨jb,tb,rfl,q1,q2,q5,q6,aw⟩)|fail))
  | (go_region_held3 (λu=>At u wr.heap.size 0 (.bool true)/\At u wr.heap.size 1 (I6 (c.cp.N:Int))/\At u wr.heap.size 2 (Pn c.node)/\At u wr.heap.size 3 (.slice c.ta c.cp.x.length c.tc)/\At u rb 0 lv)
       ((go_split_ands;first|done|(refine⟨?_,?_,?_,?_,?_⟩<;>first|assumption|with_reducible exact zab aw (by assumption)|exact zab An.drew (by assumption))))
       (first|(go_at_call 154;refine(zkX lv (Pn c.node) c.cp.N c.ta c.cp.x.length c.tc HLK.o ⟨_,rfl⟩ _).j ?_;rintro e w5 ⟨jb,tb,bb,rfl,q1,q2,q3,q4,q5,q6,q7,aw⟩)|fail))
 obtain⟨ai,aF⟩:=Ah (HI4.o.bH An.drew) aw;have aS:w4.drew.heap.size=w4.heap.size:=rfl;have O:=Aa (ai.o.bH aw)
 first
  | (have _:=tP1
     have aA:=Aa (show AC w5 c ⟨jb,tb,0⟩ (Gj .nilIface (X.take k) xs) .nilFunc from(AC.pos HN.o).2 ⟨by rw[<-HLV.o];exact q5,q6⟩);have ak:=Aa (show∀g∈EC c ⟨jb,tb,0⟩,w4.drew.heap.size<=g/\g<w5.heap.size fromλg hg=>by rw[gT HN.o]at hg;simp only[yG,YF,or_false]at hg;rcases hg with rfl;exact⟨q2,q6.lt⟩);have ay:=Aa (show(EC c ⟨jb,tb,0⟩).Nodup from by rw[gT HN.o];simp))
  | (have aA:=Aa (show AC w5 c ⟨jb,tb,bb⟩ (Gj .nilIface (X.take k) xs) .nilFunc from (AC.neg HN.o).2 ⟨by rw[<- HLV.o];exact q5,q6,q7⟩)
     have ak:=Aa (show∀g∈EC c ⟨jb,tb,bb⟩,w4.drew.heap.size<=g/\g<w5.heap.size fromλg hg=>by rw[gA HN.o]at hg;simp only[yG,YF,or_false]at hg;rcases hg with rfl|rfl;exact⟨q2,q6.lt⟩;exact⟨q3,q7.lt⟩);have ay:=Aa (show(EC c ⟨jb,tb,bb⟩).Nodup from by rw[gA HN.o];simp[q4]))
 have aC:jb<w5.heap.size:=Ak q5;have aD:=Aa q1;have s0:=zab aw r0
 first
  | (have _:=tP1
     clear aw d0 d1 d2 d3 r0 q1 q2 q5 q6)
  |(clear aw d0 d1 d2 d3 r0 q1 q2 q5 q6 q3 q4 q7)
 obtain⟨_,fr⟩:True/\w5.frozen? ⟨rb,0,none⟩=false:=⟨trivial,by simp[World.frozen?,O.o.box]⟩
 rcases Nat.eq_zero_or_pos k with aE|aE
 .have aP:lv=.nilIface:=by rw[HLV.o,aE,Y0,xQ]
  obtain⟨aO,aQ⟩:=Ah (show xs=[] from by have:=O.o.bn.len;rw[aE]at this;simpa using this) aE;subst aP;clear aE;go_upto_region 11 with fail;refine Vb (x0:=Gj .nilIface (X.take k) xs) (x1:=Pn cb) O.o.box ?_;intro w7 au ar;obtain⟨aG,af⟩:=Ah au ar;clear au ar s0 fr;go_wp2_with fail;go_roundw
  case rel=>
   first
    | (have _:=tP1
       refine⟨k+1,xs++[⟨jb,tb,0⟩],by go_num,?_,FE.step (lb:=rb) ai.o HC.o aF.o aA.o aD.o ak.o ay.o aC (λg _ h1 _=>af.o.block g h1) (WK af.o.size.y) (O.o.C.c (af.o.d O.o.al.1)) ?_ (.inl rfl) ?_ ?_⟩)
    |(refine⟨k+1,xs++[⟨jb,tb,bb⟩],by go_num,?_,FE.step (lb:=rb) ai.o HC.o aF.o aA.o aD.o ak.o ay.o aC (λg _ h1 _=>af.o.block g h1) (WK af.o.size.y) (O.o.C.c (af.o.d O.o.al.1)) ?_ (.inl rfl) ?_ ?_⟩)
   .rw[M_ HC.o,aO.o,aQ.o]
    first
     | (have _:=tP1
        exact(L8 (x:=⟨jb,tb,0⟩) HN.o).y)
     |(exact(L9 (x:=⟨jb,tb,bb⟩) HN.o).y)
   .exact Zp
   .rw[aO.o,aQ.o];trivial
   .intro g hg e;exact sy O.o ak.o (Ak ai.o.box) hg e
  case measure=>(simp[intOf];omega)
 .obtain⟨aU,c',xs',x',aT,e1,e2,e3,e4,e5⟩:=O.o.bn.bN (λe=>by have h:=congrArg List.length e;rw[Yt]at h;simp only[Yz]at h;omega);obtain⟨HE1,HE2,HE3,HE5⟩:=Bn e1 e2 e3 e5
  first
   | (have _:=tP1
      have aL:=Aa (show JK (X.take k++[c]) (xs++[⟨jb,tb,0⟩])=JK (X.take k) xs from by rw[mX O.o.bn.len,if_neg (λe=>by have h:=congrArg List.length e;rw[Yt]at h;simp only[Yz]at h;omega)]))
   |(have aL:=Aa (show JK (X.take k++[c]) (xs++[⟨jb,tb,bb⟩])=JK (X.take k) xs from by rw[mX O.o.bn.len,if_neg (λe=>by have h:=congrArg List.length e;rw[Yt]at h;simp only[Yz]at h;omega)]))
  have aB:lv=Ek c' x':=HLV.o.c e4;have am:=O.o.al.2.2.1 x' (by rw[e2];simp);have aI:=(ai.o.al.2.2.1 x' (by rw[e2];simp)).2.2;clear e1 e2 e3 e4 e5 aE;cases hm:c'.cp.neg
  .rw[L8 hm]at aB;have HM:=Aa hm;subst aB;obtain⟨l1,l2⟩:=(AC.pos hm).1 HE5.o;have L1:=Aa l1
   first
    | (have _:=tP1
       have ax:=Aa (λ(u:World) (hu:u.heap[x'.nb]?=w5.heap[x'.nb]?)=>Qu x'.nb (.func (.method "loop.example/s01311/impl.take") #[.iface 337 (Pn jb)] #[]) _ _ u (hu.c l1) (by simp) ⟨_,_,_,rfl⟩))
    | (have ax:=Aa (λ(u:World) (hu:u.heap[x'.nb]?=w5.heap[x'.nb]?)=>Qu x'.nb (.func (.method "loop.example/s01311/impl.take") #[.iface 334 (Pn jb)] #[]) _ _ u (hu.c l1) (by simp) ⟨_,_,_,rfl⟩))
   have aK:=λu=>mQ x'.nb u;clear hm l1 l2;go_wp2_with fail
   go_region_held3 (λu=>At u rb 0 (.iface 337 (Pn x'.nb)))
    (first|assumption|(with_reducible exact(yR (w:=w5) ((aj.block rb (Ak O.o.box) (λe=>am.2.1 (by injection e))))).c s0)|exact zab An.drew (by assumption))
    (first|(go_at_call 317;refine(ax.o w5.drew rfl).rtn λw6⟨aH,aj⟩=>?_;have s6:=(Az ((aj.block rb (Ak O.o.box) (λe=>am.2.1 (by injection e))).c O.o.box)).1;rw[<-HLV.o]at s6)|fail)
   obtain⟨aM,ah⟩:=Ah aH (show Bg (some x'.nb) w5 w6 from(Bg.m An.drew).c aj);have ao:=(aj.block rb (Ak O.o.box) (λe=>am.2.1 (by injection e))).c O.o.box;have aJ:=Aa ao;have t0:=(Az ao).1;have aN:w6.frozen? ⟨rb,0,none⟩=false:=by simp[World.frozen?,ao]
   clear aH aj ao s0 s6 fr ax aK;go_upto_region 11 with fail;refine Vb (x0:=Gj .nilIface (X.take k) xs) (x1:=Pn cb) aJ.o ?_;intro w7 au ar;obtain⟨aG,af⟩:=Ah au ar;clear au ar t0 aN;go_wp2_with fail;go_roundw
   case rel=>
    first
     | (have _:=tP1
        refine⟨k+1,xs++[⟨jb,tb,0⟩],by go_num,?_,FE.step (lb:=x'.nb) ai.o HC.o aF.o aA.o aD.o ak.o ay.o aC (λg h0 h1 h2=>(af.o.block g h1).c (ah.o.block g h0 (λe=>h2 (by injection e with e;exact e.y)))) (by rw[af.o.size];exact ah.o.rest.size) ?_ ?_ (.inr aI) ?_ ?_⟩)
     |(refine⟨k+1,xs++[⟨jb,tb,bb⟩],by go_num,?_,FE.step (lb:=x'.nb) ai.o HC.o aF.o aA.o aD.o ak.o ay.o aC (λg h0 h1 h2=>(af.o.block g h1).c (ah.o.block g h0 (λe=>h2 (by injection e with e;exact e.y)))) (by rw[af.o.size];exact ah.o.rest.size) ?_ ?_ (.inr aI) ?_ ?_⟩)
    .rw[M_ HC.o,aL.o];exact HFV.o
    .exact n8
    .exact Zp
    .have hN:=O.o.bn;have hM:=λg hg=>O.o.aC (g:=g) hg;have az:=O.o.cF;have aq:=O.o.al;rw[HE1.o,HE2.o]at hN hM aq;rw[HE2.o]at az;rw[HE1.o,HE2.o];refine EU.bw (nb:=nb) (wb:=wb) hN HE3.o (λy hy=>?_) (λg hg=>?_) (λaR h2=>?_)
     .exact pG
     .exact pB
     obtain⟨j1,j2⟩:=(AC.pos HM.o).1 h2;have e:=L1.o;unfold JN at e j1;rw[e]at j1;simp at j1;subst j1;have eb:=(af.o.block _ am.2.1).c aM.o;have em:∀g,Ag w5 g []->w7.heap[g]?=w5.heap[g]?:=λg hg=>(af.o.block g (hg.cG O.o.box)).c (ah.o.block g hg.lt (λe=>hg.cG L1.o (by injection e with e;exact e.y)));refine(AC.pos HM.o).2 ⟨?_,j2.T (em _ j2)⟩;unfold Mx
     first
      | (have _:=tP1
         rw[L8 HN.o])
      |(rw[L9 HN.o])
     unfold JN;simpa using eb
    .exact pD
   case measure=>(simp[intOf];omega)
  rw[L9 hm]at aB;have HM:=Aa hm;subst aB;obtain⟨l1,l2,l3⟩:=(AC.neg hm).1 HE5.o;have L1:=Aa l1
  first
   | (have _:=tP1
      have ax:=Aa (λ(u:World) (hu:u.heap[x'.nb]?=w5.heap[x'.nb]?)=>Qu x'.nb (.func (.method "loop.example/s01311/impl.take") #[.iface 337 (Pn jb)] #[]) _ _ u (hu.c l1) (by simp) ⟨_,_,_,rfl⟩))
   | (have ax:=Aa (λ(u:World) (hu:u.heap[x'.nb]?=w5.heap[x'.nb]?)=>Qu x'.nb (.func (.method "loop.example/s01311/impl.take") #[.iface 334 (Pn jb)] #[]) _ _ u (hu.c l1) (by simp) ⟨_,_,_,rfl⟩))
  have aK:=λu=>mJ x'.nb u;clear hm l1 l2 l3;go_wp2_with fail
  go_region_held3 (λu=>At u rb 0 (.iface 334 (Pn x'.nb)))
   (first|assumption|(with_reducible exact(yR (w:=w5) ((aj.block rb (Ak O.o.box) (λe=>am.2.1 (by injection e))))).c s0)|exact zab An.drew (by assumption))
   (first|(go_at_call 317;refine(ax.o w5.drew rfl).rtn λw6⟨aH,aj⟩=>?_;have s6:=(Az ((aj.block rb (Ak O.o.box) (λe=>am.2.1 (by injection e))).c O.o.box)).1;rw[<-HLV.o]at s6)|fail)
  obtain⟨aM,ah⟩:=Ah aH (show Bg (some x'.nb) w5 w6 from(Bg.m An.drew).c aj);have ao:=(aj.block rb (Ak O.o.box) (λe=>am.2.1 (by injection e))).c O.o.box;have aJ:=Aa ao;have t0:=(Az ao).1;have aN:w6.frozen? ⟨rb,0,none⟩=false:=by simp[World.frozen?,ao]
  clear aH aj ao s0 s6 fr ax aK;go_upto_region 11 with fail;refine Vb (x0:=Gj .nilIface (X.take k) xs) (x1:=Pn cb) aJ.o ?_;intro w7 au ar;obtain⟨aG,af⟩:=Ah au ar;clear au ar t0 aN;go_wp2_with fail;go_roundw
  case rel=>
   first
    | (have _:=tP1
       refine⟨k+1,xs++[⟨jb,tb,0⟩],by go_num,?_,FE.step (lb:=x'.nb) ai.o HC.o aF.o aA.o aD.o ak.o ay.o aC (λg h0 h1 h2=>(af.o.block g h1).c (ah.o.block g h0 (λe=>h2 (by injection e with e;exact e.y)))) (by rw[af.o.size];exact ah.o.rest.size) ?_ ?_ (.inr aI) ?_ ?_⟩)
    |(refine⟨k+1,xs++[⟨jb,tb,bb⟩],by go_num,?_,FE.step (lb:=x'.nb) ai.o HC.o aF.o aA.o aD.o ak.o ay.o aC (λg h0 h1 h2=>(af.o.block g h1).c (ah.o.block g h0 (λe=>h2 (by injection e with e;exact e.y)))) (by rw[af.o.size];exact ah.o.rest.size) ?_ ?_ (.inr aI) ?_ ?_⟩)
   .rw[M_ HC.o,aL.o];exact HFV.o
   .exact n8
   .exact Zp
   .have hN:=O.o.bn;have hM:=λg hg=>O.o.aC (g:=g) hg;have az:=O.o.cF;have aq:=O.o.al;rw[HE1.o,HE2.o]at hN hM aq;rw[HE2.o]at az;rw[HE1.o,HE2.o];refine EU.bw (nb:=nb) (wb:=wb) hN HE3.o (λy hy=>?_) (λg hg=>?_) (λaR h2=>?_)
    .exact pG
    .exact pB
    obtain⟨j1,j2⟩:=(AC.neg HM.o).1 h2;have e:=L1.o;unfold NN at e j1;rw[e]at j1;simp at j1;subst j1;have eb:=(af.o.block _ am.2.1).c aM.o;have em:∀g,Ag w5 g []->w7.heap[g]?=w5.heap[g]?:=λg hg=>(af.o.block g (hg.cG O.o.box)).c (ah.o.block g hg.lt (λe=>hg.cG L1.o (by injection e with e;exact e.y)));refine(AC.neg HM.o).2 ⟨?_,j2.1.T (em _ j2.1),j2.2.T (em _ j2.2)⟩;unfold Mx
    first
     | (have _:=tP1
        rw[L8 HN.o])
     |(rw[L9 HN.o])
    unfold NN;simpa using eb
   .exact pD
  case measure=>(simp[intOf];omega)
 ):=h
def oj(h:P:=by
 clear e1 hf;go_wp2_with fail;refine aq.o.rtn λw8⟨⟨a8,hi8,ak⟩,af,ah⟩=>?_;have ay:=Aa (show EF ⟨X,xs,rb,cb,nb,wb⟩ adr U vw (gV vw) [] w8 from⟨⟨a8,hi8,by rw[<-show(Au vw (Ec cb) .nilIface X xs).map Prod.snd=X.map (gV vw) from MU aj.o.len];exact Hu.2 ak⟩,by
  have hb:=af _ _ _ _ ar.o;rw[yV,au.o]at hb;exact hb⟩)
 have ax:=Aa (Av.aO am.o ah (λg hg=>ai.o.2.2 g (G_.1 hg)));clear hi8 ak af ah;go_wp2_with fail;go_ret;exact⟨⟨X,xs,rb,cb,nb,wb⟩,rfl,rfl,aj.o,ay.o,ai.o,ax.o⟩
 ):=h
def ge(h:P:=by
 first
  | (have _:=tP2
     rw[L8 hm]at r0)
  |(rw[L9 hm]at r0)
 have HM:=Aa hm
 first
  | (have _:=tP2
     obtain⟨l1,l2⟩:=(AC.pos hm).1 HE5.o)
  |(obtain⟨l1,l2,l3⟩:=(AC.neg hm).1 HE5.o)
 obtain⟨L1,aw⟩:=Ah l1 (λ(u:World)(hu:u.heap[x.nb]?=wr.heap[x.nb]?)=>Qu x.nb (.func (.func 155) #[Pn cb] #[]) _ _ u (hu.c l1) (by simp) ⟨_,_,_,rfl⟩)
 first
  | (have _:=tP2
     have aA:=λu=>mQ x.nb u;clear hm l1 l2)
  | (have aA:=λu=>mJ x.nb u
     clear hm l1 l2 l3)
 go_wp2_with fail
 first
  | (have _:=tP2
     go_region_held3 (λu=>At u rb 0 (.iface 337 (Pn x.nb))/\At u rb 1 (Pn cb))
       ((go_split_ands;first|done|(refine⟨?_,?_⟩<;>first|assumption|exact zab An.drew (by assumption))))
       (first|(go_at_call 317;refine(aw.o wr.drew rfl).rtn λw6⟨ao,O⟩=>?_;obtain⟨s6,s7⟩:=Az ((O.block rb (Ak HI.o.box) (λe=>hxrb.2.1 (by injection e))).c HI.o.box);rw[yV,HE4.o,L8 HM.o]at s6)|fail)
     have aB:=Aa (i_ (hv:=Ec cb) HI.o HE1.o HE2.o HE3.o ((Bg.m An.drew).c O) (λaD h2=>by
       obtain⟨j1,j2⟩:=(AC.pos HM.o).1 h2;have e:=L1.o;unfold JN at e j1;rw[e]at j1;simp at j1;subst j1;have em:∀g,Ag wr g []->w6.heap[g]?=wr.heap[g]?:=λg hg=>O.block g hg.lt (λe=>hg.cG L1.o (by injection e with e;exact e.y));refine(AC.pos HM.o).2 ⟨?_,j2.T (em _ j2)⟩;unfold JN Ec;simpa using ao)))
  | (go_region_held3 (λu=>At u rb 0 (.iface 334 (Pn x.nb))/\At u rb 1 (Pn cb))
       ((go_split_ands;first|done|(refine⟨?_,?_⟩<;>first|assumption|exact zab An.drew (by assumption))))
       (first|(go_at_call 317;refine(aw.o wr.drew rfl).rtn λw6⟨ao,O⟩=>?_;obtain⟨s6,s7⟩:=Az ((O.block rb (Ak HI.o.box) (λe=>hxrb.2.1 (by injection e))).c HI.o.box);rw[yV,HE4.o,L9 HM.o]at s6)|fail)
     have aB:=Aa (i_ (hv:=Ec cb) HI.o HE1.o HE2.o HE3.o ((Bg.m An.drew).c O) (λaD h2=>by
       obtain⟨j1,j2⟩:=(AC.neg HM.o).1 h2;have e:=L1.o;unfold NN at e j1;rw[e]at j1;simp at j1;subst j1;have em:∀g,Ag wr g []->w6.heap[g]?=wr.heap[g]?:=λg hg=>O.block g hg.lt (λe=>hg.cG L1.o (by injection e with e;exact e.y));refine(AC.neg HM.o).2 ⟨?_,j2.1.T (em _ j2.1),j2.2.T (em _ j2.2)⟩;unfold NN Ec;simpa using ao)))
 have am:=Aa (show Bw w w6 from HI.o.C.c ((Bg.m An.drew).c O |>.d HI.o.C.size (λg e=>by injection e with e;rw[<-e];exact hxrb.1)));have ar:=Aa ((O.block rb (Ak HI.o.box) (λe=>hxrb.2.1 (by injection e))).c HI.o.box);have az:=Aa (show CS w6 cb nb wb [] [] from sO HI.o ((Bg.m An.drew).c O) (λe=>by
  have b1:=HI.o.cs.1;rw[e,show wr.heap[x.nb]?=_ from L1.o]at b1;simp at b1) (λg hg=>HI.o.cX hg L1.o))
 obtain⟨aq,aj,ai,au⟩:=Bn (wl X xs rb cb nb wb adr U vw ca HX.o w6 HI.o.maps aB.o az.o (λk c hc=>(HCX.o k c hc).O (CK.m am.o)) (HUS.o.O (CK.m am.o))) (show Js ⟨X,xs,rb,cb,nb,wb⟩ U from⟨by have:=HI.o.bn.len;rwa [yV]at this,by have:=HI.o.maps;rwa [yV]at this,HI.o.cF,HX.o.small,HX.o.sr⟩) (show w.heap.size<=rb/\w.heap.size<=cb/\∀g,RD.S ⟨X,xs,rb,cb,nb,wb⟩ g->w.heap.size<=g from⟨HI.o.al.1,HI.o.al.2.1,λg hg=>by have:=HI.o.al.2.2.2;rw[yV]at this;exact(this g hg).1⟩) (show Gj .nilIface X xs=BU (CD (Au vw (Ec cb) .nilIface X xs)) 0 from kK (by have:=HI.o.bn.len;rwa [yV]at this) HX.o.ne);clear ao O s6 s7 r0 r1 aw aA;cases hf:fc.cp.neg
 .rw[L8 hf];have e1:Hk (Au vw (Ec cb) .nilIface X xs)=325/\ND cb (Au vw (Ec cb) .nilIface X xs)=fx.nb:=by
   rw[HG1.o,HG2.o,Au];rw[Ib hf];exact⟨rfl,rfl⟩
  rw[e1.1,e1.2]at aq;have aC:=λu=>Qm fx.nb u;exact oj
 .rw[L9 hf];have e1:Hk (Au vw (Ec cb) .nilIface X xs)=320/\ND cb (Au vw (Ec cb) .nilIface X xs)=fx.nb:=by
   rw[HG1.o,HG2.o,Au];rw[Ic hf];exact⟨rfl,rfl⟩
  rw[e1.1,e1.2]at aq;have aC:=λu=>Qh fx.nb u;exact oj
 ):=h
def zml(X adr U vw ca cc M n L)(B:NW X adr U vw ca)(w)(ar:∀(k:Nat)(c:Cx),X[k]?=some c->Dp adr vw ca w k c)(aC:Br adr U w) :
  Ca 92 #[.agg #[.slice ca X.length cc,.slice M n L]] w λe w'=>∃R:RD,R.X=X/\e=.returned (.iface 248 (Pn R.rb))/\Js R U/\EF R adr U vw (gV vw) [] w'/\(w.heap.size<=R.rb/\w.heap.size<=R.cb/\∀g,R.S g->w.heap.size<=g)/\Bw w w':=by
 obtain⟨HCX,HUS,HX⟩:=AA ar aC B;have aJ:=B.X6;clear ar aC B;have aN:=Im;go_enter func92,ntmps92;go_upto_region 1 with fail;refine Be ?_;intro w1 aB ay;obtain⟨G,p1⟩:=Az ay;have ao:=Aa aB;clear aB ay;go_upto_region 2 with(first|(go_at_call 153;refine(nS _).j ?_;rintro e I ⟨cb,nb,wb,rfl,b1,Y,W,J,E,p,q,ak⟩)|fail);have aE:=zab ak G;have am:=Aa (ao.o.thn ak);have D:=ao.o.size;have aH:=am.o.size;refine Be ?_;intro w3 O ax;have az:=zab O aE;have aG:=Aa (am.o.thn O);have aA:=(O.block cb (Ak E)).c E;have aj:=Aa (show FE X w I.heap.size cb nb wb 0 [] w3 from⟨yk _,trivial,ax,⟨aA,p.T (O.block nb p.lt),q.T (O.block wb q.lt)⟩,by simp[Cz,J],qe,⟨qd,qd,λx hx=>qB,λg hg=>by
  have h1:=p.lt;have h2:=q.lt;have h3:=O.size;simp only[Y0,Cz,yG,YF,or_false]at hg;rcases hg with rfl|rfl<;>omega⟩,aG.o⟩)
 obtain⟨rb,au⟩:∃b,b=I.heap.size:=⟨_,rfl⟩
 rw[<-au]at aj⊢;clear b1 Y W J E p q ak O ax G p1 aE aA au ao am D aH;go_wp2_with fail;clear az
 go_loopw [4,14] (λH iv wr=>∃(k:Nat)(xs:List CG),iv=I6 (k:Int)/\H=JK (X.take k) xs/\FE X w rb cb nb wb k xs wr) (λ_ iv _=>X.length-(intOf iv).toNat)
 case atStart=>exact⟨0,[],rfl,rfl,aj.o⟩
 case round=>
  obtain⟨k,xs,rfl,rfl,A⟩:=hrel;have HI:=Aa A;have hk:=A.le;clear A aj aG;by_cases aI:k<X.length
  .obtain⟨c,hc⟩:=Ba aI;obtain⟨gb,aq,⟨c0,c1,K,c3⟩,_⟩:=(HCX.o k c hc).O (CK.m HI.o.C);rw[aq];have z0:(0:Int)<=(k:Int):=qd;have Z:(k:Int)<(X.length:Int):=qd;have HC:=Aa hc;obtain⟨H,af⟩:∃v,v=JK (X.take k) xs:=⟨_,rfl⟩
   rw[<-af];have HFV:=Aa af;clear hc aq af;go_upto_region 6 with fail;refine Be ?_;intro w4 aw aD;obtain⟨d0,d1,d2,d3⟩:=Ay aD;have HI4:=Aa (HI.o.bH aw);have r0:=Az HI4.o.box;obtain⟨r0,_⟩:=r0;obtain⟨lv,ah⟩:∃v,v=Gj .nilIface (X.take k) xs:=⟨_,rfl⟩
   rw[<-ah]at r0;have aF:lv=.nilIface∨∃t v,lv=.iface t v:=by rw[ah];exact li (.inl rfl)
   have HLV:=Aa ah;have aK:wr.heap.size≠rb:=by have:=Ak HI.o.box;omega
   have HLK:=Aa aF;clear aw aD c0 c1 K c3 ah aF HI;cases hn:c.cp.neg
   .have tP1:=trivial;exact gL
   exact gL
  obtain rfl:k=X.length:=qd;have Z:¬(X.length:Int)<(X.length:Int):=qd;obtain⟨aM,c,xs',x,aL,e1,e2,e3,e4,e5⟩:=HI.o.bn.bN (by rw[yV];exact HX.o.ne);rw[yV]at e1 e4;obtain⟨HE1,HE2,HE3⟩:=AA e1 e2 e3;have r:=Az HI.o.box;obtain⟨r0,r1⟩:=r;rw[yV,e4]at r0;obtain⟨HE5,HE4⟩:=Ah e5 e4;obtain⟨fc,fx,f,ai,s,z⟩:∃fc fx f ai,X=fc::f/\xs=fx::ai:=by
   have hl:=HI.o.bn.len;rw[yV]at hl
   match X,xs,HX.o.ne,hl with
   |fc::f,fx::ai,_,_=>exact⟨fc,fx,f,ai,rfl,rfl⟩
   |[],_,h,_=>exact(h rfl).elim
   |_::_,[],_,h=>simp at h
  obtain⟨HG1,HG2⟩:=Ah s z;have af:JK (X.take X.length) xs=Ek fc fx:=by
   rw[yV,s,z];rfl
  rw[af];have hxrb:=HI.o.al.2.2.1 x (by rw[e2];simp);clear e1 e2 e3 e4 e5 s z af;cases hm:c.cp.neg
  .have tP2:=trivial;exact ge
  exact ge
end
end Go.Proofs.YtikojfajahnhgaaGreat
