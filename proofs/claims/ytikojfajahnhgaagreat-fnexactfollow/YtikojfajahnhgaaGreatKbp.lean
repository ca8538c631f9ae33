import Derived.Test.YtikojfajahnhgaaGreatKbi
import Derived.Test.YtikojfajahnhgaaGreatKbo
set_option linter.all false
set_option maxHeartbeats 12800000
set_option maxRecDepth 100000
namespace Go.Proofs.YtikojfajahnhgaaGreat
attribute [local simp] At I6 Pn mzI
attribute [local go_sem] At I6 Pn
open Go.RowKit Go.Proofs.Tryz
section
open Go.Maps
attribute [local go_sem ↓] wp_at_zero wp_at_succ
def zoW{α:Type}{l O:List α}{k c}(h:l.drop k=c::O):l[k]?=some c/\l.drop (k+1)=O:=by
 constructor
 .have:=congrArg (λx=>x[0]?) h;simpa using this
 rw[<-List.drop_drop,h];rfl
def ZK(k):((k+1:Nat):Int)=(k:Int)+1:=qe
def rP(Z J q N)(v:∀s W d,J s W->Bw W d->J s d)(U:∀(mm:Nat)(a:List (Ft Z))(x:Ft Z)(w:World),J a w->a.length<N->YieldAt Fence.wide mm prog Z.l #[Me x] w λe d=>(e=.returned (.bool true)/\J (a++[x]) d/\CK w d)∨(e=.returned (.bool false)/\q (a++[x]) d)) :
  ∀ (Y:List Cx) (k:Nat) (T:List F) (i g j:Option Addr) (a:List (Ft Z)) (W:World),Z.X.drop k=Y->k<=Z.X.length->Ho Z W->LE Z i g j T->Jd Z k Y T->J a W->a.length+(Dz Z k Y T).length<=N ->
   Ca 109 #[I6 (k:Int),.agg #[.pointer i,.pointer g,.pointer j],Pn Z.pb,Pn Z.yb,Pn Z.sb,Pn Z.xb] W (Mp Z J q a (Dz Z k Y T) W):=by
 intro Y
 induction Y with
 |nil=>
  intro k T i g j a W u M r o D t n;have R:k=Z.X.length:=by
   have H:=congrArg List.length u;rw[List.length_drop]at H;simp at H;omega
  subst R;exact rp Z J q N v U T i g j o a W r t (by simp[Dz]at n;omega)
 |cons c Y ih=>
  intro k T i g j a W u M r o D t n;obtain⟨z,C⟩:=zoW u;have az:k<Z.X.length:=(yf.1 z).1;obtain⟨K,y,m,E,O⟩:=D;cases b:c.cp.neg with
  |true=>
   rw[if_pos b]at O;have e:Dz Z k (c::Y) T=if FB Z k c T=true/\(Z.vw c.node).2.2.any (λf=>c.cp.ah.all (Aq T f))=false then Dz Z (k+1) Y T else []:=by
    rw[Dz,if_pos b]
   rw[e]at n⊢;refine r6 Z J q v c k z T i g j a W r o m E t b (Dz Z (k+1) Y T) _ (λh=>?_) (λh=>?_) (λh d B A=>?_)
   .rw[if_neg h]
   .rw[if_pos h]
   .rw[if_pos h]at n;have p:=ih (k+1) T i g j a d C qd B o O A n;rw[ZK]at p;exact p
  |false=>
   rw[if_neg (by rw[b];simp)]at O;have e:Dz Z k (c::Y) T=(Ef Z k c).flatMap (λf=>if c.cp.ah.all (Aq T f)=true then Dz Z (k+1) Y (T++[f]) else []):=by
    rw[Dz,if_neg (by rw[b];simp)]
   rw[e]at n⊢;refine rn Z J q v c k z T i g j a W r o m E t b K (y b) N _ (λf=>if c.cp.ah.all (Aq T f)=true then Dz Z (k+1) Y (T++[f]) else []) rfl n (λf _ h=>?_) (λf hf h L d q0 q1 I B A G ay=>?_)
   .simp[h]
   simp only[if_pos h]at G⊢;have p:=ih (k+1) (T++[f]) q0 q1 I L d C qd B ay (O f hf h) A G;rw[ZK]at p;exact p
def zj8{P}(w a m fn x y):(store a (.func fn x y) m).run P w=stored P w a (.func fn x y) m:=run_store P w a _ m rfl
def u9{P:World->Prop}{w b t x0 y0}(O:w.heap[b]?=some (.cells #[x0] t (0,0)))(h:∀wt,wt.heap[b]?=some (.cells #[y0] t (0,0))->Turned w wt b->P wt):P (w.setCell ⟨b,0,none⟩ y0):=by
 exact mr
def YieldAt.dv{m}(b){P l args W R}(h:YieldAt Fence.wide m P l args W R):YieldAt Fence.wide b P l args W R:=by
 obtain⟨fn,tmps,assign,body,d,a⟩:=h;exact⟨fn,tmps,assign,body,d,a.1,λc cs _=>a.2 c cs (room_wide _)⟩
def zmu{α}{J:List α->World->Prop}{B}(h:AbidesFrom B J):∀s W b,J s W->Bw W b->J s b:=λs W b c a=>
 h s W b none c ⟨a.os,a.tape,a.output,a.size,λk d _=>a.block k d⟩ (λr e=>qp)
structure SY(Z:SN) (W:World):Prop where
 pl:W.heap[Z.pb]?=some (.cells #[.slice Z.ca Z.X.length Z.cc,Z.vv] 102 (0,0))
 sd:W.heap[Z.sb]?=some (.cells #[.int .i64 Z.sa,.pointer (Z.sf.map Z.adr)] 108 (0,0))
 cx:∀(k:Nat)(c:Cx),Z.X[k]?=some c->Ed Z.adr Z.vw Z.ca W k c
 us:Bl Z.adr Z.U W
def SY.ck{Z W b}(h:SY Z W)(a:CK W b):SY Z b:=⟨a _ _ _ _ h.pl,a _ _ _ _ h.sd,λk c d=>(h.cx k c d).ck a,h.us.ck a⟩
def Is(Z)(J m:List (Ft Z)->World->Prop)(r:∀s W b,J s W->Bw W b->J s b)(W)(hS:SY Z W)(p:Z.yb=W.heap.size)(t:Z.xb=W.heap.size+1)(G:Jd Z 0 Z.X [])(C:∀(H:Nat)(a:List (Ft Z))(x:Ft Z)(d:World),J a d->a.length<(Dz Z 0 Z.X []).length->YieldAt Fence.wide H prog Z.l #[Me x] d λe b=>(e=.returned (.bool true)/\J (a++[x]) b/\CK d b)∨(e=.returned (.bool false)/\m (a++[x]) b))(I:J [] W) :
  Ca 108 #[.func (.yield Z.l) #[] #[],Pn Z.pb,Pn Z.sb] W λe b=>(∃v,e=.returned v)/\((∃xs:List (Ft Z),xs.map (λy=>y.1)=Dz Z 0 Z.X []/\J xs b)∨(∃a,True/\m a b)):=by
 have M:=Iu;go_enter func108,ntmps108;go_upto_region 2 with fail;refine Bo ?_;intro B u Y O;rw[<-p]at Y⊢;rw[<-t]at O;rw[show Z.yb+1=Z.xb by omega];have N:Z.yb<Z.xb:=qd;have L:W.heap.size<=Z.yb:=qd;clear p t;have A:=@zj8 prog;have D:=A3 O;have E:B.frozen? ⟨Z.xb,0,none⟩=false:=QG;go_upto_region 3 with fail
 refine u9 O ?_;intro k g c;have i:Bw W k:=u.j (c.J qd);have n:=(c.block Z.yb qd).j Y;clear D E Y O c u A;have hS2:=hS.ck (CK.ab i);have K:=Aa (show Ho Z k from⟨hS2.pl,n,hS2.sd,g,hS2.cx,hS2.us⟩);have x0:=A3 g;have w:=Aa (rP Z J m _ r C Z.X 0 [] none none none [] k qe (yA _) K.o ⟨rfl,qe,λf hf=>Mi⟩ G (r _ _ _ I i) qe);clear i n g hS hS2;go_wp2_with fail;refine w.o.ac ?_;rintro e R (⟨rfl,ys,hl,hj,_⟩|⟨rfl,q,z⟩)
 .go_wp2_with fail;go_end0;exact⟨⟨_,rfl⟩,.inl ⟨ys,hl,QE⟩⟩
 go_wp2_with fail;go_end0;exact⟨⟨_,rfl⟩,.inr ⟨q,trivial,z⟩⟩
def vK(a v1 sa b i n f k d p)(m:a=.slice i f k)(q:v1=.slice n d p)(w) :
  Ca 57 #[.agg #[a,v1],.agg #[I6 sa,.pointer b]] w λe w'=>e=.returned (.func (.func 108) #[] #[Pn w.heap.size,Pn (w.heap.size+1)])/\Hid (w'.heap[w.heap.size]?=some (.cells #[a,v1] 102 (0,0)))/\Hid (w'.heap[w.heap.size+1]?=some (.cells #[I6 sa,.pointer b] 108 (0,0)))/\Bw w w':=by
 subst m q;have r:=Iu;go_enter func57,ntmps57;go_upto_region 1 with fail;refine Bo ?_;intro s c O Y;obtain⟨l,g,j⟩:=AQ c O Y;clear c O Y;go_wp2_with fail;go_ret;exact⟨rfl,g,j,l.o⟩
def tR(w):Ca 58 #[] w λe w'=>e=.returned (.agg #[I6 (-1),.pointer none])/\Bw w w':=by
 go_enter func58,ntmps58;go_wp2_with fail;refine bodyPost_ret (v:=.agg #[I6 (-1),.pointer none]) (by simp[results,results58,go_sem]) rfl ⟨rfl,?_⟩
 first
 |exact Af
 |exact(Af.setCell qe _).setCell qe _
section
variable {Z Z' : SN} (h1 : Z'.vw = Z.vw) (h2 : Z'.sa = Z.sa) (h3 : Z'.sf = Z.sf)
def vP(k:Nat)(c:Cx)(T:List F):FB Z' k c T=FB Z k c T:=by
 unfold FB;rw[h2,h3]
def iH(k:Nat)(c:Cx):Ef Z' k c=Ef Z k c:=by
 unfold Ef;rw[h1,h2,h3]
def US:∀(cs:List Cx)(k:Nat)(T:List F),Dz Z' k cs T=Dz Z k cs T
 |[],_,_=>rfl
 |c::cs,k,T=>by
  have O:=US cs
  unfold Dz
  rw[iH h1 h2 h3,vP h2 h3,h1]
  simp only[O]
def U7:∀(cs:List Cx)(k:Nat)(T:List F),Jd Z' k cs T↔Jd Z k cs T
 |[],_,_=>Iff.rfl
 |c::cs,k,T=>by
  have O:=U7 cs
  unfold Jd
  rw[iH h1 h2 h3,h1,h2,h3]
  simp only[O]
end
def Y_(Z n w)(hS:SY Z w)(Y:Jd Z 0 Z.X []) :
  SeqStopsK Fence.wide n prog 108 #[Pn Z.pb,Pn Z.sb] (λx:Ft Z=>#[Me x]) CK (λys=>ys.map (λy=>y.1)=Dz Z 0 Z.X []) (λ_=>True) (Dz Z 0 Z.X []).length w:=by
 intro l J m W k c _ d i;refine callsIn_wide.2 ?_;have O:=hS.ck (CK.ab k);have e:=US (Z:=Z) (Z':={ Z with l:=l,yb:=W.heap.size,xb:=W.heap.size+1 }) rfl rfl rfl Z.X 0 [];have h:=Is { Z with l:=l,yb:=W.heap.size,xb:=W.heap.size+1 } J m (zmu c) W ⟨O.pl,O.sd,O.cx,O.us⟩ rfl rfl ((U7 (Z:=Z) (Z':={ Z with l:=l,yb:=W.heap.size,xb:=W.heap.size+1 }) rfl rfl rfl Z.X 0 []).2 Y) (λg a x f hj hl=>YieldAt.dv g (d a x f hj (by rw[<-e];exact hl))) i;refine h.ac λp r q=>⟨q.1,?_⟩
 rcases q.2 with⟨xs,o,b⟩|q
 .exact .inl ⟨xs,o.j e,b⟩
 exact .inr q
end
section
open Go.Maps
attribute [local go_sem ↓] wp_at_zero wp_at_succ
attribute [local go_sem] Oper.semAt_some
def rO(Ds:List Nat):List Deferred:=Ds.map (λD=>{ target:=.collected D,args:=#[] })
structure ZH(B:Nat) (Ds:List Nat) (W:World):Prop where
 nodup:Ds.Nodup
 each:∀D∈Ds,B<=D/\W.heap[D]?=some (.deferred (some []))
structure Q_(B:Nat) (W W':World):Prop where
 ar:Below B W W'
 bY:CK W W'
def Ut{n fn tmps R B}:∀(d:List Nat)(W:World),ZH B d W->(∀a,Q_ B W a->∃v,(results fn tmps).run prog a=.ok v a/\R (.returned v) a)->LeavesInM Fence.wide n prog fn tmps R (rO d) .returning W
 |[],W,_,h=>h W ⟨Aj,λ_ _ _ _ h=>h⟩
 |D::d,W,hd,h=>by
  obtain⟨m,g⟩:=hd.each D qe
  have l:=Yg.1 hd.nodup
  have Y:Q_ B W (W.putObj D (.deferred none)):=⟨⟨rfl,rfl,rfl,qe,λk b=>Yx qd⟩,λk c t o b=>by
   rw[Yx (λe=>by subst e;rw[g]at b;cases b)]
   exact b⟩
  refine⟨qe,.inl ⟨D,_,rfl,run_takeDeferred g,Ut d _ ⟨l.2,λf O=>⟨(hd.each f (by simp[O])).1,?_⟩⟩ (λa i=>h a ⟨Y.ar.j i.ar,Y.bY.j i.bY⟩)⟩⟩
  rw[Yx (λe=>l.1 (by rw[<-e];exact O))]
  exact(hd.each f (by simp[O])).2
def CK.dM{W l o o'}(hl:W.heap[l]?=some o)(b:o.isCells=false):CK W (W.putObj l o'):=λg c t d a=>by
 rw[Yx (λe=>by subst e;rw[hl]at a;cases a;simp[Obj.isCells]at b)];exact a
structure LQ{Z:SN} (old:List Kt) (cb nb wb B:Nat) (K0:List Kt) (w:World) (pre:List (Ft Z)) (W:World):Prop where
 ex:∃K M,(∀x,x∈K↔x∈K0∨x∈(pre.map (λy=>y.1)).map (Ab Z.adr))/\BU old K M/\CS W cb nb wb K M
 ck:CK w W
 mp:Av (λg=>g=nb∨g=wb) w W
 low:nb<B/\wb<B/\w.heap.size<=B
def LQ.own{Z old cb nb wb B K0 w}:OwnFrom B (LQ (Z:=Z) old cb nb wb B K0 w):=by
 intro s W l row h b m;have key:∀k,k<W.heap.size->(k<B∨∃c t f,W.heap[k]?=some (.cells c t f))->l.heap[k]?=W.heap[k]?:=λk i d=>b.block k i (λe=>by
  obtain⟨x,o,u,p⟩:=m k e.ai;rcases d with d|⟨c,t,f,d⟩
  .omega
  rw[u]at d;cases d;simp[Obj.isCells]at p)
 have Y:CK W l:=λg c t f O=>(key g (As O) (.inr ⟨_,_,_,O⟩)).j O;obtain⟨K,M,r,v,a⟩:=h.ex;refine⟨⟨K,M,r,v,Y _ _ _ _ a.q,a.now.same (key nb a.now.lt (.inl h.low.1)) Y,a.news.same (key wb a.news.lt (.inl h.low.2.1)) Y,a.ne⟩,h.ck.j Y,⟨?_,λg O n=>(key g (yh O h.mp.rest.size) (.inl (yh O h.low.2.2))).j (h.mp.block g O n)⟩,h.low⟩;exact h.mp.rest.j ⟨b.os,b.tape,b.output,b.size,λk i=>qd⟩
def LQ.ar{Z old cb nb wb B K0 w}{a:List (Ft Z)}{W c}(h:LQ old cb nb wb B K0 w a W)(b:Bw W c):LQ old cb nb wb B K0 w a c:=by
 obtain⟨K,M,e,d,f⟩:=h.ex;exact⟨⟨K,M,e,d,f.J b⟩,h.ck.j (CK.ab b),h.mp.j (Av.ab b),h.low⟩
def rH{B W b S}(a:Av S W b)(d:∀g,S g->g<B):KeepsFrom B W b:=by
 refine⟨a.rest.size,λk o e c _=>?_⟩;exact(a.block k (ym.1 c).1 (λq=>by have:=d k q;omega)).j c
def zoP{W b}(a:Bw W b):KeepsOthers W b:=⟨a.size,λk _ c _=>(a.block k (ym.1 c).1).j c⟩
def TK(Z:SN)(A:Value->Value->Act)(x:Ft Z)(a:Act)(W:World):Prop:=∃tb,W.heap[tb]?=some (.cells #[.pointer (Ab Z.adr x.1).1,.pointer (Ab Z.adr x.1).2.1,.pointer (Ab Z.adr x.1).2.2] 111 (0,0))/\a=A (.pointer (some ⟨tb,0,none⟩)) (Me x)
def TK.own{Z B A}(x a):OwnFrom B (λ(_:Unit)W=>TK Z A x a W):=by
 intro _ W l row h f d;obtain⟨c,b,k⟩:=h;refine⟨c,(f.block c (As b) (λe=>?_)).j b,k⟩;obtain⟨_,o,i,g⟩:=d c e.ai;rw[i]at b;cases b;simp[Obj.isCells]at g
def iO(Z old K M mb cb nb wb va n vc w)(hv:Z.vv=.slice va n vc)(ar:NP w mb (.slice Z.ca Z.X.length Z.cc) Z.vv cb)(aR:∀(k:Nat)(c:Cx),Z.X[k]?=some c->Ed Z.adr Z.vw Z.ca w k c)(aZ:Bl Z.adr Z.U w)(hC:CS w cb nb wb K M)(hN:BU old K M)(aW:Jd Z 0 Z.X []) :
  Ca 156 #[Pn mb,.agg #[I6 Z.sa,.pointer (Z.sf.map Z.adr)]] w λe w'=>e=.returned (.tuple #[])/\(∃K' M',(∀x,x∈K'↔x∈K∨x∈(Dz Z 0 Z.X []).map (Ab Z.adr))/\BU old K' M'/\CS w' cb nb wb K' M')/\CK w w'/\Av (λg=>g=nb∨g=wb) w w':=by
 obtain⟨ax,HC,HN,HCX,HUS,aM,HV⟩:=H5 ar hC hN aR aZ aW hv;clear ar hC hN aR aZ aW hv;refine(callsIn_wide (n:=9)).1 ?_;refine callsIn_of_wp_marks func156 rfl trivial ?_ rfl;simp only[ntmps156,List.size_toArray,yH,YV,Nat.reduceAdd,Nat.reduceSub,Array.replicate_succ,Array.replicate_zero,List.push_toArray,List.append_toArray,Yj,Ye];refine wpIn_wide.2 ?_;go_upto_region 1 with fail;refine Bo ?_;intro b aL aF aG;obtain⟨Q1,Q2⟩:=Ak aF aG;have m0:=A3 aF;obtain⟨s0,s1⟩:=Ay aG;have aH:=Aa aL;have az:=(aL.block mb (As ax.o)).j ax.o;have v0:=AF (L:=[_,_,_]) az (j:=0) rfl;have v1:=AF (L:=[_,_,_]) az (j:=1) rfl;have v2:=AF (L:=[_,_,_]) az (j:=2) rfl;clear aL aF aG az;go_wp2_with fail;refine wp_region_noPanic ?_;refine wp_region_held_drew (S:=(λu=>At u w.heap.size 0 (Pn mb)/\At u (w.heap.size+1) 0 (I6 Z.sa)/\At u (w.heap.size+1) 1 (.pointer (Z.sf.map Z.adr))/\At u mb 0 (.slice Z.ca Z.X.length Z.cc)/\At u mb 1 Z.vv)) qf ?_ (λhHeld=>?_)
 ·(try dsimp only);exact⟨m0,s0,s1,v0,v1⟩
 refine sr 0 5 ?_;refine wpAnyH_ready (rs:=[5]) qf qe ?_;refine Yi (yj.j rfl) (λK f=>?_) Ys;go_simp;(go_at_call 57;refine (vK _ _ Z.sa (Z.sf.map Z.adr) Z.ca va Z.X.length Z.cc n vc rfl HV.o _).ac ?_;rintro e' m ⟨rfl,aQ,aK,E⟩);(try go_wp2_with fail);refine f.o _ _ (by (try dsimp only);exact ⟨zab E m0,zab E s0,zab E s1,zab E v0,zab E v1⟩) λhHeld=>?_;clear f K;(try simp only[pA,pZ,pS,pN]);refine wpAnyH_done qf ?_ _;refine Yf ?_;have bd:b.heap.size+1<m.heap.size:=As aK.o;obtain ⟨s,aD,aC,a6⟩:=BE (show Bw w m from aH.o.drew.j (E.ac (show w.heap.size<=b.drew.heap.size from aH.o.size))) (show m.heap[b.heap.size]?=some (.cells #[.slice Z.ca Z.X.length Z.cc,Z.vv] 102 (0,0)) from aQ.o) (show m.heap[b.heap.size+1]?=some (.cells #[I6 Z.sa,.pointer (Z.sf.map Z.adr)] 108 (0,0)) from aK.o) ((E.block w.heap.size (As Q1.o)).j Q1.o);have a4:=Aa (show NP m mb (.slice Z.ca Z.X.length Z.cc) Z.vv cb from (s.o.block mb (As ax.o)).j ax.o);have bg:=HC.o.now.lt;have bh:=HC.o.news.lt;have aB:=s.o.size;obtain ⟨EX,bc,a8⟩:=AQ (US (Z:=Z) (Z':={ Z with pb:=b.heap.size,sb:=b.heap.size+1 }) rfl rfl rfl Z.X 0 []) (show LQ (Z:={ Z with pb:=b.heap.size,sb:=b.heap.size+1 }) old cb nb wb m.heap.size K m [] m from ⟨⟨K,M,λx=>qe,HN.o,HC.o.J s.o⟩,λ_ _ _ _ h=>h,Av.refl _ _,qd,qd,yX _⟩) (Y_ { Z with pb:=b.heap.size,sb:=b.heap.size+1 } 8 m ⟨aD.o,aC.o,λk c hc=>(HCX.o k c hc).ck (CK.ab s.o),HUS.o.ck (CK.ab s.o)⟩ ((U7 (Z:=Z) (Z':={ Z with pb:=b.heap.size,sb:=b.heap.size+1 }) rfl rfl rfl Z.X 0 []).2 aM.o));clear hHeld m0 s0 s1 v0 v1 v2 E aQ aK aD aC HCX aM HC HN aH Q1 Q2;go_wp2_with fail;refine (wpIn_wide (n:=9)).1 ?_;refine wpIn_rangeFunc_ownH (α:=Ft { Z with pb:=b.heap.size,sb:=b.heap.size+1 }) rfl qh (gf:=108) (lb:=#[Pn b.heap.size,Pn (b.heap.size+1)]) rfl trivial (enters_of func108 qf rfl)
  a8.o (λh k=>CK.j h k) (λW l o o' _ h2 h3 _=>CK.dM h2 h3) Aj (λ_=>rfl)
  (LQ old cb nb wb m.heap.size K m) (λ_ _ _=>False) LQ.own (λ_ _ _ _ _ hs _ _=>hs) bc.o
  (TK { Z with pb:=b.heap.size,sb:=b.heap.size+1 } (λpv tv=>{ tmps:=#[Pn mb,.agg #[I6 Z.sa,.pointer (Z.sf.map Z.adr)],Pn w.heap.size,Pn (w.heap.size+1),pv,Pn mb,Pn mb,Pn mb,.agg #[.slice Z.ca Z.X.length Z.cc,Z.vv],.agg #[I6 Z.sa,.pointer (Z.sf.map Z.adr)],.func (.func 108) #[] #[Pn b.heap.size,Pn (b.heap.size+1)],tv,undef,undef,undef,undef,undef,undef,undef,undef,undef,undef,undef,undef,undef],defers:=[] })) (λx a=>TK.own x a) ?assign ?body ?done ?stop
 case assign=>
  rintro l aa x p Kc r f;simp only[Me,AU];obtain⟨C,a9⟩:=Ak r f;clear r f;gi_wp2;exact a9.o _ _ ((KeepsOthers.alloc _ _).from _) (CK.ab Af) (C.o.ar Af) ⟨p.heap.size,heap_alloc_new _ _,rfl⟩
 case body=>
  rintro l aa x a' p bf _ r ⟨t,ar,rfl⟩ T;obtain⟨H,M1,aA,au,af⟩:=r.ex;have ay:=r.ck;have m0:=A3 (ay _ _ _ _ a6.o);have v2:=AF (L:=[_,_,_]) (ay _ _ _ _ a4.o) (j:=2) rfl;obtain⟨t0,t1,t2⟩:=Ao ar;obtain⟨N,aw⟩:∃q,q=Ab Z.adr x.1:=⟨_,rfl⟩
  have a7:=t0;have a0:=Aa (show AK p N by rw[aw];exact Oq (HUS.o.ck ((CK.ab s.o).j ay)) x.2.2);obtain⟨ak,aE,G,aN,aJ,A,aV⟩:=H5 (λ(u:World)(hu:Bw p u)=>xg cb nb wb H M1 N u (af.J hu) (a0.o.J hu)) (λ(u:World)(hu:Bw p u)(hx:N ∉ H)=>g_ cb nb wb H M1 N u (af.J hu) (a0.o.J hu) hx (au.bX _)) af au aA r aw;simp only[show Ab ({ Z with pb:=b.heap.size,sb:=b.heap.size+1 }:SN).adr x.1=N from aw.ai]at t0 t1 t2;obtain⟨x0,x1,I⟩:=N;simp only[AU]at t0 t1 t2 ak aE;clear r ar T aA au af ay aw a7;by_cases R:(x0,x1,I)∈H
  .have av:=Aa R;rw[decide_eq_true R]at ak;clear R;gi_wp2;refine VF (S:=(λu=>At u w.heap.size 0 (Pn mb)/\At u mb 2 (Pn cb)/\At u t 0 (.pointer x0)/\At u t 1 (.pointer x1)/\At u t 2 (.pointer I))) Ze qB qf ?_ (λhHeld=>?_)
   ·(try dsimp only);exact⟨m0,v2,t0,t1,t2⟩
   refine sr 0 5 ?_;refine wpAnyH_ready (rs:=[5]) qf qe ?_;refine Yi (yj.j rfl) (λK f=>?_) Ys;go_simp;(go_at_call 212;refine(ak.o _ Aj.drew).ac ?_;rintro e' w3 ⟨rfl,O⟩);(try go_wp2_with fail);refine f.o _ _ qV λhHeld=>?_;clear f K;(try simp only[pA,pZ,pS,pN]);refine sr 6 7 ?_;refine wpAnyH_done qf ?_ _;refine Yf ?_;have d:=Aa (show Bw p w3 from Aj.drew.j (O.ac qe));clear O hHeld;gi_wp2;exact⟨(zoP d.o).from _,CK.ab d.o,⟨H,M1,λy=>by rw[aJ.o y,yJ,yJ,yr];exact⟨λq=>q.elim .inl (λq=>.inr (.inl q)),λq=>q.elim .inl (λq=>q.elim .inr (λq=>by simp only[yn,YF,yv]at q;rw[q,<-show(x0,x1,I)=Ab Z.adr x.1 from aV.o];exact(aJ.o _).1 av.o))⟩,aN.o,G.o.J d.o⟩,A.o.ck.j (CK.ab d.o),A.o.mp.j (Av.ab d.o),A.o.low⟩
  .have av:=Aa R;rw[decide_eq_false R]at ak;clear R;gi_wp2;refine VF (S:=(λu=>At u w.heap.size 0 (Pn mb)/\At u mb 2 (Pn cb)/\At u t 0 (.pointer x0)/\At u t 1 (.pointer x1)/\At u t 2 (.pointer I))) Ze qB qf ?_ (λhHeld=>?_)
   ·(try dsimp only);exact⟨m0,v2,t0,t1,t2⟩
   refine sr 0 5 ?_;refine wpAnyH_ready (rs:=[5]) qf qe ?_;refine Yi (yj.j rfl) (λK f=>?_) Ys;go_simp;(go_at_call 212;refine(ak.o _ Aj.drew).ac ?_;rintro e' w3 ⟨rfl,O⟩);(try go_wp2_with fail);refine f.o _ _ qV λhHeld=>?_;clear f K;(try simp only[pA,pZ,pS,pN]);refine sr 6 7 ?_;refine wpAnyH_done qf ?_ _;refine Yf ?_;have d:=Aa (show Bw p w3 from Aj.drew.j (O.ac qe));clear O hHeld;have aS:=zab d.o m0;have aY:=zab d.o v2;have aO:=zab d.o t0;have aT:=zab d.o t1;have aX:=zab d.o t2;gi_wp2;refine VF (S:=(λu=>At u w.heap.size 0 (Pn mb)/\At u mb 2 (Pn cb)/\At u t 0 (.pointer x0)/\At u t 1 (.pointer x1)/\At u t 2 (.pointer I))) Ze (by intro i o ho c hc;rcases i with _|_|_|_|_|_|i<;>simp at ho<;>subst ho<;>cases hc) qf ?_ (λhHeld=>?_)
   ·(try dsimp only);exact⟨aS,aY,aO,aT,aX⟩
   refine sr 0 5 ?_;refine wpAnyH_ready (rs:=[5]) qf qe ?_;refine Yi (yj.j rfl) (λK f=>?_) Ys;go_simp;(go_at_call 210;refine(aE.o _ d.o.drew av.o).ac ?_;rintro e' w6 ⟨rfl,aP,Y⟩);(try go_wp2_with fail);refine f.o _ _ (by(try dsimp only);exact⟨(G.o.J d.o.drew).ck Y |>.cell aS,(G.o.J d.o.drew).ck Y |>.cell aY,(G.o.J d.o.drew).ck Y |>.cell aO,(G.o.J d.o.drew).ck Y |>.cell aT,(G.o.J d.o.drew).ck Y |>.cell aX⟩) λhHeld=>?_;clear f K;(try simp only[pA,pZ,pS,pN]);refine wpAnyH_done qf ?_ _;refine Yf ?_;have aI:Av (λg=>g=nb∨g=wb) p w6:=(Av.ab d.o).j ((Av.ab Aj.drew).j Y);have aU:CK p w6:=G.o.ck aI;exact⟨rH aI (λg hg=>by rcases hg with rfl|rfl;exact A.o.low.1;exact A.o.low.2.1),aU,⟨_,_,λy=>by rw[yr,aJ.o y,yJ,yJ,yr,or_assoc,show [(x0,x1,I)]=(List.map (λy:Ft { Z with pb:=b.heap.size,sb:=b.heap.size+1 }=>y.1) [x]).map (Ab Z.adr) by rw[yn,YF,yn,YF,show(x0,x1,I)=Ab Z.adr x.1 from aV.o]],aN.o.bO av.o,aP⟩,A.o.ck.j aU,A.o.mp.j aI,A.o.low⟩
 case done=>
  rintro D ys p hD hS r f;obtain⟨C,HK,HS⟩:=AQ r f hS;clear hS r f;go_wp2_with fail;refine Ut (B:=m.heap.size) [D] _ ⟨qe,λD' a5=>by rw[yv.1 a5];exact⟨hD,HK.o⟩⟩ ?_;intro W2 z;obtain⟨H,M1,aA,au,af⟩:=C.o.ex;refine⟨_,results_none rfl _ _ _,rfl,⟨H,M1,λy=>?_,au,z.bY _ _ _ _ af.q,af.now.same (z.ar.block nb C.o.low.1) z.bY,af.news.same (z.ar.block wb C.o.low.2.1) z.bY,af.ne⟩,(CK.ab s.o).j (C.o.ck.j z.bY),⟨((s.o.ac (yA _)).j C.o.mp.rest).j (z.ar.ac (yA _)),λg hg hn=>(z.ar.block g (yh hg aB)).j ((C.o.mp.block g (yh hg aB) hn).j (s.o.block g hg))⟩⟩;rw[aA y];have e:List.map (λy=>y.1) ys=Dz Z 0 Z.X []:=HS.o.j EX.o;rw[e]
 case stop=>
  rintro D c aa W _ _ h _;exact h.elim
end
section
attribute [local go_sem ↓] wp_at_zero wp_at_succ
def gI{w p q}(b:Bc w p)(a:Bc w q):(binOp .eql 106 (.pointer p) (.pointer q)).run prog w=.ok (.bool (decide (p=q))) w:=by
 have h:=Rv tys 9999 b a;simp[binOp,Op.equal,Op.maxDepth,h]
def uL(b c)(a:List (Option Addr))(v w)(g:∀(i:Nat)p,a[i]?=some p->At w b i (.pointer p))(m:∀p∈a,Bc w p)(hv:Bc w v)(hl:a.length<=1000) :
  Ca 315 #[.slice (some ⟨b,0,none⟩) a.length c,.pointer v] w λe w'=>∃r:Int,e=.returned (I6 r)/\(0<=r↔v∈a)/\w'=w:=by
 obtain⟨u,x,n⟩:=AQ g m hv;clear g m hv;go_enter func315,ntmps315;go_wp2_with fail
 go_loopw [8] (λiv wr=>∃k:Nat,iv=I6 (k:Int)/\k<=a.length/\v ∉ a.take k/\wr=w) (mz a.length)
 case atStart=>exact⟨0,rfl,yA _,qe,rfl⟩
 case round=>
  obtain⟨k,rfl,z,d,q⟩:=hrel;subst q;by_cases t:k<a.length
  .obtain⟨p,O⟩:=AJ t;have y:=u.o k p O;have A:(0:Int)<=(k:Int):=qd;have s:(k:Int)<(a.length:Int):=qd;obtain⟨Y,l⟩:=Ak d O;have j:=gI n.o (x.o p (yd O));clear d O;by_cases e:v=p
   .have f:=Aa e;rw[decide_eq_true e]at j;clear e;go_wp2_with fail;refine bodyPost_ret (v:=I6 (k:Int)) (by simp[results,results315,go_sem]) rfl ⟨_,rfl,⟨λ_=>by rw[f.o];exact yd l.o,λ_=>qd⟩,rfl⟩
   have f:=Aa e;rw[decide_eq_false e]at j;clear e;go_wp2_with fail;go_roundw
   case rel=>
    refine⟨k+1,ql,qd,?_,trivial⟩;rw[yY,l.o];simp only[Option.toList_some,yr,yv,not_or];exact⟨Y.o,f.o⟩
   case measure=>(simp;omega)
  obtain rfl:k=a.length:=qd;have s:¬(a.length:Int)<(a.length:Int):=qd;have Y:=Aa d;clear d;go_wp2_with fail;refine bodyPost_ret (v:=I6 (-1)) (by simp[results,results315,go_sem]) rfl ⟨_,rfl,⟨λh=>qd,λh=>?_⟩,rfl⟩;have:=Y.o;rw[yW]at this;exact absurd h this
def zkF(b c)(a:List (Option Addr))(v w)(g:∀(i:Nat)p,a[i]?=some p->At w b i (.pointer p))(j:∀p∈a,Bc w p)(hv:Bc w v)(hl:a.length<=1000) :
  Ca 314 #[.slice (some ⟨b,0,none⟩) a.length c,.pointer v] w λe w'=>e=.returned (.bool (decide (v∈a)))/\w'=w:=by
 have l:=Aa (uL b c a v w g j hv hl);obtain⟨d,hd⟩:∃d,d=decide (v∈a):=⟨_,rfl⟩
 rw[<-hd];have k:=Aa hd;clear g j hv hd;go_enter func314,ntmps314;go_wp2_with fail;refine l.o.ac ?_;rintro e m ⟨r,rfl,f,rfl⟩;have n:decide (0<=r)=d:=by
  rw[k.o,KZ,decide_eq_true_eq,decide_eq_true_eq];exact f
 clear f;go_wp2_with fail;exact Nd
def wW(k f b v w)(r:AK w (k,f,b))(hv:Bc w v) :
  Ca 313 #[.agg #[.pointer k,.pointer f,.pointer b],.pointer v] w λe w'=>e=.returned (.bool (decide (v∈[k,f,b])))/\Bw w w':=by
 obtain⟨B,A⟩:=Ak r hv;clear r hv;obtain⟨d,hd⟩:∃d,d=decide (v∈[k,f,b]):=⟨_,rfl⟩
 rw[<-hd];have y:=Aa hd;clear hd;go_enter func313,ntmps313;go_upto_region 1 with fail;refine Bt ?_;intro m Y n;obtain⟨x,z,t2⟩:=C7 n rfl;have C:=Aa Y;have O:=B.o.J Y;have q:=Aa (zkF w.heap.size 3 [k,f,b] v m (λi p a=>by
  match i,a with
  |0,a=>cases a;exact x
  |1,a=>cases a;exact z
  |2,a=>cases a;exact t2
  |i+3,a=>simp at a) (λp s=>by
   simp only[yO,YI,or_false]at s;rcases s with rfl|rfl|rfl
   .exact O.1
   .exact O.2.1
   exact O.2.2) (A.o.iter λg c t l=>(Y.block g (As l)).j l) qe)
 rw[<-y.o]at q;have u:w.heap.size<m.heap.size:=As n;clear Y O;go_wp2_with fail;refine q.o.ac ?_;rintro e D ⟨rfl,rfl⟩;go_wp2_with fail;go_ret;exact⟨rfl,C.o⟩
def vO(i g k T c f Y b n w)(m:w.heap[Y]?=some (.cells #[.bool c.cp.neg,I6 (c.cp.at_:Int),Pn c.node,.slice c.ta c.cp.ah.length c.tc] 197 (0,0)))(l:w.heap[b]?=some (.cells #[.pointer n] 106 (0,0)))(v:Ej w (.pointer i) (.pointer g) (.pointer k) T)(p:DQ w c.ta c.cp.ah)(hF:Ee w (.pointer n) f)(hl:c.cp.ah.length<=1048576)(a:∀t∈c.cp.ah,t.fits T f) :
  Ca 311 #[.agg #[.pointer i,.pointer g,.pointer k],Pn Y,Pn b] w λe w'=>e=.returned (.bool (H_ c T f))/\Bw w w':=by
 have r:=Aa (λu(hu:Bw w u)=>MQ (.bool c.cp.neg) (I6 (c.cp.at_:Int)) (Pn c.node) (.pointer i) (.pointer g) (.pointer k) (.pointer n) c.cp.ah c.ta c.tc T f u (p.J hu) (v.J hu) (hF.J hu) hl a);obtain⟨d,hd⟩:∃d,d=H_ c T f:=⟨_,rfl⟩
 rw[show c.cp.ah.all (Aq T f)=d from hd.ai]at r;rw[<-hd];clear hd a v p hF;go_enter func311,ntmps311;go_upto_region 1 with fail;refine Bt ?_;intro x O q;obtain⟨A,B,t2⟩:=C7 q rfl;obtain⟨G,C,H,z⟩:=AO ((O.block Y (As m)).j m);have E:=A3 ((O.block b (As l)).j l);have s:=Aa O;clear O q m l;go_wp2_with fail;refine(r.o x s.o).an λD y=>?_;go_wp2_with fail;go_ret;exact⟨rfl,s.o.aj y⟩
def uW(f b a Y c w)(g:w.heap[Y]?=some (.cells #[.pointer c] 106 (0,0)))(l:AK w (f,b,a))(hv:Bc w c) :
  Ca 312 #[.agg #[.pointer f,.pointer b,.pointer a],Pn Y] w λe w'=>e=.returned (.bool (decide (c∈[f,b,a])))/\Bw w w':=by
 have i:=Aa (λu(hu:Bw w u)=>wW f b a c u (l.J hu) (hv.ck (CK.ab hu)));obtain⟨d,hd⟩:∃d,d=decide (c∈[f,b,a]):=⟨_,rfl⟩
 rw[<-hd]at i⊢;clear hd l hv;go_enter func312,ntmps312;go_upto_region 1 with fail;refine Bt ?_;intro n O k;obtain⟨r,s,t2⟩:=C7 k rfl;have q:=A3 ((O.block Y (As g)).j g);have m:=Aa O;clear O k g;go_wp2_with fail;refine(i.o n m.o).an λt p=>?_;go_wp2_with fail;go_ret;exact⟨rfl,m.o.aj p⟩
structure TD where
 adr:F->Addr
 U:List F
 X:List Cx
 vw:Nat->Option Addr × Nat × List F
 ca:Option Addr
 cc:Nat
 va:Option Addr
 n:Nat
 vc:Nat
 mb:Nat
 cb:Nat
 nb:Nat
 wb:Nat
def TD.g(D:TD)(c:Cx):List F:=(D.vw c.node).2.2
structure Fg(D:TD):Prop where
 small:∀c∈D.X,c.cp.ah.length<=6/\c.cp.aq.ah.length<=1048576
 X6:D.X.length<=6
 few:∀c∈D.X,(D.g c).length<=1000
 sub:∀c∈D.X,∀x∈D.g c,x∈D.U/\Ae c.cp.aq x=true
 sr:D_ (D.X.map (BM D.U)) []
 inj:Bm D.adr D.U
structure FD(D:TD) (w:World):Prop where
 tb:NP w D.mb (.slice D.ca D.X.length D.cc) (.slice D.va D.n D.vc) D.cb
 cx:∀(k:Nat)(c:Cx),D.X[k]?=some c->Ed D.adr D.vw D.ca w k c
 nd:∀c∈D.X,∃a n,CO w c.node c.cp.aq a n
 us:Bl D.adr D.U w
def FD.ck{D u w}(h:FD D u)(b:CK u w):FD D w:=⟨b _ _ _ _ h.tb,λk c d=>(h.cx k c d).ck b,λc d=>by
 obtain⟨a,n,e⟩:=h.nd c d;exact⟨a,n,e.ck b⟩,h.us.ck b⟩
def TD.Z(D:TD)(h:Fg D)(sa:Int)(sf:Option F)(hs:∀f,sf=some f->f∈D.U):SN:={ adr:=D.adr,U:=D.U,l:=0,pb:=0,yb:=0,sb:=0,xb:=0,ca:=D.ca,cc:=D.cc,vv:=.slice D.va D.n D.vc,X:=D.X,vw:=D.vw,sa:=sa,sf:=sf,small:=λc hc=>(h.small c hc).1,X6:=h.X6,few:=h.few,sub:=λc hc f hf=>(h.sub c hc f hf).1,sfU:=hs }
structure AN(D:TD) (old:List Kt) (S:List F->Prop) (w:World):Prop where
 ex:∃K M,Hp D.adr S K/\BU old K M/\CS w D.cb D.nb D.wb K M
def AN.ar{D old S u w}(h:AN D old S u)(c:Bw u w):AN D old S w:=by
 obtain⟨K,M,d,b,a⟩:=h.ex;exact⟨K,M,d,b,a.J c⟩
def AN.congr{D old S S' w}(h:AN D old S w)(a:∀T,S T↔S' T):AN D old S' w:=by
 obtain⟨K,M,d,c,b⟩:=h.ex;exact⟨K,M,d.congr a,c,b⟩
def AN.S(D:TD)(g:Nat):Prop:=g=D.nb∨g=D.wb
def oG{P:Prop}(h:P:=by simp only[Yj];exact⟨λ⟨W,e,h⟩=>by rw[e];exact h,λh=>⟨V,rfl,h⟩⟩):P:=h
def o6{P:Prop}(h:P:=by
 constructor
 .rintro(⟨T,hT,rfl⟩|hx)
  .exact⟨T,.inl hT,rfl⟩
  obtain⟨T,hT,rfl⟩:=yz.1 hx;exact⟨T,.inr ((hm T).1 hT),rfl⟩
 rintro⟨T,hT|hT,rfl⟩
 .exact .inl ⟨T,hT,rfl⟩
 exact .inr (yz.2 ⟨T,(hm T).2 hT,rfl⟩)
 ):P:=h
def ZI(D)(Y:Fg D)(old S)(k:Nat)(c f w)(m:FD D w)(hS:AN D old S w)(b:D.X[k]?=some c)(O:f∈D.U)(u:Ae c.cp.aq f=true) :
  Ca 156 #[Pn D.mb,.agg #[I6 (k:Int),.pointer (some (D.adr f))]] w λe w'=>e=.returned (.tuple #[])/\AN D old (λT=>S T∨NU D.g f k D.X [] T) w'/\CK w w'/\Av (AN.S D) w w':=by
 obtain⟨K,M,C,A,r⟩:=hS.ex;have hs:∀g,some f=some g->g∈D.U:=λg e=>by cases e;exact O
 have af:Jd (D.Z Y (k:Int) (some f) hs) 0 D.X []:=TX _ D.X 0 [] Y.sr (λc b x hx=>Y.sub c b x hx) (λi d hd e=>by
  have:i=k:=by
   have H:(k:Int)=((0+i:Nat):Int):=e;omega
  subst this;rw[b]at hd;cases hd;exact⟨f,rfl,O,u⟩)
 refine(iO (D.Z Y (k:Int) (some f) hs) old K M D.mb D.cb D.nb D.wb D.va D.n D.vc w rfl m.tb m.cx m.us r A af).ac λe w' q=>?_;obtain⟨G,⟨y,B,p,z,t⟩,s,E⟩:=q;refine⟨G,⟨y,B,λx=>?_,z,t⟩,s,E⟩;rw[p x,C x];have hm:∀V,V∈Dz (D.Z Y (k:Int) (some f) hs) 0 D.X []↔NU D.g f k D.X [] V:=λV=>by
  rw[iW _ f rfl D.X 0 k [] V (yf.1 b).1 (by simp[TD.Z])];exact oG
 exact o6
def ZJ(D)(l:Fg D)(old S)(p:List F->Bool)(fn:Nat)(Y w)(g:FD D w)(hS:AN D old S w)(c:∀T,S T->T.length<=3/\∀f∈T,f∈D.U)(r:∀args w,(callFunc fn args).run prog w=.ok (.enter fn args) w)(n:∀T,S T->∀u,CK w u->Ca fn (#[AU (Ab D.adr T)]++Y) u λe H=>e=.returned (.bool (p T))/\Bw u H) :
  Ca 310 #[Pn D.mb,.func (.func fn) #[] Y] w λe w'=>e=.returned (.tuple #[])/\AN D old (λT=>S T/\p T=false) w'/\CK w w'/\Av (AN.S D) w w':=by
 obtain⟨K,M,j,A,m⟩:=hS.ex;obtain⟨TT,i,b⟩:=Hp.list (adr:=D.adr) (S:=S) (K:=K) (λx a=>(j x).1 a);refine(u_ D.adr p old TT K M D.mb D.cb D.nb D.wb fn _ _ Y w g.tb m (by rw[i]) A r (λT O u hu=>⟨Oq g.us (c T (b T O)).2,n T (b T O) u hu⟩)).ac λe w' q=>?_;obtain⟨C,⟨y,B,k,z,t⟩,o,G⟩:=q;refine⟨C,⟨y,B,λx=>?_,z,t⟩,o,G⟩;rw[k.mem_iff];constructor
 .intro a;obtain⟨T,O,rfl⟩:=yz.1 a;obtain⟨s,E⟩:=yg.1 O;exact⟨T,⟨b T s,by simpa using E⟩,rfl⟩
 rintro⟨T,⟨O,v⟩,rfl⟩;have a:Ab D.adr T∈K:=(j _).2 ⟨T,O,rfl⟩;rw[i]at a;obtain⟨V,d,e⟩:=yz.1 a;have:=IW l.inj (c V (b V d)).2 (c T O).2 (c V (b V d)).1 (c T O).1 e;subst this;exact yT (yg.2 ⟨d,by rw[v];rfl⟩)
def Dn.len{D}(O:Fg D){gO f k T}(b:∀c∈D.X,∀x,x∈D.g c↔x∈gO c∨(Ae c.cp.aq f=true/\x=f))(h:Dn gO D.g f D.X k T):T.length<=3/\∀f∈T,f∈D.U:=by
 have Y:∀c∈D.X,∀x∈gO c,x∈D.U/\Ae c.cp.aq x=true:=λc d x e=>O.sub c d x ((b c d x).2 (.inl e));rcases h.cm b with h|h
 .have:=LW O.sr Y h qe qe;simpa using this
 have:=LW O.sr O.sub h qe qe;simpa using this
def Dn.dN{D}(Y:Fg D){gO f k c T}(d:∀c∈D.X,∀x,x∈D.g c↔x∈gO c∨(Ae c.cp.aq f=true/\x=f))(O:f∈D.U)(b:D.X[k]?=some c)(e:c.cp.neg=true)(m:Ae c.cp.aq f=true)(h:Dn gO D.g f D.X k T):(LL f k D.X [] T↔H_ c T f=true)/\∀t∈c.cp.ah,t.fits T f:=by
 have af:∀c∈D.X,∀x∈gO c,x∈D.U/\Ae c.cp.aq x=true:=λc b x n=>Y.sub c b x ((d c b x).2 (.inl n));rcases h.cm d with h|h
 .have:=So b Y.sr af O m e h;simpa using this
 have:=So b Y.sr Y.sub O m e h;simpa using this
def znd:∀args w,(callFunc 311 args).run prog w=.ok (.enter 311 args) w:=enters_of func311 qf rfl
def vU(D)(M:Fg D)(old gO f w)(hW:FD D w)(hS:AN D old (BB gO D.X []) w)(hg:∀c∈D.X,∀x,x∈D.g c↔x∈gO c∨(Ae c.cp.aq f=true/\x=f))(A:f∈D.U) :
  Ca 306 #[.pointer (some ⟨D.mb,0,none⟩),.pointer (some (D.adr f))] w λe w'=>e=.returned (.tuple #[])/\AN D old (BB D.g D.X []) w'/\CK w w'/\Av (AN.S D) w w':=by
 obtain⟨HW,HS,n,a⟩:=BE hW hS hg M;have aY:=M.X6;clear hW hS hg M;have aZ:=Iu;go_enter func306,ntmps306;go_upto_region 1 with fail;refine Bt ?_;intro w1 C aG;obtain⟨Q1,aH,aJ⟩:=AQ aG C (HW.o.ck (CK.ab C));have v0:=AF (L:=[_,_,_]) aJ.o.tb (j:=0) rfl;have aI:=Aa ((HS.o.ar C).congr (λT=>(zc (gO:=gO) (gN:=D.g) (f:=f) (X:=D.X) (T:=T)).ai));clear C aG HS HW;go_wp2_with fail;clear v0
 go_loopw [12] (λiv wr=>∃k:Nat,iv=.int .i64 (k:Int)/\k<=D.X.length/\AN D old (Dn gO D.g f D.X k) wr/\CK w1 wr/\Av (AN.S D) w1 wr) (mz D.X.length)
 case atStart=>exact⟨0,rfl,yA _,aI.o,λ_ _ _ _ h=>h,Av.refl _ _⟩
 case round=>
  obtain⟨k,rfl,hk,aL,aM,aK⟩:=hrel;obtain⟨E,p,I⟩:=AQ aL aM aK;clear aL aM aK aI;by_cases aV:k<D.X.length
  .obtain⟨c,H⟩:=AJ aV;have K:=yd H;have r:=aJ.o.ck p.o;obtain⟨gb,aR,⟨c0,c1,c2,c3⟩,aS,_⟩:=r.cx k c H;rw[aR];obtain⟨na,nn,aO⟩:=r.nd c K;have z0:(0:Int)<=(k:Int):=qd;have z1:(k:Int)<(D.X.length:Int):=qd;obtain⟨b,a0,HWR⟩:=AQ H aS r;have Z:=p.o _ _ _ _ Q1.o;have aP:=Aa (λ(u:World)(hu:Bw wr u)=>Qk c.node c.cp.aq na nn (.pointer (some (D.adr f))) f u (aO.J hu) ((r.us f A).1.J hu) (a.o.small c K).2);clear H aR aS r aO;go_upto_region 5 with fail;refine Bt ?_;intro w2 B ay;obtain⟨az,Q2⟩:=Ak B ay;obtain⟨m,d1,d2,d3⟩:=AO ay;have aD:=(B.block _ (As Z)).j Z;have W:=A3 aD;obtain⟨aQ,s⟩:=Ak aD (aP.o w2 B);clear B ay Z aD aP c0 c1 c2 c3
   cases l:Ae c.cp.aq f
   .rw[l]at s;have d:=Aa l;clear l;go_wp2_with fail;refine s.o.an λG Y=>?_;have O:=Aa (az.o.aj Y);clear Y;go_wp2_with fail;go_roundw
    case rel=>exact⟨k+1,ql,qd,(E.o.ar O.o).congr (λT=>(zW b.o d.o).ai),p.o.j (CK.ab O.o),I.o.j (Av.ab O.o)⟩
    case measure=>(simp;omega)
   rw[l]at s;have d:=Aa l;clear l;cases i:c.cp.neg
   .rw[i]at m;have y:=Aa i;clear i;go_wp2_with fail;refine s.o.an λG Y=>?_;have O:=Aa (az.o.aj Y);have aT:=zab Y m;have aX:=zab Y W;have aU:=Aa (ZI D a.o old (Dn gO D.g f D.X k) k c f G (HWR.o.ck (CK.ab O.o)) (E.o.ar O.o) b.o A d.o);clear Y m d1 d2 d3 W;go_wp2_with fail;refine aU.o.an λw4⟨z,t,v⟩=>?_;obtain⟨aC,N,aB⟩:=AQ z t v;clear z t v;go_wp2_with fail;go_roundw
    case rel=>exact⟨k+1,ql,qd,aC.o.congr (λT=>(uS b.o y.o d.o).ai),p.o.j ((CK.ab O.o).j N.o),I.o.j ((Av.ab O.o).j aB.o)⟩
    case measure=>(simp;omega)
   rw[i]at m;have y:=Aa i;clear i;go_wp2_with fail;refine s.o.an λG Y=>?_;have O:=Aa (az.o.aj Y);have aT:=zab Y m;have aN:=(Y.block _ (As Q2.o)).j Q2.o;have aF:=(Y.block _ (As aQ.o)).j aQ.o;have aW:=Aa (ZJ D a.o old (Dn gO D.g f D.X k) (λT=>H_ c T f) 311 #[.pointer (some ⟨wr.heap.size,0,none⟩),.pointer (some ⟨w.heap.size,0,none⟩)] G (HWR.o.ck (CK.ab O.o)) (E.o.ar O.o) (λT q=>q.len a.o n.o) znd (λT q u hu=>by
    have hl:=q.len a.o n.o;have R:=HWR.o.ck ((CK.ab O.o).j hu);obtain⟨_,_,_,hj,_⟩:=R.cx k c b.o;exact vO (T[0]?.map D.adr) (T[1]?.map D.adr) (T[2]?.map D.adr) T c f wr.heap.size w.heap.size (some (D.adr f)) u (hu _ _ _ _ aN) (hu _ _ _ _ aF) (Oy R.us hl.2 hl.1) hj (R.us f A).1 (yi (a.o.small c K).1 qh) (q.dN a.o n.o A b.o y.o d.o).2))
   clear Y m d1 d2 d3 W aN aF;go_wp2_with fail;refine aW.o.an λw4⟨z,t,v⟩=>?_;obtain⟨aC,N,aB⟩:=AQ z t v;clear z t v;go_wp2_with fail;go_roundw
   case rel=>
    refine⟨k+1,ql,qd,aC.o.congr (λT=>?_),p.o.j ((CK.ab O.o).j N.o),I.o.j ((Av.ab O.o).j aB.o)⟩;rw[xN n.o b.o y.o d.o];refine and_congr_right λq=>?_;rw[(q.dN a.o n.o A b.o y.o d.o).1];simp
   case measure=>(simp;omega)
  obtain rfl:k=D.X.length:=qd;have z1:¬(D.X.length:Int)<(D.X.length:Int):=qd;go_wp2_with fail;refine bodyPost_end (results_none rfl _ _ _) rfl ⟨rfl,E.o.congr (λT=>xE n.o),(CK.ab aH.o).j p.o,(Av.ab aH.o).j I.o⟩
def tG{adr}{U T:List F}{f}(j:Bm adr U)(d:T.length<=3/\∀f∈T,f∈U)(l:f∈U):some (adr f)∈[T[0]?.map adr,T[1]?.map adr,T[2]?.map adr]↔f∈T:=by
 have key:∀i:Nat,T[i]?.map adr=some (adr f)->f∈T:=λi a=>by
  obtain⟨g,c,e⟩:=Ya.1 a;have b:=yd c;rw[<-j g (d.2 g b) f l e];exact b
 constructor
 .intro h;simp only[yO,YI,or_false]at h;rcases h with h|h|h
  .exact key 0 h.ai
  .exact key 1 h.ai
  exact key 2 h.ai
 intro h;obtain⟨i,a⟩:=YD h;have O:=(yf.1 a).1
 match i,a,O with
 |0,a,_=>simp[a]
 |1,a,_=>simp[a]
 |2,a,_=>simp[a]
 |k+3,_,O=>omega
def zmE:∀args w,(callFunc 312 args).run prog w=.ok (.enter 312 args) w:=enters_of func312 qf rfl
def xL(D)(A:Fg D)(old gO f w)(hW:FD D w)(hS:AN D old (BB gO D.X []) w)(hg:∀c∈D.X,∀x,x∈D.g c↔x∈gO c/\x≠f)(Z:∀c∈D.X,∀x∈gO c,x∈D.U/\Ae c.cp.aq x=true)(B:f∈D.U) :
  Ca 308 #[Pn D.mb,.pointer (some (D.adr f))] w λe w'=>e=.returned (.tuple #[])/\AN D old (BB D.g D.X []) w'/\CK w w'/\Av (AN.S D) w w':=by
 obtain⟨HW,HS,HG,aU,M⟩:=DU hW hS hg Z A;have a5:=A.X6;have b:∀T,BB gO D.X [] T->T.length<=3/\∀f∈T,f∈D.U:=λT d=>by
  have:=LW A.sr Z d qe qe;simpa using this
 have aB:=Aa b;clear hW hS hg A Z b;have a6:=Iu;go_enter func308,ntmps308;go_upto_region 1 with fail;refine Bt ?_;intro w0 N R;have Q0:=Aa R;have aE:=Aa N;have E:=Aa (HW.o.ck (CK.ab N));have aP:=Aa (ZJ D M.o old (BB gO D.X []) (λT=>decide (some (D.adr f)∈[T[0]?.map D.adr,T[1]?.map D.adr,T[2]?.map D.adr])) 312 #[Pn w.heap.size] w0 E.o (HS.o.ar N) (λT d=>aB.o T d) zmE (λT d u hu=>by
  have hl:=aB.o T d;have aD:=E.o.ck hu;exact uW (T[0]?.map D.adr) (T[1]?.map D.adr) (T[2]?.map D.adr) w.heap.size (some (D.adr f)) u (hu _ _ _ _ R) (Oq aD.us hl.2) (aD.us f B).2))
 clear N R HS HW;go_wp2_with fail;refine aP.o.an λw1⟨z,Y,ay⟩=>?_;have aS:=Aa Y;have aX:=Aa ay;have aH:=Aa (E.o.ck Y);have v0:=AF (L:=[_,_,_]) aH.o.tb (j:=0) rfl;have Q1:=Aa (Y _ _ _ _ Q0.o);have aG:=Aa (z.congr (λT=>show(BB gO D.X [] T/\decide (some (D.adr f)∈[T[0]?.map D.adr,T[1]?.map D.adr,T[2]?.map D.adr])=false)↔FF gO D.g f D.X 0 T by
  rw[zZ];refine and_congr_right λd=>?_;rw[decide_eq_false_iff_not,tG M.o.inj (aB.o T d) B]))
 clear z Y ay Q0 E aP;go_wp2_with fail;clear v0
 go_loopw [15] (λiv wr=>∃k:Nat,iv=I6 (k:Int)/\k<=D.X.length/\AN D old (FF gO D.g f D.X k) wr/\CK w1 wr/\Av (AN.S D) w1 wr) (mz D.X.length)
 case atStart=>exact⟨0,rfl,yA _,aG.o,λ_ _ _ _ h=>h,Av.refl _ _⟩
 case round=>
  obtain⟨k,rfl,hk,aJ,aK,aI⟩:=hrel;obtain⟨I,p,G⟩:=AQ aJ aK aI;clear aJ aK aI aG;by_cases aY:k<D.X.length
  .obtain⟨c,s⟩:=AJ aY;have aL:=yd s;have y:=aH.o.ck p.o;obtain⟨gb,aR,⟨c0,c1,c2,c3⟩,a0,_⟩:=y.cx k c s;rw[aR];obtain⟨na,nn,aM⟩:=y.nd c aL;have z0:(0:Int)<=(k:Int):=qd;have z1:(k:Int)<(D.X.length:Int):=qd;obtain⟨K,HWR⟩:=Ak s y;have fq:=p.o _ _ _ _ Q1.o;have aO:=Aa (λ(u:World)(hu:Bw wr u)=>Qk c.node c.cp.aq na nn (.pointer (some (D.adr f))) f u (aM.J hu) ((y.us f B).1.J hu) (M.o.small c aL).2);clear s aR a0 y aM;go_upto_region 5 with fail;refine Bt ?_;intro w2 H aF;have t:=Aa H;obtain⟨d0,d1,d2,d3⟩:=AO aF;have aN:=(H.block _ (As fq)).j fq;have f0:=A3 aN;have af:=Aa (aO.o w2 H);clear H aF fq aN aO c0 c1 c2 c3
   cases m:c.cp.neg
   .rw[m]at d0;have W:=Aa m;clear m;go_wp2_with fail;go_roundw
    case rel=>exact⟨k+1,ql,qd,(I.o.ar t.o).congr (λT=>(j8 K.o (λq=>by rw[W.o]at q;cases q.1)).ai),p.o.j (CK.ab t.o),G.o.j (Av.ab t.o)⟩
    case measure=>(simp;omega)
   rw[m]at d0;have W:=Aa m;clear m;cases r:Ae c.cp.aq f
   .rw[r]at af;have C:=Aa r;clear r;go_wp2_with fail;refine af.o.an λw3 n=>?_;have O:=Aa (t.o.aj n);clear n;go_wp2_with fail;go_roundw
    case rel=>exact⟨k+1,ql,qd,(I.o.ar O.o).congr (λT=>(j8 K.o (λq=>by rw[C.o]at q;cases q.2)).ai),p.o.j (CK.ab O.o),G.o.j (Av.ab O.o)⟩
    case measure=>(simp;omega)
   rw[r]at af;have C:=Aa r;clear r;go_wp2_with fail;refine af.o.an λw3 n=>?_;have O:=Aa (t.o.aj n);have a4:=zab n f0;have aT:=Aa (ZI D M.o old (FF gO D.g f D.X k) k c f w3 (HWR.o.ck (CK.ab O.o)) (I.o.ar O.o) K.o B C.o);clear n d0 d1 d2 d3 f0;go_wp2_with fail;refine aT.o.an λw4⟨aQ,ax,az⟩=>?_;obtain⟨aW,aZ,aV⟩:=AQ aQ ax az;clear aQ ax az;go_wp2_with fail;go_roundw
   case rel=>exact⟨k+1,ql,qd,aW.o.congr (λT=>(un K.o W.o C.o).ai),p.o.j ((CK.ab O.o).j aZ.o),G.o.j ((Av.ab O.o).j aV.o)⟩
   case measure=>(simp;omega)
  obtain rfl:k=D.X.length:=qd;have z1:¬(D.X.length:Int)<(D.X.length:Int):=qd;go_wp2_with fail;refine bodyPost_end (results_none rfl _ _ _) rfl ⟨rfl,I.o.congr (λT=>uj HG.o (λc s hf=>(aU.o c s f hf).2)),(CK.ab aE.o).j (aS.o.j p.o),(Av.ab aE.o).j (aX.o.j G.o)⟩
def xz(mb cb a v1 w)(h:NP w mb a v1 cb):Ca 307 #[Pn mb] w λe w'=>e=.returned (Pn cb)/\w'=w:=by
 have b:=AF (L:=[_,_,_]) h (j:=2) rfl;clear h;go_enter func307,ntmps307;go_wp2_with fail;exact bodyPost_ret (by simp[results,results307,go_sem]) rfl ⟨rfl,rfl⟩
def zp(mb cb nb wb c v1 K M w)(h:NP w mb c v1 cb)(O:CS w cb nb wb K M):Ca 309 #[Pn mb] w λe w'=>e=.returned (I6 (K.length:Int))/\w'=w:=by
 have f:=AF (L:=[_,_,_]) h (j:=2) rfl;have d:=AF (L:=[_,_]) O.q (j:=0) rfl;have a:=Uj (P:=prog) (ty:=3) EJ O.now;have b:(uv K).length=K.length:=by simp[uv]
 rw[b]at a;simp only[goInt]at a;clear h O b;go_enter func309,ntmps309;go_wp2_with fail;exact bodyPost_ret (by simp[results,results309,go_sem]) rfl ⟨rfl,rfl⟩
end
def CS.aM{S w w' cb nb wb T M}(h:CS w cb nb wb T M)(b:Av S w w')(a:CK w w')(d:¬S nb)(c:¬S wb):CS w' cb nb wb T M:=⟨a _ _ _ _ h.q,h.now.aM b a d,h.news.aM b a c,h.ne⟩
def UV{adr U cb nb wb S w w'}(b:CK w w')(c:Av S w w'):∀{l:List Ap}{a:CT l},(∀g,E4 nb wb l g->¬S g)->Ey adr U cb nb wb l w a->Ey adr U cb nb wb l w' a
 |[],_,hs,h=>CS.aM h c b (hs _ (.inl rfl)) (hs _ (.inr rfl))
 |(.inl _,_)::_,_,hs,h=>⟨h.1.ck b,h.2.1.aM c b (hs _ (.inl rfl)),UV b c (λg d=>hs g (.inr d)) h.2.2⟩
 |(.inr _,_)::_,_,hs,h=>⟨h.1.ck b,h.2.1.aM c b (hs _ (.inl rfl)),h.2.2.1.aM c b (hs _ (.inr (.inl rfl))),UV b c (λg d=>hs g (.inr (.inr d))) h.2.2.2⟩
def Lc:(l:List Ap)->CT l->List Kt × List (Kt × Int)
 |[],a=>a
 |(.inl _,_)::r,a=>Lc r a.2
 |(.inr _,_)::r,a=>Lc r a.2.2
def Rh:(l:List Ap)->CT l->CT l
 |[],a=>(a.1,[])
 |(.inl _,_)::r,a=>(a.1,Rh r a.2)
 |(.inr _,_)::r,a=>(a.1,a.2.1,Rh r a.2.2)
def Ps{adr U cb nb wb w}:∀{l:List Ap}{a:CT l},Ey adr U cb nb wb l w a->CS w cb nb wb (Lc l a).1 (Lc l a).2
 |[],_,h=>h
 |(.inl _,_)::r,a,h=>Ps (l:=r) (a:=a.2) h.2.2
 |(.inr _,_)::r,a,h=>Ps (l:=r) (a:=a.2.2) h.2.2.2
def Id{nb wb}:∀{l:List Ap},E4 nb wb l nb/\E4 nb wb l wb
 |[]=>⟨.inl rfl,.inr rfl⟩
 |(.inl _,_)::r=>⟨.inr (Id (l:=r)).1,.inr (Id (l:=r)).2⟩
 |(.inr _,_)::r=>⟨.inr (.inr (Id (l:=r)).1),.inr (.inr (Id (l:=r)).2)⟩
def oL{P:Prop}(h:P:=by
 rintro(e|e)
 .exact hw.2.2.2.2.1 (by rw[e];exact Id.1)
 exact hw.2.2.2.2.1 (by rw[e];exact Id.2)
 ):P:=h
def Un{adr U cb nb wb w w'}(b:CK w w')(c:Av (λg=>g=nb∨g=wb) w w'):∀{l:List Ap}{a:CT l},ID cb nb wb l->Ey adr U cb nb wb l w a->CS w' cb nb wb (Lc l a).1 []->Ey adr U cb nb wb l w' (Rh l a)
 |[],_,_,_,hc=>hc
 |(.inl d,_)::r,_,hw,h,hc=>by
  have f:¬(d.tb=nb∨d.tb=wb):=by
   exact oL
  exact⟨h.1.ck b,h.2.1.aM c b f,Un b c hw.2.2.2.2.2 h.2.2 hc⟩
 |(.inr d,_)::r,_,hw,h,hc=>by
  have f:¬(d.tb=nb∨d.tb=wb):=by
   exact oL
  have i:¬(d.bb=nb∨d.bb=wb):=by
   rintro(e|e)
   .exact hw.2.2.2.2.2.1 (by rw[e];exact Id.1)
   exact hw.2.2.2.2.2.1 (by rw[e];exact Id.2)
  exact⟨h.1.ck b,h.2.1.aM c b f,h.2.2.1.aM c b i,Un b c hw.2.2.2.2.2.2 h.2.2.2 hc⟩
def kG(K):BU K K []:=⟨λ_ h=>absurd h qe,λx=>(Int.sub_self _).ai⟩
def Ul{adr old}:∀{l:List Ap}{G TT:List (List F)}{a:CT l},Gf adr old l G TT a->Gf adr (Lc l a).1 l G TT (Rh l a)
 |[],_,_,_,h=>⟨h.1,kG _⟩
 |(.inl _,_)::_,_,_,_,h=>⟨h.1,Ul h.2⟩
 |(.inr _,_)::_,_,_,_,h=>⟨h.1,h.2.1,Ul h.2.2⟩
def Lv.ends{adr old vw hl}:∀{up:Value}{cs:List Cx}{xs:List CE}{TT:List (List F)}{a:CT (Au vw hl up cs xs)},xs.length=cs.length->Lv adr old (Au vw hl up cs xs) TT a->(Lc _ a).1.Perm ((TT.flatMap (BV (cs.map (Cv vw)))).map (Ab adr))/\BU old (Lc _ a).1 (Lc _ a).2
 |_,[],[],TT,a,_,h=>by
  have:TT.flatMap (BV (List.map (Cv vw) []))=TT:=by
   exact Td
  rw[this];exact h
 |up,c::cs,x::xs,TT,a,hlen,h=>by
  revert a;rw[Au,<-PK];cases b:c.cp.neg
  .rw[Ih b,if_neg qh];intro a h;exact Lv.ends Nu h.2
  .rw[Ic b,if_pos rfl];intro a h;exact Lv.ends Nu h.2.2
 |_,[],_::_,_,_,h,_=>by simp at h
 |_,_::_,[],_,_,h,_=>by simp at h
section
attribute [local go_sem ↓] wp_at_zero wp_at_succ
def s_(D)(O:Fg D)(old S w)(b:FD D w)(hS:AN D old S w) :
  Ca 156 #[Pn D.mb,.agg #[I6 (-1),.pointer none]] w λe w'=>e=.returned (.tuple #[])/\AN D old (λT=>S T∨BB D.g D.X [] T) w'/\CK w w'/\Av (AN.S D) w w':=by
 obtain⟨K,M,B,y,m⟩:=hS.ex;have hs:∀g,(none:Option F)=some g->g∈D.U:=λg e=>by cases e
 have Y:Jd (D.Z O (-1) none hs) 0 D.X []:=TX _ D.X 0 [] O.sr (λc A x hx=>O.sub c A x hx) (λi d hd e=>by
  have t:(-1:Int)=((0+i:Nat):Int):=e;omega)
 refine(iO (D.Z O (-1) none hs) old K M D.mb D.cb D.nb D.wb D.va D.n D.vc w rfl b.tb b.cx b.us m y Y).ac λe w' q=>?_;obtain⟨E,⟨s,z,f,u,r⟩,p,C⟩:=q;refine⟨E,⟨s,z,λx=>?_,u,r⟩,p,C⟩;rw[f x,B x];have hm:∀V,V∈Dz (D.Z O (-1) none hs) 0 D.X []↔BB D.g D.X [] V:=λV=>by
  rw[UW _ D.X 0 [] V (λi _ e=>by
   have t:(-1:Int)=((0+i:Nat):Int):=e;omega)]
  exact oG
 exact o6
structure LF(D:TD) (w:World):Prop where
 cx:∀(k:Nat)(c:Cx),D.X[k]?=some c->Ed D.adr D.vw D.ca w k c
 nd:∀c∈D.X,∃a n,CO w c.node c.cp.aq a n
 us:Bl D.adr D.U w
def LF.ck{D u w}(h:LF D u)(d:CK u w):LF D w:=⟨λk c b=>(h.cx k c b).ck d,λc b=>by
 obtain⟨a,n,e⟩:=h.nd c b;exact⟨a,n,e.ck d⟩,h.us.ck d⟩
def ix:BU [] [] []:=⟨λy a=>by simp at a,λx=>rfl⟩
def Av.bf{S w u v}(h:Bw w u)(k:Av S u v)(b:∀g,S g->w.heap.size<=g):Bw w v:=
 ⟨k.rest.os.j h.os,k.rest.tape.j h.tape,k.rest.output.j h.output,yi h.size k.rest.size,λg a=>(k.block g (yh a h.size) (λq=>by have:=b g q;omega)).j (h.block g a)⟩
def zlZ(D)(y:Fg D)(w)(H:LF D w) :
  Ca 93 #[.agg #[.slice D.ca D.X.length D.cc,.slice D.va D.n D.vc]] w λe w'=>∃mb cb nb wb,e=.returned (.iface 256 (Pn mb))/\(w.heap.size<=mb/\w.heap.size<=cb/\w.heap.size<=nb/\w.heap.size<=wb)/\FD { D with mb:=mb,cb:=cb,nb:=nb,wb:=wb } w'/\AN { D with mb:=mb,cb:=cb,nb:=nb,wb:=wb } [] (BB D.g D.X []) w'/\Bw w w':=by
 obtain⟨HW,b⟩:=Ak H y;clear H y;go_enter func93,ntmps93;go_upto_region 1 with fail;refine Bt ?_;intro f aC C;obtain⟨G,E⟩:=Ay C;have d:=Aa aC;clear aC C
 go_region_held3 (λu=>At u w.heap.size 0 (.slice D.ca D.X.length D.cc)/\At u w.heap.size 1 (.slice D.va D.n D.vc))
  ((go_split_ands;first|done|(refine⟨?_,?_⟩<;>first|assumption|with_reducible exact zab af qj|exact zab Af ay|exact zab Af t|exact zab Aj.drew qj))) (first|(go_at_call 153;refine(mV _).ac ?_;rintro e c ⟨cb,nb,wb,rfl,U,z,L,B,b5,N,A,af⟩;have ay:=zab af G;have t:=zab af E)|fail)
 rename_i ar;clear ar G E ay t;have aK:f.heap.size<=cb:=U;have aL:f.heap.size<=nb:=z;have aM:f.heap.size<=wb:=L;have R:=Aa (show Bw w c from d.o.drew.j (af.ac (show w.heap.size<=f.drew.heap.size from d.o.size)));have aa:=d.o.size;have aH:=R.o.size;have s:=Aa (show CS c cb nb wb [] [] from⟨b5,N,A,B⟩);clear U z L B b5 N A af d;go_upto_region 2 with fail;refine Bt ?_;intro p m I;obtain⟨au,r,ax⟩:=AQ (R.o.aj m) (show NP p c.heap.size (.slice D.ca D.X.length D.cc) (.slice D.va D.n D.vc) cb from I) (s.o.J m);clear m I s;have Y:=Aa (HW.o.ck (CK.ab au.o));have W:=Aa (λ(u:World)(hu:Bw p u)=>s_ { D with mb:=c.heap.size,cb:=cb,nb:=nb,wb:=wb } ⟨b.o.small,b.o.X6,b.o.few,b.o.sub,b.o.sr,b.o.inj⟩ [] (λ_=>False) u ⟨(hu.block _ (As r.o)).j r.o,(Y.o.ck (CK.ab hu)).cx,(Y.o.ck (CK.ab hu)).nd,(Y.o.ck (CK.ab hu)).us⟩ ⟨[],[],λx=>qe,ix,ax.o.J hu⟩);go_wp2_with fail;refine(tR p).an λw4 q=>?_;obtain⟨aG,K⟩:=Ak (W.o w4 q) q;clear q W;go_wp2_with fail;refine aG.o.an λw5⟨aD,Z,M⟩=>?_;obtain⟨aI,aF,aJ⟩:=AQ aD Z M;clear aD Z M;go_wp2_with fail;go_ret;have O:=(CK.ab K.o).j aF.o;refine⟨c.heap.size,cb,nb,wb,rfl,⟨aH,qd,qd,qd⟩,⟨O _ _ _ _ r.o,(Y.o.ck O).cx,(Y.o.ck O).nd,(Y.o.ck O).us⟩,aI.o.congr (λT=>by simp;rfl),?_⟩;refine Av.bf (au.o.aj K.o) aJ.o (λg hg=>?_);rcases hg with e|e
 .have e:g=nb:=e;omega
 have e:g=wb:=e;omega
end
end Go.Proofs.YtikojfajahnhgaaGreat
