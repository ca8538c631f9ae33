import Derived.Test.YtikojfajahnhgaaGreatKbj
import Derived.Test.YtikojfajahnhgaaGreatKbk
set_option linter.all false
set_option maxHeartbeats 12800000
set_option maxRecDepth 100000
namespace Go.Proofs.YtikojfajahnhgaaGreat
attribute [local simp] At I6 Pn mzI
attribute [local go_sem] At I6 Pn
open Go.RowKit Go.Proofs.Tryz
variable{P:Prop}
section
attribute [local go_sem ↓] wp_at_zero wp_at_succ
def zon{α β:Type}{f:α->β}{L K}(h:L.Perm K):∀TT:List α,TT.map f=L->∃a:List α,TT.Perm a/\K=a.map f:=by
 induction h with
 |nil=>exactλTT e=>⟨[],by rw[WR.1 e],rfl⟩
 |cons x _ ih=>
  intro TT e;cases TT with
  |nil=>simp at e
  |cons t r=>
   rw[yq,Yu]at e;obtain⟨a,d,b⟩:=ih r e.2;exact⟨t::a,d.cons t,by rw[yq,e.1,b]⟩
 |swap x y l=>
  intro TT e
  match TT,e with
  |t::s::r,e=>
   rw[yq,yq,Yu,Yu]at e;exact⟨s::t::r,.swap _ _ _,by rw[yq,yq,e.1,e.2.1,e.2.2]⟩
 |trans _ _ k O=>
  intro TT e;obtain⟨j,d,b⟩:=k TT e;obtain⟨t2,i,g⟩:=O j b.y;exact⟨t2,d.c i,g⟩
def wP{α β:Type}{f:α->β}{K}{TT:List α}(h:K.Perm (TT.map f)):∃a:List α,TT.Perm a/\K=a.map f:=zon h.y TT rfl
def zy{A B K:List Kt}{x}(h:K.Perm (A++x::B))(f:K.Nodup):(K.filter (λy=>decide (y≠x))).Perm (A++B):=by
 have i:=h.nodup_iff.1 f;obtain⟨k,b,d⟩:=yK.1 i;rw[y9]at b;refine(h.filter _).c (KG ?_);rw[yM,yJ qe];have g:A.filter (λy=>decide (y≠x))=A:=Yk.2 λy a=>by
  simp only[ne_eq,decide_eq_true_eq];exactλe=>d y a x qe e
 have j:B.filter (λy=>decide (y≠x))=B:=Yk.2 λy a=>by
  simp only[ne_eq,decide_eq_true_eq];rintro rfl;exact b.1 a
 rw[g,j]
def NM(w:World)(mb:Nat)(v0 v1:Value)(cb:Nat):Prop:=w.heap[mb]?=some (.cells #[v0,v1,.pointer (some ⟨cb,0,none⟩)] 258 (0,0))
structure rn(adr:F->Addr) (p:List F->Bool) (old:List Kt) (TT:List (List F)) (cb nb wb r:Nat) (w wr:World):Prop where
 ex:∃(done todo:List (List F))(K:List Kt)(M:List (Kt × Int)),TT.Perm (done++todo)/\K.Perm ((done.filter (λT=>!p T)++todo).map (Ab adr))/\BS old K M/\CS wr cb nb wb K M/\A3 wr nb r (uv K) (todo.map (Ab adr))
 O:CK w wr
 mp:Av (λg=>g=nb∨g=wb) w wr
def xL(adr)(p:List F->Bool)(old)(TT:List (List F))(K M)(mb cb nb wb fn:Nat)(v0 v1 aN w)(aX:NM w mb v0 v1 cb)(A:CS w cb nb wb K M)(hK:K.Perm (TT.map (Ab adr)))(hN:BS old K M)(eg:∀args w,(callFunc fn args).run prog w=.ok (.enter fn args) w)(ax:∀T∈TT,∀u,CK w u->AG w (Ab adr T)/\Ca fn (#[AM (Ab adr T)]++aN) u λe u'=>e=.returned (.bool (p T))/\Bw u u') :
  Ca 310 #[.pointer (some ⟨mb,0,none⟩),.func (.func fn) #[] aN] w λe w'=>e=.returned (.tuple #[])/\(∃b M',b.Perm ((TT.filter (λT=>!p T)).map (Ab adr))/\BS old b M'/\CS w' cb nb wb b M')/\CK w w'/\Av (λg=>g=nb∨g=wb) w w':=by
 obtain⟨bG,HC,HN,aV,bv⟩:=DE aX A hN ax hK;have n2:=AS (L:=[_,_,_]) aX (j:=2) rfl;have c0:=AS (L:=[_,_]) A.q (j:=0) rfl;obtain⟨o,hR,aM⟩:=VW (P:=prog) EP A.now;have bc:=Aa aM;have bB:=bc.o.dj;have Z:=Aa (An.alloc AH o:Bw w (w.alloc o));have bC:=A.now.lt;have bz:=A.ab.lt;clear aX A hN ax hK aM;go_enter func310,ntmps310;go_wp2_with fail
 go_loopw [] (λwr=>rn adr p old TT cb nb wb w.heap.size w wr) (λwr=>wr.rangeLeft nb w.heap.size)
 case atStart=>
  obtain⟨a,f,E⟩:∃a:List (List F),TT.Perm a/\K=a.map (Ab adr):=wP bv.o;exact⟨⟨[],a,K,M,f,by rw[E];exact .refl _,HN.o,HC.o.d Z.o,by rw[<-E];exact bc.o⟩,CK.m Z.o,Av.m Z.o⟩
 case round=>
  obtain⟨⟨done,a,b,M',bg,a5,bl,bj,s⟩,bn,bi⟩:=hrel;obtain⟨aS,N,J,z,bw,a9,aW⟩:=Jj bg a5 bl bj s bn bi;clear bg a5 bl bj bn bi;rcases SU (P:=prog) s 0 with⟨h0,aR⟩|⟨x,v,ob,w2,hx,bE,bp,aR,az,hE⟩
  .have bq:a=[]:=WR.1 h0;clear s;go_wp2_with fail;refine bodyPost_end (results_none rfl _ _ _) rfl ⟨rfl,⟨b,M',?_,J.o,z.o⟩,a9.o,aW.o⟩;have f:=aS.o;have E:=N.o;rw[bq,yQ]at f E;exact E.c (((f.y).filter _).map _)
  obtain⟨T,hT,rfl⟩:=yz.1 hx;have C:=Tj (r:=w.heap.size) (o:=ob) bp;obtain⟨W,hW⟩:∃W,W=ChangeMaps.setBlock w2 w.heap.size ob:=⟨_,rfl⟩
  rw[<-hW]at aR az hE C;have aO:=Aa az;have aP:=C.O s.cB;have D:=a9.o.c aP;have bo:T∈TT:=aS.o.y.subset (YD _ hT);have a4:=(aV.o T bo w (λ_ _ _ _ h=>h)).1;have aY:b.Nodup:=by have:=z.o.now.nd;rwa [PM]at this
  have a3:(a.map (Ab adr)).Nodup:=by
   have f:=N.o.nodup_iff.1 aY;rw[yF,yK]at f;exact f.2.1
  have B:=Ql (k:=Ab adr) (l:=a) (T:=T) a3 hT;obtain⟨O,aQ⟩:∃q,q=a.filter (λU=>decide (Ab adr U≠Ab adr T)):=⟨_,rfl⟩
  rw[<-aQ]at B;obtain⟨aG,G⟩:=Ah (show TT.Perm ((done++[T])++O) from(aS.o.c ((YZ _).append B)).c (.of_eq qe)) (show b.Perm (((done.filter (λT=>!p T)).map (Ab adr))++Ab adr T::O.map (Ab adr)) from N.o.c (by rw[yF];exact(YZ _).append (B.map (Ab adr))));have aF:A3 W nb w.heap.size (uv b) (O.map (Ab adr)):=by
   have:=aO.o;rw[YV]at this;rw[aQ];exact this
  have au:=s.left;have ak:O.length<a.length:=by have:=B.length_eq;simp at this;omega
  obtain⟨Y,a6,bk,bu⟩:=Bn aF D C (a4.O D);have m2:=D.cell n2;have aJ:CS W cb nb wb b M':=⟨aP _ _ _ _ z.o.q,Y.o.map,z.o.ab.ar C qd (λc t e=>s.cB c t _ e),z.o.ne⟩
  obtain⟨aw,aT,br,bf⟩:=Bn aJ (λ(u:World)(hu:Bw W u)=>(aV.o T bo u (D.c (CK.m hu))).2) (λo=>An.alloc AH o:∀o,Bw W (W.alloc o)) aY;simp only[Ab,AM]at aR hE aT;clear s az aF D C aP hW B a4 aJ aO aQ a3 N z aV aY;go_upto_region 3 with fail;refine Be ?_;intro w3 H a7;have bm:=Aa H;obtain⟨s0,s1,s2⟩:=Da a7 rfl;have R:=Aa (aT.o w3 H);have k2:=zab H m2;clear H a7 aT br
  cases I:p T
  .rw[I]at R;go_wp2_with fail;refine R.o.rtn λw4 i=>?_;have n:=Aa (bm.o.thn i);clear i;go_wp2_with fail;have aK:=Y.o.d n.o;refine⟨⟨⟨done++[T],O,b,M',aG.o,?_,J.o,aw.o.d n.o,aK⟩,a6.o.c (CK.m n.o),(aW.o.new bk.o AH).c (Av.m n.o)⟩,?_⟩
   .rw[yM,yD (by rw[I];rfl),Yp];refine G.o.c (.of_eq ?_);simp
   rw[aK.left,au,yt,yt];exact ak
  rw[I]at R;go_wp2_with fail;refine R.o.rtn λw4 i=>?_;have n:=Aa (bm.o.thn i);have bD:=zab i k2;have bA:=zab i s0;have bF:=zab i s1;have bH:=zab i s2;have a0:=Aa (λ(u:World)(hu:Bw W u)=>zu cb nb wb w.heap.size b (O.map (Ab adr)) M' (Ab adr T) u (aw.o.d hu) (Y.o.d hu) qd (bu.o.d hu) (J.o.bR _));simp only[Ab,AM]at a0;clear i s0 s1 s2 k2;go_wp2_with fail
  go_region_held3 (λu=>u.cell? ⟨mb,2,none⟩=some (.pointer (some ⟨cb,0,none⟩))/\u.cell? ⟨W.heap.size,0,none⟩=some (.pointer (T[0]?.map adr))/\u.cell? ⟨W.heap.size,1,none⟩=some (.pointer (T[1]?.map adr))/\u.cell? ⟨W.heap.size,2,none⟩=some (.pointer (T[2]?.map adr)))
   ((go_split_ands;first|done|(refine⟨?_,?_,?_,?_⟩<;>first|assumption|with_reducible exact CK.cell aB qk|exact zab An.drew qk)))
   (first|(go_at_call 211;refine(a0.o _ n.o.drew).rtn λw5⟨aL,aH,ay⟩=>?_;have aB:=(aw.o.d n.o.drew).O ay)|fail)
  obtain⟨bd,aI,a8,aZ⟩:=Bn (show CS w5 cb nb wb (b.filter (λy=>decide (y≠Ab adr T))) (E8 (Ab adr T) (-1) M') from aL) (show A3 w5 nb w.heap.size (uv (b.filter (λy=>decide (y≠Ab adr T)))) ((O.map (Ab adr)).filter (λy=>decide (y≠Ab adr T))) from aH) ay ((CK.m n.o.drew).c aB);clear aL aH ay aB;go_wp2_with fail;have bt:=zy G.o bf.o;have bh:(O.map (Ab adr)).filter (λy=>decide (y≠Ab adr T))=O.map (Ab adr):=Yk.2 λy hy=>by
   simp only[ne_eq,decide_eq_true_eq];rintro rfl;have f:=(yK.1 (G.o.nodup_iff.1 bf.o)).2.1;rw[y9]at f;exact f.1 hy
  refine⟨⟨⟨done++[T],O,_,_,aG.o,?_,J.o.be (G.o.mem_iff.2 qe),bd.o,?_⟩,a6.o.c aZ.o,(aW.o.new bk.o AH).c ((Av.m n.o.drew).c a8.o)⟩,?_⟩
  .rw[yM,yJ (by rw[I];decide),Yp,yQ,yF];exact bt
  .have h:=aI.o;rw[bh]at h;exact h
  have h:=aI.o;rw[bh]at h;rw[h.left,au,yt,yt];exact ak
end
section
open Go.Maps
attribute [local go_sem ↓] wp_at_zero wp_at_succ
structure SN where
 adr:F->Addr
 U:List F
 l:Nat
 pb:Nat
 yb:Nat
 sb:Nat
 xb:Nat
 ca:Option Addr
 cc:Nat
 vv:Value
 X:List Cx
 vw:Nat->Option Addr × Nat × List F
 sa:Int
 sf:Option F
 small:∀c∈X,c.cp.x.length<=6
 X6:X.length<=6
 few:∀c∈X,(vw c.node).2.2.length<=1000
 sub:∀c∈X,∀f∈(vw c.node).2.2,f∈U
 sfU:∀f,sf=some f->f∈U
def Dp(adr:F->Addr)(vw:Nat->Option Addr × Nat × List F)(ca:Option Addr)(W:World)(k:Nat)(c:Cx):Prop:=
 ∃g,ca=some ⟨g,0,none⟩/\(W.cell? ⟨g,k*4,none⟩=some (.bool c.cp.neg)/\W.cell? ⟨g,k*4+1,none⟩=some (.int .i64 (c.cp.N:Int))/\W.cell? ⟨g,k*4+2,none⟩=some (.pointer (some ⟨c.node,0,none⟩))/\W.cell? ⟨g,k*4+3,none⟩=some (.slice c.ta c.cp.x.length c.tc))/\DS W c.ta c.cp.x/\W.cell? ⟨c.node,4,none⟩=some (.slice (vw c.node).1 (vw c.node).2.2.length (vw c.node).2.1)/\Ho W (vw c.node).1 (vw c.node).2.2 adr
def Dp.aT{adr vw ca u w k c}(h:Dp adr vw ca u k c)(a:Cl u w):Dp adr vw ca w k c:=by
 obtain⟨g,e,⟨O,d,j,i⟩,f,b,l⟩:=h;have q:=@Cl.cC _ _ a _ _ _ d (.inl qd);exact⟨g,e,⟨q O,q d,q j,q i⟩,f.aT a,a.cC b (.inl qd) b,l.aT a⟩
def Dp.O{adr vw ca u w k c}(h:Dp adr vw ca u k c)(a:CK u w):Dp adr vw ca w k c:=h.aT a.i
structure Hl(Z:SN) (W:World):Prop where
 pl:W.heap[Z.pb]?=some (.cells #[.slice Z.ca Z.X.length Z.cc,Z.vv] 102 (0,0))
 yl:W.heap[Z.yb]?=some (.cells #[.func (.yield Z.l) #[] #[]] 192 (0,0))
 sd:W.heap[Z.sb]?=some (.cells #[.int .i64 Z.sa,.pointer (Z.sf.map Z.adr)] 108 (0,0))
 sr:W.heap[Z.xb]?=some (.cells #[.func (.func 109) #[] #[.pointer (some ⟨Z.pb,0,none⟩),.pointer (some ⟨Z.yb,0,none⟩),.pointer (some ⟨Z.sb,0,none⟩),.pointer (some ⟨Z.xb,0,none⟩)]] 193 (0,0))
 cx:∀(k:Nat)(c:Cx),Z.X[k]?=some c->Dp Z.adr Z.vw Z.ca W k c
 us:IG Z.adr Z.U W
def Hl.O{Z W d}(h:Hl Z W)(b:Cl W d):Hl Z d:=⟨b _ _ _ _ h.pl qe,b _ _ _ _ h.yl qe,b _ _ _ _ h.sd qe,b _ _ _ _ h.sr qe,λk c e=>(h.cx k c e).aT b,h.us.aT b⟩
def Hl.C{Z W a}(h:Hl Z W)(b:Bw W a):Hl Z a:=h.O (Cl.m b)
def Ej(Z:SN)(k:Nat)(c:Cx):List F:=if Z.sa=(k:Int) then Z.sf.toList else(Z.vw c.node).2.2
def Fl(Z:SN)(k:Nat)(c:Cx)(T:List F):Bool:=if Z.sa=(k:Int) then(match Z.sf with|some f=>c.cp.x.all (Ap T f)|none=>true) else true
def De(Z:SN):Nat->List Cx->List F->List (List F)
 |_,[],T=>[T]
 |k,c::cs,T=>if c.cp.neg=true then(if Fl Z k c T=true/\(Z.vw c.node).2.2.any (λf=>c.cp.x.all (Ap T f))=false then De Z (k+1) cs T else []) else(Ej Z k c).flatMap (λf=>if c.cp.x.all (Ap T f)=true then De Z (k+1) cs (T++[f]) else [])
def IX(Z:SN):Nat->List Cx->List F->Prop
 |_,[],_=>True
 |k,c::cs,T=>c.cp.N=T.length/\(c.cp.neg=false->T.length<3)/\(∀f∈(Z.vw c.node).2.2,∀t∈c.cp.x,t.V T f)/\(Z.sa=(k:Int)->∃f,Z.sf=some f/\∀t∈c.cp.x,t.V T f)/\(if c.cp.neg=true then IX Z (k+1) cs T else∀f∈Ej Z k c,c.cp.x.all (Ap T f)=true->IX Z (k+1) cs (T++[f]))
def LE(Z:SN)(p0 p1 p2:Option Addr)(T:List F):Prop:=(p0,p1,p2)=Ab Z.adr T/\T.length<=3/\∀f∈T,f∈Z.U
def LE.cS{Z b a c T W}(h:LE Z b a c T)(hu:IG Z.adr Z.U W):En W (.pointer b) (.pointer a) (.pointer c) T:=by
 have e:=h.1;simp only[Ab,YO]at e;rw[e.1,e.2.1,e.2.2];exact zp hu h.2.2 h.2.1
def ES(Z:SN):={T:List F // T.length<=3/\∀f∈T,f∈Z.U}
def Lp{Z:SN}(x:ES Z):Value:=AM (Ab Z.adr x.1)
def MA(Z:SN)(J Jx:List (ES Z)->World->Prop)(pre:List (ES Z))(Ts:List (List F))(W:World)(e:Ending)(W':World):Prop:=
 (e=.returned (.bool true)/\∃ys:List (ES Z),ys.map (λy=>y.1)=Ts/\J (pre++ys) W'/\Cl W W')∨(e=.returned (.bool false)/\∃q,Jx q W')
def MA.one{Z J c pre d W e a}(h:MA Z J c pre d W e a):∃b:Bool,e=.returned (.bool b)/\Hid (b=true->∃ys:List (ES Z),ys.map (λy=>y.1)=d/\J (pre++ys) a/\Cl W a)/\Hid (b=false->∃q,c q a):=by
 rcases h with⟨rfl,h⟩|⟨rfl,h⟩
 .exact⟨true,rfl,λ_=>h,λe=>qo⟩
 exact⟨false,rfl,λe=>qo,λ_=>h⟩
def ON(Z c b d T f w)(i:LE Z c b d T)(l:T.length<3)(n:f∈Z.U) :
  Ca 114 #[.agg #[.pointer c,.pointer b,.pointer d],I6 (T.length:Int),.pointer (some (Z.adr f))] w λe w'=>∃m O k,e=.returned (.agg #[.pointer m,.pointer O,.pointer k])/\Hid (LE Z m O k (T++[f]))/\Bw w w':=by
 refine(Tu c b d (some (Z.adr f)) T.length w l).j λe w' q=>?_;refine⟨(Ab Z.adr (T++[f])).1,(Ab Z.adr (T++[f])).2.1,(Ab Z.adr (T++[f])).2.2,?_,⟨rfl,qf,λg a=>?_⟩,q.2⟩
 .rw[q.1];have e:=i.1;simp only[Ab,YO]at e;rw[e.1,e.2.1,e.2.2,Xf Z.adr T f l];rfl
 rcases yn.1 a with a|a
 .exact i.2.2 g a
 rw[yp.1 a];exact n
def uU(k nb:Nat)(sa f i g ts fa n fc w)(b:At w nb 4 (.slice fa n fc))(a:¬sa=(k:Int)) :
  Ca 112 #[.agg #[I6 sa,.pointer f],I6 (k:Int),.agg #[i,g,Pn nb,ts]] w λe w'=>e=.returned (.slice fa n fc)/\Bw w w':=by
 have p:((k:Int)==sa)=false:=by simpa usingλe=>a e.y
 clear a;go_enter func112,ntmps112;go_upto_region 1 with fail;refine BF ?_;intro w0 O c d;obtain⟨q,a1⟩:=Az c;obtain⟨_,_,l,_⟩:=Ay d;have m:=zab O b;have j:=Aa O;clear O c d b;go_wp2_with fail;go_ret;exact⟨rfl,j.o⟩
def ti(k:Nat)(a f i l ts w) :
  Ca 112 #[.agg #[I6 (k:Int),.pointer a],I6 (k:Int),.agg #[f,i,l,ts]] w λe w'=>∃b,e=.returned (.slice (some ⟨b,0,none⟩) 1 1)/\At w' b 0 (.pointer a)/\Bw w w':=by
 go_enter func112,ntmps112;go_upto_region 1 with fail;refine BF ?_;intro w0 O c g;obtain⟨m,a1⟩:=Az c;have d:=Aa O;clear O c g;go_wp2_with fail;go_ret;exact⟨w0.heap.size,rfl,AS (L:=[_]) (heap_alloc_new w0 _) (j:=0) rfl,d.o.alloc d.o.size _⟩
def tl(k:Nat)(sa c j d m ts g f i w)(a:¬sa=(k:Int)) :
  Ca 110 #[.agg #[I6 sa,.pointer c],I6 (k:Int),.agg #[j,d,m,ts],.agg #[g,f,i]] w λe w'=>e=.returned (.bool false)/\Bw w w':=by
 have q:((k:Int)==sa)=false:=by simpa usingλe=>a e.y
 clear a;go_enter func110,ntmps110;go_upto_region 1 with fail;refine FX ?_;intro w0 O b l p;obtain⟨r,a1⟩:=Az b;have n:=Aa O;clear O b l p;go_wp2_with fail;go_ret;exact⟨rfl,n.o⟩
def uV(k:Nat)(l f n m A c j g ts i x T w)(C:DS w i ts)(z:En w c j g T)(s:DB w (.pointer l) f)(hl:ts.length<=1048576)(a:∀t∈ts,t.V T f) :
  Ca 110 #[.agg #[I6 (k:Int),.pointer l],I6 (k:Int),.agg #[n,m,A,.slice i ts.length x],.agg #[c,j,g]] w λe w'=>e=.returned (.bool (!ts.all (Ap T f)))/\Bw w w':=by
 have r:=Aa (λu(hu:Bw w u)=>MZ n m A c j g (.pointer l) ts i x T f u (C.d hu) (z.d hu) (s.d hu) hl a);clear C z s a;obtain⟨b,y⟩:∃b,b=ts.all (Ap T f):=⟨_,rfl⟩
 rw[<-y]at r⊢;clear y;go_enter func110,ntmps110;go_upto_region 1 with fail;refine FX ?_;intro w0 O q v p;obtain⟨I,a1⟩:=Az q;obtain⟨K,J,E,L⟩:=Ay v;obtain⟨G,H,t2⟩:=Ao p;have B:=Aa O;clear O q v p;go_wp2_with fail;refine(r.o w0 B.o).rtn λM D=>?_;go_wp2_with fail;go_ret;exact⟨rfl,B.o.thn D⟩
def AV{w:World}{b ty x0}(h:w.heap[b]?=some (.cells #[x0] ty (0,0))):At w b 0 x0:=by simp[World.cell?,h]
def sE(Z J p N)(B:∀s W a,J s W->Bw W a->J s a)(I:∀(w:Nat)(pre:List (ES Z))(x:ES Z)(i:World),J pre i->pre.length<N->YieldAt Fence.wide w prog Z.l #[Lp x] i λe a=>(e=.returned (.bool true)/\J (pre++[x]) a/\Cl i a)∨(e=.returned (.bool false)/\p (pre++[x]) a))(T b g d)(f:LE Z b g d T)(pre W)(y:Hl Z W)(z:J pre W)(H:pre.length<N) :
   Ca 109 #[I6 (Z.X.length:Int),.agg #[.pointer b,.pointer g,.pointer d],Pn Z.pb,Pn Z.yb,Pn Z.sb,Pn Z.xb] W (MA Z J p pre [T] W):=by
 go_enter func109,ntmps109;go_upto_region 1 with fail;refine Be ?_;intro w0 O t;obtain⟨M,R,t2⟩:=Ao t;have q:=Aa (y.C O);obtain⟨g0,_⟩:=Az q.o.pl;have U:=AV q.o.yl;have u:=B _ _ _ z O;have K0:=Aa (Cl.m O);obtain⟨fn,E,L,v,k,r⟩:=I 5 pre ⟨T,f.2⟩ w0 u H;have K:=Aa r;have Y:(Instr.yield Z.l #[.agg #[.pointer b,.pointer g,.pointer d]]).run prog w0=.ok (.round Z.l fn E L v) w0:=by
  have e:Lp (Z:=Z) ⟨T,f.2⟩=.agg #[.pointer b,.pointer g,.pointer d]:=by
   unfold Lp;rw[<-f.1];rfl
  rw[<-e];exact k
 clear O t k r;go_upto_region 2 with fail;refine(wpIn_wide (n:=6)).1 ?_
 gi_wp2;refine K.o.j ?_;rintro e a (⟨rfl,A,G⟩|⟨rfl,D⟩)
 .gi_wp2;go_wp2_with fail;go_ret;exact .inl ⟨rfl,[⟨T,f.2⟩],rfl,A,K0.o.c G⟩
 gi_wp2;go_wp2_with fail;go_ret;exact .inr ⟨rfl,_,D⟩
def sL(Z J Jx)(B:∀s W z,J s W->Bw W z->J s z)(c)(k:Nat)(A:Z.X[k]?=some c)(T G R H pre W)(az:Hl Z W)(aF:LE Z G R H T)(d:∀f∈(Z.vw c.node).2.2,∀t∈c.cp.x,t.V T f)(ax:Z.sa=(k:Int)->∃f,Z.sf=some f/\∀t∈c.cp.x,t.V T f)(aN:J pre W)(K:c.cp.neg=true)(n r)(aG:¬(Fl Z k c T=true/\(Z.vw c.node).2.2.any (λf=>c.cp.x.all (Ap T f))=false)->r=[])(au:(Fl Z k c T=true/\(Z.vw c.node).2.2.any (λf=>c.cp.x.all (Ap T f))=false)->r=n)(aB:(Fl Z k c T=true/\(Z.vw c.node).2.2.any (λf=>c.cp.x.all (Ap T f))=false)->∀z,Hl Z z->J pre z->Ca 109 #[I6 ((k:Int)+1),.agg #[.pointer G,.pointer R,.pointer H],Pn Z.pb,Pn Z.yb,Pn Z.sb,Pn Z.xb] z (MA Z J Jx pre n z)) :
   Ca 109 #[I6 (k:Int),.agg #[.pointer G,.pointer R,.pointer H],Pn Z.pb,Pn Z.yb,Pn Z.sb,Pn Z.xb] W (MA Z J Jx pre r W):=by
 have aE:=Z.small c (yd A);have aK:(Z.vw c.node).2.2.length<=1048576:=yh (Z.few c (yd A)) qh;obtain⟨ay,HF,HI,D,ar,HCX⟩:=Jk aF d aB aG au A;obtain⟨g,aJ,_⟩:=az.cx k c A;have aO:=Aa ax;have z1:(k:Int)<(Z.X.length:Int):=by have:=(ye.1 A).1;omega
 have aT:((k:Int)==(Z.X.length:Int))=false:=by simp;omega
 have z0:(0:Int)<=(k:Int):=qd;have aP:(k:Int)<1000000:=by have:=(ye.1 A).1;have:=Z.X6;omega
 have aI:=Aa (λ(u:World)(hu:Hl Z u)=>show Ca 110 #[.agg #[I6 Z.sa,.pointer (Z.sf.map Z.adr)],I6 (k:Int),.agg #[.bool true,I6 (c.cp.N:Int),Pn c.node,.slice c.ta c.cp.x.length c.tc],.agg #[.pointer G,.pointer R,.pointer H]] u λe w'=>e=.returned (.bool (!Fl Z k c T))/\Bw u w' from by
  by_cases hs:Z.sa=(k:Int)
  .obtain⟨f,hf,aL⟩:=aO.o hs;have e:Fl Z k c T=c.cp.x.all (Ap T f):=by
    unfold Fl;rw[if_pos hs,hf]
   rw[e,hs,hf];obtain⟨_,_,_,aM,_⟩:=hu.cx k c HCX.o;exact uV k (some (Z.adr f)) f _ _ _ _ _ _ c.cp.x c.ta c.tc T u aM (ay.o.cS hu.us) (hu.us f (Z.sfU f hf)) (yh aE qh) aL
  have e:Fl Z k c T=true:=by
   unfold Fl;rw[if_neg hs]
  rw[e];exact tl k Z.sa _ _ _ _ _ _ _ _ u hs)
 clear aF d aB aG au ax;go_enter func109,ntmps109;go_upto_region 1 with fail;refine Be ?_;intro w0 aq aA;obtain⟨t0,t1,t2⟩:=Ao aA;have U:=Aa (az.C aq);obtain⟨g0,_⟩:=Az U.o.pl;obtain⟨g',aw,⟨c0,c1,c2,c3⟩,_⟩:=U.o.cx k c HCX.o;rw[aJ]at g0 aw
 cases aw
 obtain⟨J0,B0⟩:=Ah (B _ _ _ aN aq) aq;rw[K]at c0;clear aq aA A;go_upto_region 4 with fail;refine Be ?_;intro w2 ah aC;obtain⟨d0,d1,d2,d3⟩:=Ay aC;have u0:=zab ah t0;have u1:=zab ah t1;have u2:=zab ah t2;obtain⟨ao,J2,B2⟩:=AA (U.o.C ah) (B _ _ _ J0.o ah) (B0.o.thn ah);obtain⟨s0,s1⟩:=Az ao.o.sd;clear ah aC t0 t1 t2 c0 c1 c2 c3 g0 U J0 B0;have L:=Aa (aI.o w2 ao.o);clear aI
 cases b:Fl Z k c T
 .rw[b]at L;replace D:=Aa (D.o (by rw[b];simp));clear b;go_wp2_with fail;refine L.o.rtn λw3 O=>?_;obtain⟨E,I⟩:=Ah (B _ _ _ J2.o O) (B2.o.thn O);clear O;go_wp2_with fail;go_ret;exact .inl ⟨rfl,[],D.o.y,by simpa using E.o,Cl.m I.o⟩
 rw[b]at L;have aH:=Aa b;clear b;go_wp2_with fail;refine L.o.rtn λw3 O=>?_;have f0:=zab O d0;have f1:=zab O d1;have f2:=zab O d2;have f3:=zab O d3;have v0:=zab O u0;have v1:=zab O u1;have v2:=zab O u2;obtain⟨Y,E,I⟩:=AA (ao.o.C O) (B _ _ _ J2.o O) (B2.o.thn O);clear O d0 d1 d2 d3 u0 u1 u2 s0 s1 ao J2 B2 L;obtain⟨_,_,_,m1,m2,m3⟩:=Y.o.cx k c HCX.o;have M:=Aa (zoQ (.bool true) (I6 (c.cp.N:Int)) (.pointer G) (.pointer R) (.pointer H) c.node c.cp.x c.ta c.tc T (Z.vw c.node).2.2 _ _ w3 m2 m1 (ay.o.cS Y.o.us) m3.eb (yh aE qh) aK HF.o);clear m1 m2 m3;cases p:(Z.vw c.node).2.2.any (λf=>c.cp.x.all (Ap T f))
 .rw[p]at M;replace HI:=Aa (HI.o ⟨aH.o,p⟩);replace ar:=Aa (ar.o ⟨aH.o,p⟩);clear p;simp only[WB];go_wp2_with fail;refine M.o.rtn λw4 af=>?_;have aS:=zab af v0;have aR:=zab af v1;have aQ:=zab af v2;obtain⟨aD,J4,B4⟩:=AA (Y.o.C af) (B _ _ _ E.o af) (I.o.thn af);have x0:=AV aD.o.sr;clear af f0 f1 f2 f3 v0 v1 v2 Y E I M;go_wp2_with fail;refine(HI.o w4 aD.o J4.o).j ?_;rintro e w5 (⟨rfl,ys,hl,hj,hk⟩|⟨rfl,q,hq⟩)
  .go_wp2_with fail;go_ret;exact .inl ⟨rfl,ys,hl.c ar.o.y,hj,(Cl.m B4.o).c hk⟩
  go_wp2_with fail;go_ret;exact .inr ⟨rfl,q,hq⟩
 rw[p]at M;replace D:=Aa (D.o (by rw[p];simp));clear p;simp only[WB];go_wp2_with fail;refine M.o.rtn λw4 af=>?_;obtain⟨J4,B4⟩:=Ah (B _ _ _ E.o af) (I.o.thn af);clear af;go_wp2_with fail;go_ret;exact .inl ⟨rfl,[],D.o.y,by simpa using J4.o,Cl.m B4.o⟩
def rZ{k}(O:0<=k)(a:k<1000000):IntKind.i64.wrap (k+1)=k+1:=by
 exact OU
def zoR{α β:Type}(g:α->List β){l:List α}{j x}(h:l[j]?=some x):(l.take (j+1)).flatMap g=(l.take j).flatMap g++g x:=by
 rw[yZ,h];simp
def zjM{α β:Type}(g:α->List β)(l:List α)(j):((l.take j).flatMap g).length<=(l.flatMap g).length:=by
 have h:l.flatMap g=(l.take j).flatMap g++(l.drop j).flatMap g:=by
  rw[<-Yr,WE]
 rw[h,yP];omega
def LB(Z k c w)(u:Dp Z.adr Z.vw Z.ca w k c)(hu:IG Z.adr Z.U w)(O:Z.sa=(k:Int)->∃f,Z.sf=some f)(o l ts) :
  Ca 112 #[.agg #[I6 Z.sa,.pointer (Z.sf.map Z.adr)],I6 (k:Int),.agg #[o,l,Pn c.node,ts]] w λe w'=>∃fa fc,e=.returned (.slice fa (Ej Z k c).length fc)/\Hid (Ho w' fa (Ej Z k c) Z.adr)/\Bw w w':=by
 obtain⟨_,_,_,_,t,y⟩:=u;by_cases a:Z.sa=(k:Int)
 .obtain⟨f,n⟩:=O a;have e:Ej Z k c=[f]:=by
   unfold Ej;rw[if_pos a,n];rfl
  rw[a,n,e];refine(ti k (some (Z.adr f)) o l _ ts w).j λv w' q=>?_;obtain⟨b,s,x,p⟩:=q;refine⟨_,_,s,λi g r=>?_,p⟩;cases i with
  |zero=>
   cases r
   exact⟨b,0,rfl,x,(hu f (Z.sfU f n)).d p⟩
  |succ i=>simp at r
 have e:Ej Z k c=(Z.vw c.node).2.2:=by
  unfold Ej;rw[if_neg a]
 rw[e];refine(uU k c.node Z.sa _ o l ts _ _ _ w t a).j λv w' q=>?_;exact⟨_,_,q.1,y.O (CK.m q.2),q.2⟩
def ZB(h:P:=by
 have HBX:=Aa (ai.o rfl);clear ai aj;simp only[Bool.not_false];go_wp2_with fail;go_ret;exact .inr ⟨rfl,HBX.o⟩
 ):=h
def ow(h:P:=by
 go_simp;refine hK.o _ _ trivial (λhHeld=>?_);clear hK K;(try simp only[pA,pZ,pS,pN]);refine r1 12 λK hK=>?_;go_simp;(go_at_call 114;refine(ON Z p0 p1 p2 T f w6 aD.o aG aH.o).j ?_;rintro e' w7 ⟨q0,q1,q2,rfl,ak,O⟩);(try go_wp2_with fail);refine hK.o _ _ trivial (λhHeld=>?_);clear hK K;(try simp only[pA,pZ,pS,pN]);have B7:=Aa (B6.o.thn O);have e9:=zab O e8;clear O;refine r1 13 λK hK=>?_;go_simp;(go_at_call 109;(try rw[af]);refine(HG1.o (pre++ys) w7 q0 q1 q2 (ax.o.C B7.o) (aJ.o _ _ _ JR.o B7.o) aw.o ak.o).j ?_;intro e' w8 am;obtain⟨b,rfl,aj,ai⟩:=am.one;clear am);(try go_wp2_with fail);refine hK.o _ _ trivial (λhHeld=>?_);clear hK K;(try simp only[pA,pZ,pS,pN]);refine sr 14 16 ?_;refine wpAnyH_done (by kernel_rfl) ?_ _;refine Ya ?_;clear af HG1 aw az ak hHeld e0 e1 e2 e3 v0 v1 v2 e8 e9 d0 d1 d2 d3 u0 u1 u2 x0 au hJ;cases b
 .have HBX:=Aa (ai.o rfl);clear ai aj;simp only[Bool.not_false];go_wp2_with fail;go_ret;exact .inr ⟨rfl,HBX.o⟩
 obtain⟨aC,ar,aq,ao⟩:=aj.o rfl;obtain⟨ay,aB,aA⟩:=AA aq ar ao;clear aq ar ao aj ai;simp only[WB];go_wp2_with fail;go_roundw
 case rel=>exact⟨j+1,ys++aC,by go_num,by omega,by rw[aF.o,yF,aE.o,aB.o],by rw[<-yW];exact ay.o,KR.o.c ((Cl.m B7.o).c aA.o)⟩
 case measure=>(simp;omega)
 ):=h
def sX(Z J Jx)(hJ:∀s W q,J s W->Bw W q->J s q)(c)(k:Nat)(n:Z.X[k]?=some c)(T p0 p1 p2 pre W)(a7:Hl Z W)(bd:LE Z p0 p1 p2 T)(p:∀f∈(Z.vw c.node).2.2,∀t∈c.cp.x,t.V T f)(aV:Z.sa=(k:Int)->∃f,Z.sf=some f/\∀t∈c.cp.x,t.V T f)(bm:J pre W)(D:c.cp.neg=false)(bq:c.cp.N=T.length)(aG:T.length<3)(N r gN)(hr:r=(Ej Z k c).flatMap gN)(hN:pre.length+r.length<=N)(hz:∀f∈Ej Z k c,c.cp.x.all (Ap T f)=false->gN f=[])(bc:∀f∈Ej Z k c,c.cp.x.all (Ap T f)=true->∀(aN:List (ES Z))(q:World)(q0 q1 q2:Option Addr),Hl Z q->J aN q->aN.length+(gN f).length<=N->LE Z q0 q1 q2 (T++[f])->Ca 109 #[I6 ((k:Int)+1),.agg #[.pointer q0,.pointer q1,.pointer q2],Pn Z.pb,Pn Z.yb,Pn Z.sb,Pn Z.xb] q (MA Z J Jx aN (gN f) q)) :
   Ca 109 #[I6 (k:Int),.agg #[.pointer p0,.pointer p1,.pointer p2],Pn Z.pb,Pn Z.yb,Pn Z.sb,Pn Z.xb] W (MA Z J Jx pre r W):=by
 have br:=Z.small c (yd n);have bh:(Ej Z k c).length<=1000:=by
  unfold Ej;split
  .cases Z.sf<;>simp
  exact Z.few c (yd n)
 have aD:=Aa bd;have HI:=Aa bc;have HZ:=Aa hz;have aX:=Aa hr;have bi:=Aa hN;have aJ:=Aa hJ;have HCX:=Aa n;obtain⟨g,bg,_⟩:=a7.cx k c n;have HF:=Aa (show∀f∈Ej Z k c,f∈Z.U/\∀t∈c.cp.x,t.V T f fromλf hf=>by
  unfold Ej at hf;split at hf
  .rename_i hs;obtain⟨f',e,h⟩:=aV hs;rw[e]at hf;simp at hf;subst hf;exact⟨Z.sfU f e,h⟩
  exact⟨Z.sub c (yd n) f hf,p f hf⟩)
 have aU:=Aa (λ(u:World)(hu:Hl Z u)=>LB Z k c u (hu.cx k c n) hu.us (λh=>(aV h).imp λf h=>h.1));have z1:(k:Int)<(Z.X.length:Int):=by have:=(ye.1 n).1;omega
 clear bd p bc hz hr hN aV;obtain⟨fs,bf⟩:∃l,l=Ej Z k c:=⟨_,rfl⟩
 rw[<-bf]at aU HF HI HZ aX bh;clear bf;have bA:((k:Int)==(Z.X.length:Int))=false:=by simp;omega
 have z0:(0:Int)<=(k:Int):=qd;have a3:(k:Int)<1000000:=by have:=(ye.1 n).1;have:=Z.X6;omega
 go_enter func109,ntmps109;go_upto_region 1 with fail;refine Be ?_;intro w0 aR E;obtain⟨M,G⟩:∃b,b=W.heap.size:=⟨_,rfl⟩
 rw[<-G]at E⊢;obtain⟨t0,t1,t2⟩:=Ao E;obtain⟨aW,R⟩:=Ah E (a7.C aR);obtain⟨g0,_⟩:=Az R.o.pl;obtain⟨g',a4,⟨c0,c1,c2,c3⟩,_⟩:=R.o.cx k c HCX.o;rw[bg]at g0 a4;cases a4;obtain⟨J0,B0⟩:=Ah (hJ _ _ _ bm aR) aR;rw[D]at c0;rw[bq]at c1;have bz:M<w0.heap.size:=Ak E;clear aR E G n;go_upto_region 4 with fail;refine Be ?_;intro w2 H L;obtain⟨I,a8⟩:∃b,b=w0.heap.size:=⟨_,rfl⟩
 rw[<-a8]at L⊢;obtain⟨d0,d1,d2,d3⟩:=Ay L;obtain⟨aT,aZ,Y,J2,B2⟩:=DE L ((H.block _ (Ak aW.o)).c aW.o) (R.o.C H) (hJ _ _ _ J0.o H) (B0.o.thn H);obtain⟨s0,s1⟩:=Az Y.o.sd;have a9:=Aa (aU.o w2 Y.o (.bool false) (I6 (T.length:Int)) (.slice c.ta c.cp.x.length c.tc));clear aU;clear H L a8 t0 t1 t2 c0 c1 c2 c3 g0 R J0 B0 aW;go_wp2_with fail;refine a9.o.j ?_;rintro e w3 ⟨fa,fc,rfl,bt,z⟩;obtain⟨bn,bl,bk,J3,B3⟩:=DE ((z.block _ (Ak aT.o)).c aT.o) ((z.block _ (Ak aZ.o)).c aZ.o) (Y.o.C z) (hJ _ _ _ J2.o z) (B2.o.thn z);clear z a9 d0 d1 d2 d3 s0 s1 Y J2 B2 aT aZ;go_wp2_with fail
 go_loopw [49] (λiv wr=>∃(j:Nat)(ys:List (ES Z)),iv=I6 (j:Int)/\j<=fs.length/\ys.map (λy=>y.1)=(fs.take j).flatMap gN/\J (pre++ys) wr/\Cl w3 wr) (mz fs.length)
 case atStart=>exact⟨0,[],rfl,yk _,rfl,by simpa using J3.o,λ_ _ _ _ h _=>h⟩
 case round=>
  obtain⟨j,ys,rfl,bw,a0,a6,B⟩:=hrel;obtain⟨aE,JR,KR,ax,bp,bu⟩:=Jk a0 a6 B (bk.o.O B) (B _ _ _ _ bn.o qe) (B _ _ _ _ bl.o qe);clear a0 a6 B J3;by_cases hj:j<fs.length
  .obtain⟨f,hf⟩:=Ba hj;have aY:=yd hf;obtain⟨_,_,_,m1,_,_⟩:=ax.o.cx k c HCX.o;obtain⟨hb,ho,rfl,au,_⟩:=(bt.o.aT KR.o) j f hf;obtain⟨aS,a5⟩:=HF.o f aY;obtain⟨bv,aH⟩:=Ah (ax.o.us f aS) aS;obtain⟨d0,d1,d2,d3⟩:=Ay bp.o;obtain⟨u0,u1,u2⟩:=Ao bu.o;have x0:=AV ax.o.sr;have y0:(0:Int)<=(j:Int):=qd;have y1:(j:Int)<(fs.length:Int):=qd;obtain⟨aF,az⟩:=Ah (zoR gN hf) (λw'(h:Bw wr w')=>MZ (.bool false) (I6 (T.length:Int)) (Pn c.node) (.pointer p0) (.pointer p1) (.pointer p2) (.pointer (some (Z.adr f))) c.cp.x c.ta c.tc T f w' (m1.d h) ((aD.o.cS ax.o.us).d h) (bv.o.d h) (yh br qh) a5);clear m1 aS a5;cases A:c.cp.x.all (Ap T f)
   .have bo:=Aa (HZ.o f aY A);rw[A]at az;clear A hf;go_wp2_with fail;refine wp_region_noPanic ?_;refine wp_region_held_drew (S:=(λw'=>At w' I 0 (.bool false)/\At w' I 1 (I6 (T.length:Int))/\At w' I 2 (Pn c.node)/\At w' I 3 (.slice c.ta c.cp.x.length c.tc)/\At w' M 0 (.pointer p0)/\At w' M 1 (.pointer p1)/\At w' M 2 (.pointer p2))) qg ?_ (λhHeld=>?_)
    ·(try dsimp only);exact⟨d0,d1,d2,d3,u0,u1,u2⟩
    refine sr 0 3 ?_;refine wpAnyH_ready (rs:=[3]) qg qe ?_;refine Yj (ym.c rfl) (λK hK=>?_) Yx;go_simp;(go_at_call 113;refine(az.o _ An.drew).j ?_;rintro e' w6 ⟨rfl,ah⟩);(try go_wp2_with fail);refine hK.o _ _ (by(try dsimp only);exact⟨zab ah d0,zab ah d1,zab ah d2,zab ah d3,zab ah u0,zab ah u1,zab ah u2⟩) λhHeld=>?_;clear hK K;(try simp only[pA,pZ,pS,pN]);have B6:=Aa (show Bw wr w6 from An.drew.c (ah.j qe));clear ah;refine sr 4 16 ?_;refine wpAnyH_done qg ?_ _;refine Ya ?_;go_wp2_with fail;go_roundw
    case rel=>exact⟨j+1,ys,qm,qd,by rw[aF.o,bo.o,yQ];exact aE.o,hJ _ _ _ JR.o B6.o,KR.o.c (Cl.m B6.o)⟩
    case measure=>(simp;omega)
   have HG1:=Aa (HI.o f aY A);rw[A]at az;have aw:=Aa (show(pre++ys).length+(gN f).length<=N by have h1:=zjM gN fs (j+1);rw[aF.o,yP]at h1;have h2:=congrArg List.length aE.o;rw[yt]at h2;have h3:=congrArg List.length aX.o;have h4:=bi.o;rw[yP];omega);have af:IntKind.i64.wrap ((k:Int)+1)=(k:Int)+1:=rZ z0 a3;clear A hf;go_wp2_with fail;refine wp_region_noPanic ?_;refine wp_region_held_drew (S:=(λ_=>True)) qg ?_ (λhHeld=>?_)
   ·(try dsimp only)
    all_goals trivial
   refine sr 2 3 ?_;refine r2 0 1 (λK hK=>?_) λK hK=>?_
   focus
    go_simp;refine hK.o _ _ trivial (λhHeld=>?_);clear hK K;(try simp only[pA,pZ,pS,pN]);refine r1 1 λK hK=>?_
   rotate_left
   focus
    go_simp;refine hK.o _ _ trivial (λhHeld=>?_);clear hK K;(try simp only[pA,pZ,pS,pN]);refine r1 0 λK hK=>?_
   rotate_left
   all_goals
    go_simp;refine hK.o _ _ trivial (λhHeld=>?_);clear hK K;(try simp only[pA,pZ,pS,pN]);refine r1 3 λK hK=>?_;go_simp;(go_at_call 113;refine(az.o _ An.drew).j ?_;rintro e' w6 ⟨rfl,ah⟩);(try go_wp2_with fail);refine hK.o _ _ trivial (λhHeld=>?_);clear hK K;(try simp only[pA,pZ,pS,pN]);have e0:=zab ah d0;have e1:=zab ah d1;have e2:=zab ah d2;have e3:=zab ah d3;have v0:=zab ah u0;have v1:=zab ah u1;have v2:=zab ah u2;have e8:=zab ah x0;have B6:=Aa (show Bw wr w6 from An.drew.c (ah.j qe));clear ah;refine sr 4 5 ?_;refine sr 6 8 ?_;refine sr 9 10 ?_;refine sr 11 12 ?_;refine wpAnyH_ready (rs:=[5,8,10]) qg qe (Yj (ym.c rfl) (λK hK=>?_) (Yj (ym.c rfl) (λK hK=>?_) (Yj (ym.c rfl) (λK hK=>?_) Yx)))
    .go_simp;refine hK.o _ _ trivial (λhHeld=>?_);clear hK K;(try simp only[pA,pZ,pS,pN]);refine r2 8 10 (λK hK=>?_) λK hK=>?_
     focus
      go_simp;refine hK.o _ _ trivial (λhHeld=>?_);clear hK K;(try simp only[pA,pZ,pS,pN]);refine r1 10 λK hK=>?_
     rotate_left
     focus
      go_simp;refine hK.o _ _ trivial (λhHeld=>?_);clear hK K;(try simp only[pA,pZ,pS,pN]);refine r1 8 λK hK=>?_
     rotate_left
     all_goals
      go_simp;refine hK.o _ _ trivial (λhHeld=>?_);clear hK K;(try simp only[pA,pZ,pS,pN]);refine r1 12 λK hK=>?_;go_simp;(go_at_call 114;refine(ON Z p0 p1 p2 T f w6 aD.o aG aH.o).j ?_;rintro e' w7 ⟨q0,q1,q2,rfl,ak,O⟩);(try go_wp2_with fail);refine hK.o _ _ trivial (λhHeld=>?_);clear hK K;(try simp only[pA,pZ,pS,pN]);have B7:=Aa (B6.o.thn O);have e9:=zab O e8;clear O;refine r1 13 λK hK=>?_;go_simp;(go_at_call 109;(try rw[af]);refine(HG1.o (pre++ys) w7 q0 q1 q2 (ax.o.C B7.o) (aJ.o _ _ _ JR.o B7.o) aw.o ak.o).j ?_;intro e' w8 am;obtain⟨b,rfl,aj,ai⟩:=am.one;clear am);(try go_wp2_with fail);refine hK.o _ _ trivial (λhHeld=>?_);clear hK K;(try simp only[pA,pZ,pS,pN]);refine sr 14 16 ?_;refine wpAnyH_done qg ?_ _;refine Ya ?_;clear af HG1 aw az ak hHeld e0 e1 e2 e3 v0 v1 v2 e8 e9 d0 d1 d2 d3 u0 u1 u2 x0 au hJ;cases b
      .exact ZB
      obtain⟨aC,ar,aq,ao⟩:=aj.o rfl;obtain⟨ay,aB,aA⟩:=AA aq ar ao;clear aq ar ao aj ai;simp only[WB];go_wp2_with fail;go_roundw
      case rel=>exact⟨j+1,ys++aC,qm,qd,Z4,Z5,KR.o.c ((Cl.m B7.o).c aA.o)⟩
      case measure=>(simp;omega)
    .go_simp;refine hK.o _ _ trivial (λhHeld=>?_);clear hK K;(try simp only[pA,pZ,pS,pN]);refine r2 5 10 (λK hK=>?_) λK hK=>?_
     .go_simp;refine hK.o _ _ trivial (λhHeld=>?_);clear hK K;(try simp only[pA,pZ,pS,pN]);refine r1 10 λK hK=>?_;exact ow
     go_simp;refine hK.o _ _ trivial (λhHeld=>?_);clear hK K;(try simp only[pA,pZ,pS,pN]);refine r2 5 12 (λK hK=>?_) λK hK=>?_
     focus
      go_simp;refine hK.o _ _ trivial (λhHeld=>?_);clear hK K;(try simp only[pA,pZ,pS,pN]);refine r1 12 λK hK=>?_;go_simp;(go_at_call 114;refine(ON Z p0 p1 p2 T f w6 aD.o aG aH.o).j ?_;rintro e' w7 ⟨q0,q1,q2,rfl,ak,O⟩);(try go_wp2_with fail);refine hK.o _ _ trivial (λhHeld=>?_);clear hK K;(try simp only[pA,pZ,pS,pN]);have B7:=Aa (B6.o.thn O);have e9:=zab O e8;clear O
     rotate_left
     focus
      go_simp;(go_at_call 114;refine(ON Z p0 p1 p2 T f w6 aD.o aG aH.o).j ?_;rintro e' w7 ⟨q0,q1,q2,rfl,ak,O⟩);(try go_wp2_with fail);refine hK.o _ _ trivial (λhHeld=>?_);clear hK K;(try simp only[pA,pZ,pS,pN]);have B7:=Aa (B6.o.thn O);have e9:=zab O e8;clear O;refine r1 5 λK hK=>?_;go_simp;refine hK.o _ _ trivial (λhHeld=>?_);clear hK K;(try simp only[pA,pZ,pS,pN])
     rotate_left
     all_goals
      refine r1 13 λK hK=>?_;go_simp;(go_at_call 109;(try rw[af]);refine(HG1.o (pre++ys) w7 q0 q1 q2 (ax.o.C B7.o) (aJ.o _ _ _ JR.o B7.o) aw.o ak.o).j ?_;intro e' w8 am;obtain⟨b,rfl,aj,ai⟩:=am.one;clear am);(try go_wp2_with fail);refine hK.o _ _ trivial (λhHeld=>?_);clear hK K;(try simp only[pA,pZ,pS,pN]);refine sr 14 16 ?_;refine wpAnyH_done qg ?_ _;refine Ya ?_;clear af HG1 aw az ak hHeld e0 e1 e2 e3 v0 v1 v2 e8 e9 d0 d1 d2 d3 u0 u1 u2 x0 au hJ;cases b
      .exact ZB
      obtain⟨aC,ar,aq,ao⟩:=aj.o rfl;obtain⟨ay,aB,aA⟩:=AA aq ar ao;clear aq ar ao aj ai;simp only[WB];go_wp2_with fail;go_roundw
      case rel=>exact⟨j+1,ys++aC,qm,qd,Z4,Z5,KR.o.c ((Cl.m B7.o).c aA.o)⟩
      case measure=>(simp;omega)
    go_simp;refine hK.o _ _ trivial (λhHeld=>?_);clear hK K;(try simp only[pA,pZ,pS,pN]);refine r2 5 8 (λK hK=>?_) λK hK=>?_
    .go_simp;refine hK.o _ _ trivial (λhHeld=>?_);clear hK K;(try simp only[pA,pZ,pS,pN]);refine r1 8 λK hK=>?_;exact ow
    go_simp;refine hK.o _ _ trivial (λhHeld=>?_);clear hK K;(try simp only[pA,pZ,pS,pN]);refine r2 5 12 (λK hK=>?_) λK hK=>?_
    focus
     go_simp;refine hK.o _ _ trivial (λhHeld=>?_);clear hK K;(try simp only[pA,pZ,pS,pN]);refine r1 12 λK hK=>?_;go_simp;(go_at_call 114;refine(ON Z p0 p1 p2 T f w6 aD.o aG aH.o).j ?_;rintro e' w7 ⟨q0,q1,q2,rfl,ak,O⟩);(try go_wp2_with fail);refine hK.o _ _ trivial (λhHeld=>?_);clear hK K;(try simp only[pA,pZ,pS,pN]);have B7:=Aa (B6.o.thn O);have e9:=zab O e8;clear O
    rotate_left
    focus
     go_simp;(go_at_call 114;refine(ON Z p0 p1 p2 T f w6 aD.o aG aH.o).j ?_;rintro e' w7 ⟨q0,q1,q2,rfl,ak,O⟩);(try go_wp2_with fail);refine hK.o _ _ trivial (λhHeld=>?_);clear hK K;(try simp only[pA,pZ,pS,pN]);have B7:=Aa (B6.o.thn O);have e9:=zab O e8;clear O;refine r1 5 λK hK=>?_;go_simp;refine hK.o _ _ trivial (λhHeld=>?_);clear hK K;(try simp only[pA,pZ,pS,pN])
    rotate_left
    all_goals
     refine r1 13 λK hK=>?_;go_simp;(go_at_call 109;(try rw[af]);refine(HG1.o (pre++ys) w7 q0 q1 q2 (ax.o.C B7.o) (aJ.o _ _ _ JR.o B7.o) aw.o ak.o).j ?_;intro e' w8 am;obtain⟨b,rfl,aj,ai⟩:=am.one;clear am);(try go_wp2_with fail);refine hK.o _ _ trivial (λhHeld=>?_);clear hK K;(try simp only[pA,pZ,pS,pN]);refine sr 14 16 ?_;refine wpAnyH_done qg ?_ _;refine Ya ?_;clear af HG1 aw az ak hHeld e0 e1 e2 e3 v0 v1 v2 e8 e9 d0 d1 d2 d3 u0 u1 u2 x0 au hJ;cases b
     .exact ZB
     obtain⟨aC,ar,aq,ao⟩:=aj.o rfl;obtain⟨ay,aB,aA⟩:=AA aq ar ao;clear aq ar ao aj ai;simp only[WB];go_wp2_with fail;go_roundw
     case rel=>exact⟨j+1,ys++aC,qm,qd,Z4,Z5,KR.o.c ((Cl.m B7.o).c aA.o)⟩
     case measure=>(simp;omega)
  have bj:j=fs.length:=qd;subst bj;have hy:¬(fs.length:Int)<(fs.length:Int):=qd;go_wp2_with fail;go_ret;exact .inl ⟨rfl,ys,by rw[aE.o,yV];exact aX.o.y,JR.o,(Cl.m B3.o).c KR.o⟩
def zoU{α:Type}{l O:List α}{k c}(h:l.drop k=c::O):l[k]?=some c/\l.drop (k+1)=O:=by
 constructor
 .have:=congrArg (λx=>x[0]?) h;simpa using this
 rw[<-List.drop_drop,h];rfl
def Ux(k):((k+1:Nat):Int)=(k:Int)+1:=qe
def sZ(Z J p N)(w:∀s W d,J s W->Bw W d->J s d)(hY:∀(M:Nat)(pre:List (ES Z))(x:ES Z)(y:World),J pre y->pre.length<N->YieldAt Fence.wide M prog Z.l #[Lp x] y λe d=>(e=.returned (.bool true)/\J (pre++[x]) d/\Cl y d)∨(e=.returned (.bool false)/\p (pre++[x]) d)) :
  ∀ (b:List Cx) (k:Nat) (T:List F) (g m i:Option Addr) (pre:List (ES Z)) (W:World),Z.X.drop k=b->k<=Z.X.length->Hl Z W->LE Z g m i T->IX Z k b T->J pre W->pre.length+(De Z k b T).length<=N ->
   Ca 109 #[I6 (k:Int),.agg #[.pointer g,.pointer m,.pointer i],Pn Z.pb,Pn Z.yb,Pn Z.sb,Pn Z.xb] W (MA Z J p pre (De Z k b T) W):=by
 intro b
 induction b with
 |nil=>
  intro k T g m i pre W u ax r o D t n;have U:k=Z.X.length:=by
   have C:=congrArg List.length u;rw[List.length_drop]at C;simp at C;omega
  subst U;exact sE Z J p N w hY T g m i o pre W r t (by simp[De]at n;omega)
 |cons c b ih=>
  intro k T g m i pre W u ax r o D t n;obtain⟨z,B⟩:=zoU u;have aB:k<Z.X.length:=(ye.1 z).1;obtain⟨I,R,j,E,O⟩:=D;cases a:c.cp.neg with
  |true=>
   rw[if_pos a]at O;have e:De Z k (c::b) T=if Fl Z k c T=true/\(Z.vw c.node).2.2.any (λf=>c.cp.x.all (Ap T f))=false then De Z (k+1) b T else []:=by
    rw[De,if_pos a]
   rw[e]at n⊢;refine sL Z J p w c k z T g m i pre W r o j E t a (De Z (k+1) b T) _ (λh=>?_) (λh=>?_) (λh d v A=>?_)
   .rw[if_neg h]
   .rw[if_pos h]
   .rw[if_pos h]at n;have q:=ih (k+1) T g m i pre d B qd v o O A n;rw[Ux]at q;exact q
  |false=>
   rw[if_neg (by rw[a];simp)]at O;have e:De Z k (c::b) T=(Ej Z k c).flatMap (λf=>if c.cp.x.all (Ap T f)=true then De Z (k+1) b (T++[f]) else []):=by
    rw[De,if_neg (by rw[a];simp)]
   rw[e]at n⊢;refine sX Z J p w c k z T g m i pre W r o j E t a I (R a) N _ (λf=>if c.cp.x.all (Ap T f)=true then De Z (k+1) b (T++[f]) else []) rfl n (λf _ h=>?_) (λf L h au d q0 H K v A G Y=>?_)
   .simp[h]
   simp only[if_pos h]at G⊢;have q:=ih (k+1) (T++[f]) q0 H K au d B qd v Y (O f L h) A G;rw[Ux]at q;exact q
def zjF{P}(w a m fn x y):(store a (.func fn x y) m).run P w=stored P w a (.func fn x y) m:=run_store P w a _ m rfl
def xr{P:World->Prop}{w b t x0 y0}(O:w.heap[b]?=some (.cells #[x0] t (0,0)))(h:∀wt,wt.heap[b]?=some (.cells #[y0] t (0,0))->Turned w wt b->P wt):P (w.setCell ⟨b,0,none⟩ y0):=by
 exact oI
def YieldAt.dE{m}(m'){P l args W R}(h:YieldAt Fence.wide m P l args W R):YieldAt Fence.wide m' P l args W R:=by
 obtain⟨fn,tmps,assign,body,b,a⟩:=h;exact⟨fn,tmps,assign,body,b,a.1,λc cs _=>a.2 c cs (room_wide _)⟩
def zmK{α}{J:List α->World->Prop}{B}(h:AbidesFrom B J):∀s W b,J s W->Bw W b->J s b:=λs W b d a=>
 h s W b none d ⟨a.os,a.tape,a.output,a.size,λk c _=>a.block k c⟩ (λr e=>qo)
structure SY(Z:SN) (W:World):Prop where
 pl:W.heap[Z.pb]?=some (.cells #[.slice Z.ca Z.X.length Z.cc,Z.vv] 102 (0,0))
 sd:W.heap[Z.sb]?=some (.cells #[.int .i64 Z.sa,.pointer (Z.sf.map Z.adr)] 108 (0,0))
 cx:∀(k:Nat)(c:Cx),Z.X[k]?=some c->Dp Z.adr Z.vw Z.ca W k c
 us:IG Z.adr Z.U W
def SY.O{Z W b}(h:SY Z W)(a:Cl W b):SY Z b:=⟨a _ _ _ _ h.pl qe,a _ _ _ _ h.sd qe,λk c d=>(h.cx k c d).aT a,h.us.aT a⟩
def Il(Z)(J k:List (ES Z)->World->Prop)(z:∀s W a,J s W->Bw W a->J s a)(W)(hS:SY Z W)(w:Z.yb=W.heap.size)(t:Z.xb=W.heap.size+1)(B:IX Z 0 Z.X [])(N:∀(H:Nat)(pre:List (ES Z))(x:ES Z)(p:World),J pre p->pre.length<(De Z 0 Z.X []).length->YieldAt Fence.wide H prog Z.l #[Lp x] p λe a=>(e=.returned (.bool true)/\J (pre++[x]) a/\Cl p a)∨(e=.returned (.bool false)/\k (pre++[x]) a))(E:J [] W) :
  Ca 108 #[.func (.yield Z.l) #[] #[],Pn Z.pb,Pn Z.sb] W λe a=>(∃v,e=.returned v)/\((∃xs:List (ES Z),xs.map (λy=>y.1)=De Z 0 Z.X []/\J xs a)∨(∃pre,True/\k pre a)):=by
 have U:=Im;go_enter func108,ntmps108;go_upto_region 2 with fail;refine BF ?_;intro M u n O;rw[<-w]at n⊢;rw[<-t]at O;rw[show Z.yb+1=Z.xb by omega];have T:Z.yb<Z.xb:=qd;have R:W.heap.size<=Z.yb:=qd;clear w t;have K:=@zjF prog;have C:=AV O;have G:M.frozen? ⟨Z.xb,0,none⟩=false:=O5;go_upto_region 3 with fail
 refine xr O ?_;intro i b r;have g:Bw W i:=u.c (r.d qd);have A:=(r.block Z.yb qd).c n;clear C G n O r u K;have hS2:=hS.O (Cl.m g);have L:=Aa (show Hl Z i from⟨hS2.pl,A,hS2.sd,b,hS2.cx,hS2.us⟩);have x0:=AV b;have I:=Aa (sZ Z J k _ z N Z.X 0 [] none none none [] i qe (yk _) L.o ⟨rfl,qe,λf hf=>OY⟩ B (z _ _ _ E g) qe);clear g A b hS hS2;go_wp2_with fail;refine I.o.j ?_;rintro e Y (⟨rfl,ys,hl,hj,_⟩|⟨rfl,q,D⟩)
 .go_wp2_with fail;go_end0;exact⟨⟨_,rfl⟩,.inl ⟨ys,hl,QY⟩⟩
 go_wp2_with fail;go_end0;exact⟨⟨_,rfl⟩,.inr ⟨q,trivial,D⟩⟩
def jm(a v1 sa b n a1 j m q f)(i:a=.slice n j m)(p:v1=.slice a1 q f)(w) :
  Ca 57 #[.agg #[a,v1],.agg #[I6 sa,.pointer b]] w λe w'=>e=.returned (.func (.func 108) #[] #[Pn w.heap.size,Pn (w.heap.size+1)])/\Hid (w'.heap[w.heap.size]?=some (.cells #[a,v1] 102 (0,0)))/\Hid (w'.heap[w.heap.size+1]?=some (.cells #[I6 sa,.pointer b] 108 (0,0)))/\Bw w w':=by
 subst i p;have r:=Im;go_enter func57,ntmps57;go_upto_region 1 with fail;refine BF ?_;intro s O d c;obtain⟨k,l,g⟩:=AA O d c;clear O d c;go_wp2_with fail;go_ret;exact⟨rfl,l,g,k.o⟩
def iB(w):Ca 58 #[] w λe w'=>e=.returned (.agg #[I6 (-1),.pointer none])/\Bw w w':=by
 go_enter func58,ntmps58;go_wp2_with fail;refine bodyPost_ret (v:=.agg #[I6 (-1),.pointer none]) (by simp[results,results58,go_sem]) rfl ⟨rfl,?_⟩
 first
 |exact Aj
 |exact(Aj.setCell qe _).setCell qe _
section
variable {Z Z' : SN} (h1 : Z'.vw = Z.vw) (h2 : Z'.sa = Z.sa) (h3 : Z'.sf = Z.sf)
def xm(k:Nat)(c:Cx)(T:List F):Fl Z' k c T=Fl Z k c T:=by
 unfold Fl;rw[h2,h3]
def jl(k:Nat)(c:Cx):Ej Z' k c=Ej Z k c:=by
 unfold Ej;rw[h1,h2,h3]
def Vx:∀(cs:List Cx)(k:Nat)(T:List F),De Z' k cs T=De Z k cs T
 |[],_,_=>rfl
 |c::cs,k,T=>by
  have O:=Vx cs
  unfold De
  rw[jl h1 h2 h3,xm h2 h3,h1]
  simp only[O]
def Vu:∀(cs:List Cx)(k:Nat)(T:List F),IX Z' k cs T↔IX Z k cs T
 |[],_,_=>Iff.rfl
 |c::cs,k,T=>by
  have O:=Vu cs
  unfold IX
  rw[jl h1 h2 h3,h1,h2,h3]
  simp only[O]
end
def QT(Z n w)(hS:SY Z w)(o:IX Z 0 Z.X []) :
  SeqStopsK Fence.wide n prog 108 #[Pn Z.pb,Pn Z.sb] (λx:ES Z=>#[Lp x]) Cl (λys=>ys.map (λy=>y.1)=De Z 0 Z.X []) (λ_=>True) (De Z 0 Z.X []).length w:=by
 intro l J b W k d _ p f;refine callsIn_wide.2 ?_;have O:=hS.O (Cl.m k);have e:=Vx (Z:=Z) (Z':={ Z with l:=l,yb:=W.heap.size,xb:=W.heap.size+1 }) rfl rfl rfl Z.X 0 [];have h:=Il { Z with l:=l,yb:=W.heap.size,xb:=W.heap.size+1 } J b (zmK d) W ⟨O.pl,O.sd,O.cx,O.us⟩ rfl rfl ((Vu (Z:=Z) (Z':={ Z with l:=l,yb:=W.heap.size,xb:=W.heap.size+1 }) rfl rfl rfl Z.X 0 []).2 o) (λr pre x i hj hl=>YieldAt.dE r (p pre x i hj (by rw[<-e];exact hl))) f;refine h.j λs t q=>⟨q.1,?_⟩
 rcases q.2 with⟨xs,a,g⟩|q
 .exact .inl ⟨xs,a.c e,g⟩
 exact .inr q
end
def Fy(adr:F->Addr)(T:List F)(TT:List (List F)):List (List F):=TT.filter (λV=>decide (Ab adr V≠Ab adr T))
def Gk(adr:F->Addr)(Us TT:List (List F)):List (List F):=TT.filter (λV=>decide (Ab adr V ∉ Us.map (Ab adr)))
def mO(adr T a TT):Gk adr (T::a) TT=Gk adr a (Fy adr T TT):=by
 unfold Gk Fy;rw[Yq];refine YK λV _=>?_;simp only[yq,yG,not_or,Bool.decide_and,ne_eq];rw[Bool.and_comm]
def XK(adr TT):Gk adr [] TT=TT:=by simp[Gk]
def zoT(adr T TT):Gk adr [T] TT=Fy adr T TT:=by rw[mO,XK]
def lF{α β:Type}{h p}{q:β->Bool}:∀{l:List α},(∀x∈l,p x=true->∀y∈h x,q y=true)->(∀x∈l,p x=false->∀y∈h x,q y=false)->(l.filter p).flatMap h=(l.flatMap h).filter q
 |[],_,_=>rfl
 |x::r,h1,h2=>by
  have O:=lF (l:=r) (λy hy=>h1 y Jc) (λy hy=>h2 y Jc)
  rw[yL,yM,<-O]
  cases a:p x
  .rw[yJ (by rw[a];decide)]
   have:(h x).filter q=[]:=We.2 λy hy=>by rw[h2 x qe a y hy];decide
   rw[this]
   rfl
  rw[yD a,yL,Yk.2 (h1 x qe a)]
def j9{U n r g G T}(h:Et U (n::r) (g::G) T){V}(a:V∈A2 n [T]):V.length<=3/\∀f∈V,f∈U:=
 (Lb (n:=n) (TT:=[T]) (λb O=>by rw[yp.1 O];exact h) V a).len
section
variable {adr : F -> Addr} {U : List F} {old : List Kt} {cb nb wb : Nat}
def lI(o:Bs adr U){n r g G TT T}(m:∀T∈TT,Et U (n::r) (g::G) T)(l:Et U (n::r) (g::G) T):A2 n (Fy adr T TT)=Gk adr (A2 n [T]) (A2 n TT):=by
 have s:∀V∈TT,∀y∈A2 n [V],Ab adr y∈(A2 n [T]).map (Ab adr)->V=T:=λV a y b k=>by
  obtain⟨z,O,e⟩:=yz.1 k;have hy3:=j9 (m V a) b;have t:=j9 l O;have:=JO o t.2 hy3.2 t.1 hy3.1 e;subst this;rcases n with⟨d|d,fs⟩
  .simp only[A2,yL,YQ,yQ]at b O;obtain⟨f,_,x⟩:=yz.1 b;obtain⟨A,_,w⟩:=yz.1 O;exact(Qn (x.c w.y)).1
  have v:=yp.1 (yf.1 b).1;have u:=yp.1 (yf.1 O).1;exact v.y.c u
 have i:∀V∈TT,Ab adr V≠Ab adr T->V≠T:=λV _ h e=>h Gx;have p:∀V∈TT,Ab adr V=Ab adr T->V=T:=λV a e=>JO o (m V a).len.2 l.len.2 (m V a).len.1 l.len.1 e;rcases n with⟨d|d,fs⟩
 .unfold Fy Gk;refine lF (h:=λT=>(fs.filter (λf=>d.ts.all (Ap T f))).map (λf=>T++[f])) (λV a j y b=>?_) (λV a j y b=>?_)
  .simp only[decide_eq_true_eq]at j⊢;exactλq=>i V a j (s V a y (by simpa[A2] using b) q)
  simp only[decide_eq_false_iff_not,ne_eq,Decidable.not_not]at j⊢;rw[p V a j]at b;exact yU (by simpa[A2] using b)
 unfold Fy Gk;show((TT.filter _).filter _)=((TT.filter _).filter _);rw[Yq,Yq];refine YK λV a=>?_;by_cases O:nBar d.ts fs V=0
 .by_cases k:Ab adr V=Ab adr T
  .have e:=p V a k;subst e;have:Ab adr V∈(A2 (.inr d,fs) [V]).map (Ab adr):=yU (by simp[A2,O]);simp[O,this]
  have:Ab adr V ∉ (A2 (.inr d,fs) [T]).map (Ab adr):=λq=>i V a k (s V a V (by simp[A2,O]) q);simp[O,k,this]
 simp[O]
def FF(adr:F->Addr)(U:List F)(old:List Kt)(cb nb wb:Nat)(l:List Ar):Prop:=∀(G:List (List F))(TT:List (List F))(a:CQ l)(T:List F),Lv adr old l TT a->(∀T∈TT,Et U l G T)->TT.Nodup->T∈TT->(Df adr (-1) U cb nb wb l).ok T a/\∀a',(Df adr (-1) U cb nb wb l).stp T a a'->Lv adr old l (Fy adr T TT) a'
def FF.aB(i:Bs adr U){l}(h:FF adr U old cb nb wb l)(G):∀(f:List (List F))(TT:List (List F))(a b:CQ l),Lv adr old l TT a->(∀T∈TT,Et U l G T)->TT.Nodup->(∀T∈f,T∈TT)->f.Nodup->BH (Df adr (-1) U cb nb wb l).stp f a b->Lv adr old l (Gk adr f TT) b
 |[],TT,a,b,h1,_,_,_,_,hs=>by
  rw[<-show a=b from hs,XK]
  exact h1
 |V::f,TT,a,b,h1,h2,h3,h4,h5,⟨c,hs,hr⟩=>by
  rw[mO]
  rw[y9]at h5
  refine FF.aB i h G f (Fy adr V TT) c b ((h G TT a V h1 h2 h3 (h4 V (by simp))).2 c hs) (λT g=>h2 T (yf.1 g).1) (h3.filter _) (λT g=>?_) h5.2 hr
  have d:=h4 T (by simp[g])
  refine yf.2 ⟨d,?_⟩
  simp only[decide_eq_true_eq,ne_eq]
  intro e
  have:=JO i (h2 T d).len.2 (h2 V (h4 V qe)).len.2 (h2 T d).len.1 (h2 V (h4 V qe)).len.1 e
  subst this
  exact h5.1 g
def SP(m:Bs adr U):∀(l:List Ar),FF adr U old cb nb wb l
 |[]=>λG TT a T h c z j=>by
  refine⟨⟨λe=>(by cases e),h.2.bR _⟩,λk u=>?_⟩
  have e:k=(a.1.filter (λy=>decide (y≠Ab adr T)),E8 (Ab adr T) (-1) a.2):=by
   have e0:k=(FN (Ab adr T) (-1) a.1,E8 (Ab adr T) (-1) a.2):=u;rw[e0,FN,if_neg qh]
  subst e;refine⟨?_,h.2.be (h.1.mem_iff.2 (yU j))⟩;have D:(Fy adr T TT).map (Ab adr)=(TT.map (Ab adr)).filter (λy=>decide (y≠Ab adr T)):=by
   unfold Fy;rw[YV];rfl
  rw[D];exact h.1.filter _
 |(.inl d,fs)::r=>λG TT a T h c z j=>by
  match G,c with
  |[],c=>exact(c T j).elim
  |g::G,c=>
   have ih:=SP m r;have x:=c T j;obtain⟨J,H,K,N,R,w6⟩:=c T j;have Z:A2 (.inl d,fs) [T]=(fs.filter (λf=>d.ts.all (Ap T f))).map (λf=>T++[f]):=by simp[A2]
   have I:(A2 (.inl d,fs) [T]).Nodup:=Lj (n:=(.inl d,fs)) (r:=r) (U:=U) (g:=g) (G:=G) (λT' h'=>by rw[yp.1 h'];exact x) qe;have w:∀V∈A2 (.inl d,fs) [T],V∈A2 (.inl d,fs) TT:=λV hV=>Yo.2 ⟨T,j,by simpa[A2] using hV⟩;have o:=Lj c z;have O:=Lb c;refine⟨⟨J.1,H,λf C=>(R f (K f C)).2,λe=>qo,λi f b hi au ax=>?_⟩,λk u=>?_⟩
   .have aw:(((fs.take i).filter (λf=>d.ts.all (Ap T f))).map (λf=>T++[f]))++[T++[f]] <+: A2 (.inl d,fs) [T]:=by
     rw[Z];have D:fs.take (i+1)=fs.take i++[f]:=by
      rw[yZ,hi];rfl
     have e2:(((fs.take i).filter (λf=>d.ts.all (Ap T f))).map (λf=>T++[f]))++[T++[f]]=((fs.take (i+1)).filter (λf=>d.ts.all (Ap T f))).map (λf=>T++[f]):=by
      rw[D,yM,yD (p:=λf=>d.ts.all (Ap T f)) au,Yp,yF];rfl
     rw[e2];exact((List.take_prefix _ _).filter _).map _
    obtain⟨rest,M⟩:=aw;obtain⟨B,az⟩:∃B,B=((fs.take i).filter (λf=>d.ts.all (Ap T f))).map (λf=>T++[f]):=⟨_,rfl⟩
    rw[<-az]at M ax;rw[<-M]at I w;have W:=(yK.1 I).1;have ay:=(yK.1 W).1;have hl:=FF.aB m ih G B _ _ b h.2 O o (λV hV=>w V Lr) ay ax;have L:=w (T++[f]) qe;refine(ih G _ b (T++[f]) hl (λV hV=>O V (yf.1 hV).1) (o.filter _) (yf.2 ⟨L,?_⟩)).1;simp only[decide_eq_true_eq];intro q;obtain⟨V,hV,e⟩:=yz.1 q;have Y:=O V (w V Lr);have:=JO m Y.len.2 (O _ L).len.2 Y.len.1 (O _ L).len.1 e;exact(yK.1 W).2.2 V hV (T++[f]) qe this
   .obtain⟨E,v⟩:k.1=G8 adr T (-1) a.1/\BH (Df adr (-1) U cb nb wb r).stp ((fs.filter (λf=>d.ts.all (Ap T f))).map (λf=>T++[f])) a.2 k.2:=u;rw[<-Z]at v;refine⟨?_,?_⟩
    .rw[E,G8,if_neg qh];exact h.1.filter _
    .rw[lI m c x];exact FF.aB m ih G _ _ _ _ h.2 O o w I v
 |(.inr d,fs)::r=>λG TT a T h c z j=>by
  match G,c with
  |[],c=>exact(c T j).elim
  |g::G,c=>
   have ih:=SP m r;have x:=c T j;obtain⟨J,H,K,N,R⟩:=c T j;have o:=Lj c z;have O:=Lb c;have hc:=h.2.1 T j;refine⟨⟨J,H,λf C=>N f (K f C),λe=>qo,λ_=>⟨qd,λe=>?_⟩⟩,λk u=>?_⟩
   .exact(ih G _ _ T h.2.2 O o (yf.2 ⟨j,qf⟩)).1
   obtain⟨E,v,s⟩:k.1=G8 adr T (-1) a.1/\k.2.1=Gq (Ab adr T) (if(-1:Int)=1 then(nBar d.ts fs T:Int) else 0) a.2.1/\(Df adr (-1) U cb nb wb r).au (if(-1:Int)=1 then nBar d.ts fs T else(As (Ab adr T) a.2.1).toNat) T a.2.2 k.2.2:=u;rw[if_neg qh]at v s;refine⟨?_,λV hV=>?_,?_⟩
   .rw[E,G8,if_neg qh];exact h.1.filter _
   .rw[v];obtain⟨hV,t⟩:=yf.1 hV;rw[Tl (λe=>by rw[e]at t;simp at t)];exact h.2.1 V hV
   rw[lI m c x];unfold CE.au at s;by_cases A:nBar d.ts fs T=0
   .rw[if_pos qd]at s;have e:A2 (.inr d,fs) [T]=[T]:=by simp[A2,A]
    rw[e,zoT];exact(ih G _ _ T h.2.2 O o (yf.2 ⟨j,by simp[A]⟩)).2 _ s
   rw[if_neg qd]at s;have e:A2 (.inr d,fs) [T]=[]:=by simp[A2,A]
   rw[e,XK,s];exact h.2.2
end
def Gd(adr:F->Addr)(old:List Kt):(l:List Ar)->List (List F)->List (List F)->CQ l->Prop
 |[],_,TT,a=>a.1.Perm (TT.map (Ab adr))/\BS old a.1 a.2
 |(.inl d,_)::r,G,TT,a=>a.1.Perm TT/\Gd adr old r G.tail (A2 (.inl d,G.headD []) TT) a.2
 |(.inr d,_)::r,G,TT,a=>a.1.Perm TT/\(∀T∈TT,As (Ab adr T) a.2.1=(nBar d.ts (G.headD []) T:Int))/\Gd adr old r G.tail (A2 (.inr d,G.headD []) TT) a.2.2
def Hu{adr old}:∀{l:List Ar}{TT:List (List F)}{a:CQ l},Gd adr old l (l.map Prod.snd) TT a↔Lv adr old l TT a
 |[],_,_=>Iff.rfl
 |(.inl _,_)::_,_,_=>and_congr_right λ_=>Hu
 |(.inr _,_)::_,_,_=>and_congr_right λ_=>and_congr_right λ_=>Hu
def i8{α β:Type}(p)(h:α->β):∀l:List α,l.flatMap (λx=>if p x=true then [h x] else [])=(l.filter p).map h
 |[]=>rfl
 |x::r=>by
  rw[yL,i8 p h r]
  by_cases a:p x=true
  .rw[if_pos a,yD a]
   rfl
  rw[if_neg a,yJ a]
  rfl
def kQ{d f g fs}(h:fs.Perm (f::g))(TT):(A2 (.inl d,fs) TT).Perm (A2 (.inl d,g) TT++(TT.filter (λT=>d.ts.all (Ap T f))).map (λT=>T++[f])):=by
 rw[<-i8];refine(wZ (.refl _) (λT _=>?_)).c (m_ _ _ _);refine((h.filter _).map _).c ?_;by_cases a:d.ts.all (Ap T f)=true
 .rw[yD (p:=λf=>d.ts.all (Ap T f)) a,if_pos a,yq];exact(Km (l₁:=[_])).c (.refl _)
 rw[yJ (p:=λf=>d.ts.all (Ap T f)) a,if_neg a,yQ]
def x9{ts g fs}(h:fs.Perm g)(T):nBar ts fs T=nBar ts g T:=(h.filter _).length_eq
def OD{ts f g fs}(h:fs.Perm (f::g))(T):nBar ts fs T=nBar ts g T+(if ts.all (Ap T f)=true then 1 else 0):=by
 rw[x9 h];unfold nBar;by_cases a:ts.all (Ap T f)=true
 .rw[yD (p:=λf=>ts.all (Ap T f)) a,if_pos a,yI]
 rw[yJ (p:=λf=>ts.all (Ap T f)) a,if_neg a];rfl
def zlU{adr b a A B}(d:b.Perm a)(c:A.Perm B):(Gk adr b A).Perm (Gk adr a B):=by
 have e:Gk adr b A=Gk adr a A:=by
  unfold Gk;refine YK λV _=>?_;simp only[(d.map (Ab adr)).mem_iff]
 rw[e];exact c.filter _
def zoD{adr U}(d:Bs adr U){A a}(e:(A++a).Nodup)(b:∀T∈A++a,T.length<=3/\∀f∈T,f∈U):Gk adr a (A++a)=A:=by
 unfold Gk;rw[yM];have g:A.filter (λV=>decide (Ab adr V ∉ a.map (Ab adr)))=A:=Yk.2 λV hV=>by
  simp only[decide_eq_true_eq];intro q;rw[Lh d (λT c=>b T (by simp[c])) (b V Lr)]at q;exact(yK.1 e).2.2 V hV V q rfl
 have i:a.filter (λV=>decide (Ab adr V ∉ a.map (Ab adr)))=[]:=We.2 λV hV=>by
  simp only[decide_eq_true_eq];exactλq=>q (yU hV)
 rw[g,i,yQ]
section
variable {adr : F -> Addr} {U : List F} {old : List Kt} {cb nb wb : Nat}
def gX(E:Bs adr U){d fs g u r G f}{A TT:List (List F)}{a}(hl:Lv adr old r (A2 (.inl d,g) TT) a)(I:fs.Perm (f::g))(t:∀T∈TT,Et U ((.inl d,fs)::r) (u::G) T)(M:TT.Nodup)(N:A.Perm TT) :
  (∀(pre:List (List F))(T:List F)(z:List (List F))(e:CQ r),A.Perm (pre++T::z)->d.ts.all (Ap T f)=true->BH (Df adr 1 U cb nb wb r).stp ((pre.filter (λT=>d.ts.all (Ap T f))).map (λT=>T++[f])) a e->(Df adr 1 U cb nb wb r).ok (T++[f]) e) /\
  ∀(m:List (List F))(e:CQ r),A.Perm m->BH (Df adr 1 U cb nb wb r).stp ((m.filter (λT=>d.ts.all (Ap T f))).map (λT=>T++[f])) a e->Lv adr old r (A2 (.inl d,fs) TT) e:=by
 have o:=Qo (old:=old) (cb:=cb) (nb:=nb) (wb:=wb) E r;have O:=kQ (d:=d) I TT;have i:=Lb t;have v:=Lj t M;have C:∀B,A.Perm B->(A2 (.inl d,fs) TT).Perm (A2 (.inl d,g) TT++(B.filter (λT=>d.ts.all (Ap T f))).map (λT=>T++[f])):=λB D=>O.c ((YZ _).append (((N.y.c D).filter _).map _));have x:∀T∈A2 (.inl d,g) TT,Et U r G T:=λT K=>i T (O.mem_iff.2 (by simp[K]));refine⟨λpre T z e s H k=>?_,λm e s k=>?_⟩
 .have b:=C _ s;have j:=b.nodup_iff.1 v;rw[yM,yD (p:=λT=>d.ts.all (Ap T f)) H,yF,yq]at b j;obtain⟨l,J⟩:∃l,l=(pre.filter (λT=>d.ts.all (Ap T f))).map (λT=>T++[f]):=⟨_,rfl⟩
  rw[<-J]at b j k;rw[<-yW]at j;obtain⟨w,_,L⟩:=yK.1 j;have n:=DY.aB o G l _ _ _ hl x (λV hV=>i V (b.mem_iff.2 Lr)) w k;refine(o G _ e (T++[f]) n (λV hV=>i V (b.mem_iff.2 ?_)) w (i _ (b.mem_iff.2 qe)) (λq=>L _ q _ qe rfl)).1;rcases yn.1 hV with hV|hV<;>simp[hV]
 have b:=C _ s;exact(DY.aB o G _ _ _ _ hl x (λV hV=>i V (b.mem_iff.2 (by simp only[yn];exact .inr hV))) (b.nodup_iff.1 v) k).perm b.y
def gn(k:Bs adr U){d fs g u r G f}{A TT:List (List F)}{a}(hl:Lv adr old r (A2 (.inl d,g) TT) a)(H:g.Perm (f::fs))(v:∀T∈TT,Et U ((.inl d,g)::r) (u::G) T)(N:TT.Nodup)(R:A.Perm TT) :
  (∀(pre:List (List F))(T:List F)(x:List (List F))(e:CQ r),A.Perm (pre++T::x)->d.ts.all (Ap T f)=true->BH (Df adr (-1) U cb nb wb r).stp ((pre.filter (λT=>d.ts.all (Ap T f))).map (λT=>T++[f])) a e->(Df adr (-1) U cb nb wb r).ok (T++[f]) e) /\
  ∀(o:List (List F))(e:CQ r),A.Perm o->BH (Df adr (-1) U cb nb wb r).stp ((o.filter (λT=>d.ts.all (Ap T f))).map (λT=>T++[f])) a e->Lv adr old r (A2 (.inl d,fs) TT) e:=by
 have s:=SP (old:=old) (cb:=cb) (nb:=nb) (wb:=wb) k r;have D:=kQ (d:=d) H TT;have O:=Lb v;have l:=Lj v N;have z:∀B,A.Perm B->(A2 (.inl d,g) TT).Perm (A2 (.inl d,fs) TT++(B.filter (λT=>d.ts.all (Ap T f))).map (λT=>T++[f])):=λB C=>D.c ((YZ _).append (((R.y.c C).filter _).map _));refine⟨λpre T x e t E m=>?_,λo e t m=>?_⟩
 .have b:=z _ t;have j:=b.nodup_iff.1 l;rw[yM,yD (p:=λT=>d.ts.all (Ap T f)) E,yF,yq]at b j;obtain⟨n,J⟩:∃n,n=(pre.filter (λT=>d.ts.all (Ap T f))).map (λT=>T++[f]):=⟨_,rfl⟩
  rw[<-J]at b j m;have K:=(yK.1 j).2.1;obtain⟨I,_,M⟩:=yK.1 K;have i:=FF.aB k s G n _ _ _ hl O l (λV hV=>b.mem_iff.2 Lr) I m;have w:T++[f]∈A2 (.inl d,g) TT:=b.mem_iff.2 qe;refine(s G _ e (T++[f]) i (λV hV=>O V (yf.1 hV).1) (l.filter _) (yf.2 ⟨w,?_⟩)).1;simp only[decide_eq_true_eq];intro q;rw[Lh k (λV hV=>(O V (b.mem_iff.2 Lr)).len) (O _ w).len]at q;exact M _ q _ qe rfl
 have b:=z _ t;have j:=b.nodup_iff.1 l;have i:=FF.aB k s G _ _ _ _ hl O l (λV hV=>b.mem_iff.2 (by simp only[yn];exact .inr hV)) (yK.1 j).2.1 m;refine i.perm ?_;refine(zlU (.refl _) b).c ?_;rw[zoD k j (λT L=>(O T (b.mem_iff.2 L)).len)]
def gg(o:Bs adr U){d fs g u r G f}{A TT:List (List F)}{B a}(hl:Lv adr old r (A2 (.inr d,g) TT) a)(I:∀T∈TT,As (Ab adr T) B=(nBar d.ts g T:Int))(hg:fs.Perm (f::g))(l:∀T∈TT,Et U ((.inr d,g)::r) (u::G) T)(z:TT.Nodup)(O:A.Perm TT) :
  (∀(pre:List (List F))(T:List F)(ai:List (List F))(m:CQ r),A.Perm (pre++T::ai)->d.ts.all (Ap T f)=true->As (Ab adr T) B=0->BH (Df adr (-1) U cb nb wb r).stp (pre.filter (λT=>d.ts.all (Ap T f)&&decide (As (Ab adr T) B=0))) a m->(Df adr (-1) U cb nb wb r).ok T m) /\
  ∀(s:List (List F))(m:CQ r),A.Perm s->BH (Df adr (-1) U cb nb wb r).stp (s.filter (λT=>d.ts.all (Ap T f)&&decide (As (Ab adr T) B=0))) a m->Lv adr old r (A2 (.inr d,fs) TT) m/\∀T∈TT,As (Ab adr T) (Dw adr 1 (s.filter (λT=>d.ts.all (Ap T f))) B)=(nBar d.ts fs T:Int):=by
 have J:=SP (old:=old) (cb:=cb) (nb:=nb) (wb:=wb) o r;have v:=Lb l;have H:=Lj l z;have aj:∀K,A.Perm K->∀T∈K.filter (λT=>d.ts.all (Ap T f)&&decide (As (Ab adr T) B=0)),T∈A2 (.inr d,g) TT:=λK hB T k=>by
  obtain⟨p,L⟩:=yf.1 k;have w:=O.mem_iff.1 (hB.mem_iff.2 p);simp only[yi,decide_eq_true_eq]at L;have:=I T w;exact yf.2 ⟨w,qf⟩
 refine⟨λpre T ai m b c x C=>?_,λs m b C=>⟨?_,λT k=>?_⟩⟩
 .have i:=aj _ b;have t:=b.nodup_iff.1 (O.nodup_iff.2 z);obtain⟨n1,_,n3⟩:=yK.1 t;obtain⟨y,D⟩:∃y,y=pre.filter (λT=>d.ts.all (Ap T f)&&decide (As (Ab adr T) B=0)):=⟨_,rfl⟩
  have N:=i T (yf.2 ⟨qe,by simp[c,x]⟩);have Z:∀V∈y,V∈A2 (.inr d,g) TT:=λV j=>i V (by rw[yM,<-D];simp[j]);rw[<-D]at C;have n:=FF.aB o J G y _ _ _ hl v H Z (by rw[D];exact n1.filter _) C;refine(J G _ m T n (λV j=>v V (yf.1 j).1) (H.filter _) (yf.2 ⟨N,?_⟩)).1;simp only[decide_eq_true_eq];intro q;rw[Lh o (λV j=>(v V (Z V j)).len) (v _ N).len]at q;rw[D]at q;exact n3 T (yf.1 q).1 T qe rfl
 .have t:=b.nodup_iff.1 (O.nodup_iff.2 z);have n:=FF.aB o J G _ _ _ _ hl v H (aj _ b) (t.filter _) C;refine n.perm (KG ?_);unfold Gk;show(TT.filter _).filter _=TT.filter _;rw[Yq];refine YK λT k=>?_;have E:=I T k;have i:=OD (ts:=d.ts) hg T;have Y:Ab adr T∈(s.filter (λT=>d.ts.all (Ap T f)&&decide (As (Ab adr T) B=0))).map (Ab adr)↔(d.ts.all (Ap T f)=true/\As (Ab adr T) B=0):=by
   rw[Lh o (λV j=>(l V (O.mem_iff.1 (b.mem_iff.2 (yf.1 j).1))).len) (l T k).len,yf];simp only[yi,decide_eq_true_eq,and_iff_right_iff_imp];exactλ_=>b.mem_iff.1 (O.mem_iff.2 k)
  by_cases x:nBar d.ts g T=0
  .have hc:As (Ab adr T) B=0:=qd;by_cases c:d.ts.all (Ap T f)=true
   .rw[if_pos c]at i;have p:¬nBar d.ts fs T=0:=qd;simp only[Y.2 ⟨c,hc⟩,p,not_true_eq_false,decide_false,WH]
   rw[if_neg c]at i;have p:nBar d.ts fs T=0:=qd;have L:¬Ab adr T∈(s.filter (λT=>d.ts.all (Ap T f)&&decide (As (Ab adr T) B=0))).map (Ab adr):=λq=>c (Y.1 q).1;simp only[L,p,x,not_false_eq_true,decide_true,Ku]
  have p:¬nBar d.ts fs T=0:=qd;simp only[p,x,decide_false,Wg]
 have t:=b.nodup_iff.1 (O.nodup_iff.2 z);have i:=OD (ts:=d.ts) hg T;have E:=I T k;have aw:=b.mem_iff.1 (O.mem_iff.2 k);have au:((s.filter (λT=>d.ts.all (Ap T f))).map (Ab adr)).Nodup:=by
  refine Ki _ (λV W ar e=>?_) (List.Pairwise.and_mem.1 (t.filter (λT=>d.ts.all (Ap T f))));obtain⟨v1,v2,v3⟩:=ar;have M:=(l V (O.mem_iff.1 (b.mem_iff.2 (yf.1 v1).1))).len;have R:=(l W (O.mem_iff.1 (b.mem_iff.2 (yf.1 v2).1))).len;exact v3 (JO o M.2 R.2 M.1 R.1 e)
 by_cases c:d.ts.all (Ap T f)=true
 .rw[if_pos c]at i;rw[Xm adr 1 T _ B au (yf.2 ⟨aw,c⟩),E,i];simp
 rw[if_neg c]at i;rw[Oq adr 1 _ _ B (λq=>?_),E,i]
 .simp
 rw[Lh o (λV j=>(l V (O.mem_iff.1 (b.mem_iff.2 (yf.1 j).1))).len) (l T k).len]at q;exact c (yf.1 q).2
def gS(I:Bs adr U){d fs g u r G f}{A TT:List (List F)}{B a}(hl:Lv adr old r (A2 (.inr d,g) TT) a)(z:∀T∈TT,As (Ab adr T) B=(nBar d.ts g T:Int))(L:g.Perm (f::fs))(Z:∀T∈TT,Et U ((.inr d,fs)::r) (u::G) T)(hn:TT.Nodup)(D:A.Perm TT) :
  (∀(pre:List (List F))(T:List F)(ai:List (List F))(m:CQ r),A.Perm (pre++T::ai)->d.ts.all (Ap T f)=true->As (Ab adr T) B=1->BH (Df adr 1 U cb nb wb r).stp (pre.filter (λT=>d.ts.all (Ap T f)&&decide (As (Ab adr T) B=1))) a m->(Df adr 1 U cb nb wb r).ok T m) /\
  ∀(s:List (List F))(m:CQ r),A.Perm s->BH (Df adr 1 U cb nb wb r).stp (s.filter (λT=>d.ts.all (Ap T f)&&decide (As (Ab adr T) B=1))) a m->Lv adr old r (A2 (.inr d,fs) TT) m/\∀T∈TT,As (Ab adr T) (Dw adr (-1) (s.filter (λT=>d.ts.all (Ap T f))) B)=(nBar d.ts fs T:Int):=by
 have H:=Qo (old:=old) (cb:=cb) (nb:=nb) (wb:=wb) I r;have O:∀T∈TT,Et U r G T:=λT i=>(Z T i).2.2.2.2;have J:∀T∈A2 (.inr d,g) TT,Et U r G T:=λT i=>O T (yf.1 i).1;have aq:(A2 (.inr d,g) TT).Nodup:=hn.filter _;have hcut:∀C,A.Perm C->C.Nodup/\(∀T∈C,T∈TT):=λC R=>⟨R.nodup_iff.1 (D.nodup_iff.2 hn),λT i=>D.mem_iff.1 (R.mem_iff.2 i)⟩
 have ah:∀(P:List (List F)),P.Nodup->(∀T∈P,T∈TT)->(A2 (.inr d,g) TT++P.filter (λT=>d.ts.all (Ap T f)&&decide (As (Ab adr T) B=1))).Nodup:=λP hP aw=>yK.2 ⟨aq,hP.filter _,λx hx y hy e=>by
  subst e;obtain⟨o,t⟩:=yf.1 hx;obtain⟨h3,h4⟩:=yf.1 hy;have:=z x o;simp only[yi,decide_eq_true_eq]at t h4;omega⟩
 refine⟨λpre T ai m p ht k K=>?_,λs m p K=>⟨?_,λT i=>?_⟩⟩
 .obtain⟨v,j⟩:=hcut _ p;obtain⟨n1,_,n3⟩:=yK.1 v;have ha:=ah pre n1 (λV hV=>j V Lr);have n:=DY.aB H G _ _ _ _ hl J (λV hV=>O V (j V (by simp[(yf.1 hV).1]))) ha K;have w:=j T qe;refine(H G _ m T n (λV hV=>?_) ha (O T w) (λq=>?_)).1
  .rcases yn.1 hV with hV|hV
   .exact J V hV
   exact O V (j V (by simp[(yf.1 hV).1]))
  rcases yn.1 q with q|q
  .have o:=(yf.1 q).2;have:=z T w;simp only[decide_eq_true_eq]at o;omega
  exact n3 T (yf.1 q).1 T qe rfl
 .obtain⟨v,j⟩:=hcut _ p;have n:=DY.aB H G _ _ _ _ hl J (λV hV=>O V (j V (yf.1 hV).1)) (ah s v j) K;refine n.perm ?_;refine((YZ _).append ((p.y.c D).filter _)).c ?_;have e:A2 (.inr d,g) TT=(A2 (.inr d,fs) TT).filter (λT=>decide (nBar d.ts g T=0)):=by
   show TT.filter _=(TT.filter _).filter _;rw[Yq];refine YK λT _=>?_;have l:=OD (ts:=d.ts) L T;by_cases k:nBar d.ts g T=0
   .have:nBar d.ts fs T=0:=qd;simp[k,this]
   simp[k]
  have e2:TT.filter (λT=>d.ts.all (Ap T f)&&decide (As (Ab adr T) B=1))=(A2 (.inr d,fs) TT).filter (λT=>!decide (nBar d.ts g T=0)):=by
   show _=(TT.filter _).filter _;rw[Yq];refine YK λT i=>?_;have l:=OD (ts:=d.ts) L T;have E:=z T i;by_cases ht:d.ts.all (Ap T f)=true
   .rw[if_pos ht]at l;have o:¬nBar d.ts g T=0:=qd;by_cases k:nBar d.ts fs T=0
    .have t:As (Ab adr T) B=1:=qd;simp only[ht,o,k,t,decide_true,decide_false,Ku,Bool.not_false]
    have t:¬As (Ab adr T) B=1:=qd;simp only[ht,o,k,t,decide_false,Wg]
   rw[if_neg ht]at l;have N:d.ts.all (Ap T f)=false:=Mq;by_cases k:nBar d.ts g T=0
   .simp only[N,k,WH,decide_true,WB]
   have:¬nBar d.ts fs T=0:=qd;simp only[N,this,WH,decide_false,Wg]
  rw[e,e2];exact List.filter_append_perm _ _
 obtain⟨v,j⟩:=hcut _ p;have l:=OD (ts:=d.ts) L T;have E:=z T i;have au:=p.mem_iff.1 (D.mem_iff.2 i);have b:∀V∈TT,V.length<=3/\∀f∈V,f∈U:=λV hV=>(Z V hV).len;have ar:((s.filter (λT=>d.ts.all (Ap T f))).map (Ab adr)).Nodup:=by
  refine Ki _ (λV W ao e=>?_) (List.Pairwise.and_mem.1 (v.filter (λT=>d.ts.all (Ap T f))));obtain⟨v1,v2,v3⟩:=ao;have M:=b V (j V (yf.1 v1).1);have Y:=b W (j W (yf.1 v2).1);exact v3 (JO I M.2 Y.2 M.1 Y.1 e)
 by_cases ht:d.ts.all (Ap T f)=true
 .rw[if_pos ht]at l;rw[Xm adr (-1) T _ B ar (yf.2 ⟨au,ht⟩),E,l];simp;omega
 rw[if_neg ht]at l;rw[Oq adr (-1) _ _ B (λq=>?_),E,l]
 .simp
 rw[Lh I (λV hV=>b V (j V (yf.1 hV).1)) (b T i)]at q;exact ht (yf.1 q).2
end
def EE(adr:F->Addr)(U:List F)(cb nb wb:Nat):(l:List Ar)->World->CQ l->Prop
 |[],w,a=>CS w cb nb wb a.1 a.2
 |(.inl d,fs)::r,w,a=>ME adr U d fs w/\Ag w d.tb (uv (a.1.map (Ab adr)))/\EE adr U cb nb wb r w a.2
 |(.inr d,fs)::r,w,a=>MD adr U d fs w/\Ag w d.tb (uv (a.1.map (Ab adr)))/\Ag w d.bb (iv a.2.1)/\EE adr U cb nb wb r w a.2.2
def IF(adr s U cb nb wb):∀(l:List Ar)(w:World)(a:CQ l),(Df adr s U cb nb wb l).I w a↔EE adr U cb nb wb l w a
 |[],_,_=>Iff.rfl
 |(.inl _,_)::r,w,a=>and_congr_right λ_=>and_congr_right λ_=>IF adr s U cb nb wb r w a.2
 |(.inr _,_)::r,w,a=>and_congr_right λ_=>and_congr_right λ_=>and_congr_right λ_=>IF adr s U cb nb wb r w a.2.2
def E5(nb wb:Nat):List Ar->Nat->Prop
 |[],g=>g=nb∨g=wb
 |(.inl d,_)::r,g=>g=d.tb∨E5 nb wb r g
 |(.inr d,_)::r,g=>g=d.tb∨g=d.bb∨E5 nb wb r g
def GV(adr s U cb nb wb):∀(l:List Ar)(g:Nat),(Df adr s U cb nb wb l).S g↔E5 nb wb l g
 |[],_=>Iff.rfl
 |(.inl _,_)::r,g=>or_congr_right (GV adr s U cb nb wb r g)
 |(.inr _,_)::r,g=>or_congr_right (or_congr_right (GV adr s U cb nb wb r g))
def Hk:List Ar->Nat
 |[]=>155
 |(.inl _,_)::_=>325
 |(.inr _,_)::_=>320
def ND(cb:Nat):List Ar->Nat
 |[]=>cb
 |(.inl d,_)::_=>d.nb
 |(.inr d,_)::_=>d.nb
def Ox(adr s U cb nb wb):∀(l:List Ar),(Df adr s U cb nb wb l).fn=Hk l/\(Df adr s U cb nb wb l).r=ND cb l
 |[]=>⟨rfl,rfl⟩
 |(.inl _,_)::_=>⟨rfl,rfl⟩
 |(.inr _,_)::_=>⟨rfl,rfl⟩
def Iz(cb nb wb:Nat):List Ar->Prop
 |[]=>True
 |(.inl d,fs)::r=>Hp d.hv (Hk r) (ND cb r)/\d.ts.length<=1048576/\fs.length<=1000/\d.N<3/\¬E5 nb wb r d.tb/\Iz cb nb wb r
 |(.inr d,fs)::r=>Hp d.hv (Hk r) (ND cb r)/\d.ts.length<=1048576/\fs.length<=1000/\d.tb≠d.bb/\¬E5 nb wb r d.tb/\¬E5 nb wb r d.bb/\Iz cb nb wb r
def Iz.ok{adr s U cb nb wb}:∀{l:List Ar},Iz cb nb wb l->(∀n∈l,∀f∈n.2,f∈U)->LO adr s U cb nb wb l
 |[],_,_=>trivial
 |(.inl d,fs)::r,⟨h1,h2,h3,h4,h5,h6⟩,hu=>by
  obtain⟨b,c⟩:=Ox adr s U cb nb wb r
  exact⟨by rw[b,c];exact h1,h2,h3,hu (.inl d,fs) qe,h4,λq=>h5 ((GV adr s U cb nb wb r _).1 q),h6.ok (λn a=>hu n (by simp[a]))⟩
 |(.inr d,fs)::r,⟨h1,h2,h3,h4,h5,h6,h7⟩,hu=>by
  obtain⟨b,c⟩:=Ox adr s U cb nb wb r
  exact⟨by rw[b,c];exact h1,h2,h3,h4,λq=>h5 ((GV adr s U cb nb wb r _).1 q),λq=>h6 ((GV adr s U cb nb wb r _).1 q),h7.ok (λn a=>hu n (by simp[a]))⟩
def Sj{adr U cb nb wb w}:∀{l:List Ar}{a:CQ l},EE adr U cb nb wb l w a->∀g,E5 nb wb l g->g<w.heap.size
 |[],_,h,g,b=>by
  rcases b with rfl|rfl
  .exact h.now.lt
  .exact h.ab.lt
 |(.inl d,_)::_,_,h,g,b=>by
  rcases b with rfl|b
  .exact h.2.1.lt
  .exact Sj h.2.2 g b
 |(.inr d,_)::_,_,h,g,b=>by
  rcases b with rfl|rfl|b
  .exact h.2.1.lt
  .exact h.2.2.1.lt
  exact Sj h.2.2.2 g b
def FL(U:List F):List Ar->List (List F)->List F->Prop
 |[],_,T=>T.length<=3/\∀f∈T,f∈U
 |(.inl d,_)::r,g::G,T=>(T.length=d.N/\T.length<3)/\(∀f∈T,f∈U)/\(∀f∈g,f∈U/\∀t∈d.ts,t.V T f)/\∀f∈g,d.ts.all (Ap T f)=true->FL U r G (T++[f])
 |(.inr d,_)::r,g::G,T=>T.length<=3/\(∀f∈T,f∈U)/\(∀f∈g,f∈U/\∀t∈d.ts,t.V T f)/\FL U r G T
 |_::_,[],_=>False
def CH:List (List F)->List (List F)->Prop
 |[],[]=>True
 |g::G,u::V=>(∀f∈g,f∈u)/\g.Nodup/\CH G V
 |_,_=>False
def FL.dk{U}:∀{l:List Ar}{V:List (List F)}{T:List F},FL U l V T->CH (l.map Prod.snd) V->Et U l V T
 |[],_,_,h,_=>h
 |(.inl _,_)::_,_::_,_,⟨h1,h2,h3,h4⟩,⟨s1,s2,s3⟩=>⟨h1,h2,s1,s2,h3,λf a b=>(h4 f a b).dk s3⟩
 |(.inr _,_)::_,_::_,_,⟨h1,h2,h3,h4⟩,⟨s1,_,s3⟩=>⟨h1,h2,s1,λf a=>(h3 f a).2,h4.dk s3⟩
 |(.inl _,_)::_,[],_,h,_=>h.elim
 |(.inr _,_)::_,[],_,h,_=>h.elim
def FL.len{U}:∀{l:List Ar}{V:List (List F)}{T:List F},FL U l V T->T.length<=3/\∀f∈T,f∈U
 |[],_,_,h=>h
 |(.inl _,_)::_,_::_,_,h=>⟨KP h.1.2,h.2.1⟩
 |(.inr _,_)::_,_::_,_,h=>⟨h.1,h.2.1⟩
 |(.inl _,_)::_,[],_,h=>h.elim
 |(.inr _,_)::_,[],_,h=>h.elim
def FL.next{U n r u V g TT}(h:∀T∈TT,FL U (n::r) (u::V) T)(j:∀f∈g,f∈u):∀T∈A2 (n.1,g) TT,FL U r V T:=by
 intro T b;rcases n with⟨d|d,fs⟩
 .obtain⟨O,c,i⟩:=Yo.1 b;obtain⟨f,a,rfl⟩:=yz.1 i;obtain⟨a,e⟩:=yf.1 a;exact(h O c).2.2.2 f (j f a) e
 exact(h T (yf.1 b).1).2.2.2
def lN{n:Ar}{g TT}(j:g.Nodup)(c:TT.Nodup):(A2 (n.1,g) TT).Nodup:=by
 rcases n with⟨d|d,fs⟩
 .refine XI c (λT l=>?_) (λT _ k _ hne z hz O=>?_)
  .exact Ki _ (λa b i e=>i (Qn e).2) (j.filter _)
  exact oW
 exact c.filter _
def Gz:Ar->Bool × Nat
 |(.inl d,_)=>(false,d.nb)
 |(.inr d,_)=>(true,d.nb)
def Re:Ar->Nat
 |(.inl d,_)=>d.bE
 |(.inr d,_)=>d.bE
def E9.O{u w a xs}(h:E9 none u a xs)(g:CK u w):E9 none w a xs:=λi x e=>by
 obtain⟨b,o,r,k,_,d,c,f⟩:=h i x e;exact⟨b,o,r,k,Qb.ah _ _ _,d,λj v hj=>g.cell (c j v hj),f⟩
def CP.O{u w nb x a c}(h:CP u nb x a c)(b:CK u w):CP w nb x a c:=by
 refine⟨b.cell h.c0,b.cell h.c1,b.cell h.c2,?_⟩;exact h.tt.O b
def FU(s:Int)(p:Bool)(f:F)(g fs:List F):Prop:=if p=true then(if s=1 then fs.Perm (f::g) else g.Perm (f::fs)) else fs=g
def XJ{α:Type}{q:α->Bool}(l:List α):l.filter (λx=>false&&q x)=[]:=qe
def V_{α:Type}{q}(l:List α):l.filter (λx=>true&&q x)=l.filter q:=qe
section
variable {adr : F -> Addr} {U : List F} {old : List Kt} {cb nb wb : Nat}
def Rt(adr:F->Addr)(U:List F)(old:List Kt)(cb nb wb:Nat)(l:List Ar)(G TT:List (List F))(w:World)(e:Ending)(w':World):Prop:=
 e=.returned (.tuple #[])/\(∃a':CQ l,EE adr U cb nb wb l w' a'/\Gd adr old l G TT a')/\CK w w'/\Av (E5 nb wb l) w w'
def o7(h:P:=by show∀T∈TT,As (Ab adr T) a.2.1=(nBar d.ts fs T:Int);rw[e2];exact ah):=h
def oJ(h:P:=by show Gd adr old r (r.map Prod.snd) (A2 (.inr d,fs) TT) a';rw[Hu,<-e,e2];exact af):=h
def vi(E:Bs adr U)(s)(hs:s=1∨s = -1)(f)(ao:f∈U)(z aa ac)(M:z.x.length<=1048576)(n r g u V TT a w)(hI:EE adr U cb nb wb (n::r) w a)(hL:Gd adr old (n::r) (g::r.map Prod.snd) TT a)(hW:Iz cb nb wb (n::r))(hu:∀m∈n::r,∀f∈m.2,f∈U)(ad:∀T∈TT,FL U (n::r) (u::V) T)(az:CH ((n::r).map Prod.snd) (u::V))(aq:(∀f∈g,f∈u)/\g.Nodup/\g.length<=900)(G:TT.Nodup)(aA:Ae z f=true->f∈u)(b:FU s (Ae z f) f g n.2)(hN:CP w (Re n) z aa ac) :
  Ca (Ja (Gz n).1) #[Pn ((Gz n).2),.pointer (some (adr f)),I6 s] w (Rt adr U old cb nb wb (n::r) (n.2::r.map Prod.snd) TT w):=by
 have D:∀T∈TT,Et U (n::r) (u::V) T:=λT p=>(ad T p).dk az;have au:∀T∈TT,Et U ((n.1,g)::r) (u::V) T:=λT p=>by
  have h:=D T p;rcases n with⟨d|d,fs⟩
  .obtain⟨h1,h2,_,_,h5,h6⟩:=h;exact⟨h1,h2,aq.1,aq.2.1,h5,h6⟩
  obtain⟨h1,h2,_,h4,h5⟩:=h;exact⟨h1,h2,aq.1,h4,h5⟩
 have K:∀(s':Int)(A:Nat),(Df adr s' U cb nb wb r).S A->A<w.heap.size:=λs' A q=>by
  refine Sj hI A ?_;rcases n with⟨d|d,fs⟩
  .exact .inr ((GV adr s' U cb nb wb r A).1 q)
  exact .inr (.inr ((GV adr s' U cb nb wb r A).1 q))
 rcases n with⟨d|d,fs⟩
 .obtain⟨k,hM,ar⟩:=hI;obtain⟨y,af⟩:=hL;have af:Gd adr old r (r.map Prod.snd) (A2 (.inl d,g) TT) a.2:=af;rw[Hu]at af;obtain⟨k1,k2,k3,k4,k5,k6⟩:=hW;have hG:=Ov adr s hs U cb nb wb r (Iz.ok k6 (λm W=>hu m (by simp[W])));obtain⟨Z,e2⟩:=Ox adr s U cb nb wb r;have H:∀T∈a.1,T∈TT:=λT p=>y.mem_iff.1 p;refine(vx (Df adr s U cb nb wb r) adr s hG d.nb d.bE d.tb d.N d.ng d.up d.hv d.ta aa d.tc ac d.ts z a.1 f a.2 w k.q (by rw[Z,e2];exact k1) hN (k.us f ao).1 (k.us f ao).2 M k.jt k2 k4 (λT p=>?_) (λO T p=>((D T (H T p)).2.2.2.2.1 f (aA O)).2) hM ((IF adr s U cb nb wb r w a.2).2 ar) (λq=>k5 ((GV adr s U cb nb wb r _).1 q)) (K s) (λO=>?_)).j λe w' q=>?_
  .have:=(D T (H T p)).len;exact⟨(D T (H T p)).1.1,PQ k.us this.2 this.1,Ou k.us this.2⟩
  .unfold FU at b;rw[if_pos O]at b;rcases hs with rfl|rfl
   .rw[if_pos rfl]at b;exact(gX (cb:=cb) (nb:=nb) (wb:=wb) E af b D G y).1
   rw[if_neg qh]at b;exact(gn (cb:=cb) (nb:=nb) (wb:=wb) E af b au G y).1
  obtain⟨I,⟨R,a',Y,v,J⟩,L,B,q7⟩:=q;refine⟨I,⟨(a.1,a'),⟨k.O B,L,(IF adr s U cb nb wb r w' a').1 J⟩,y,?_⟩,B,q7.j λA ak=>.inr ((GV adr s U cb nb wb r A).1 ak)⟩;show Gd adr old r (r.map Prod.snd) (A2 (.inl d,fs) TT) a';rw[Hu];unfold FU at b;by_cases O:Ae z f=true
  .rw[if_pos O]at b;rw[O]at v;rw[V_]at v;rcases hs with rfl|rfl
   .rw[if_pos rfl]at b;exact(gX (cb:=cb) (nb:=nb) (wb:=wb) E af b D G y).2 R a' Y v
   rw[if_neg qh]at b;exact(gn (cb:=cb) (nb:=nb) (wb:=wb) E af b au G y).2 R a' Y v
  rw[if_neg O]at b;rw[show Ae z f=false by simpa using O,XJ]at v;have e:a.2=a':=v;rw[<-e,show fs=g from b];exact af
 obtain⟨k,hM,hB,ar⟩:=hI;obtain⟨y,ah,af⟩:=hL;have af:Gd adr old r (r.map Prod.snd) (A2 (.inr d,g) TT) a.2.2:=af;have ah:∀T∈TT,As (Ab adr T) a.2.1=(nBar d.ts g T:Int):=ah;rw[Hu]at af;obtain⟨k1,k2,k3,k4,k5,k6,k7⟩:=hW;have ay:∀m∈r,∀f∈m.2,f∈U:=λm W=>hu m (by simp[W]);have H:∀T∈a.1,T∈TT:=λT p=>y.mem_iff.1 p;have ab:∀T∈a.1,En w (.pointer (T[0]?.map adr)) (.pointer (T[1]?.map adr)) (.pointer (T[2]?.map adr)) T/\AG w (Ab adr T):=λT p=>by
  have:=(D T (H T p)).len;exact⟨PQ k.us this.2 this.1,Ou k.us this.2⟩
 have ax:∀T:List F,nBar d.ts g T<=900:=λT=>yh (y8 _ _) aq.2.2;have aw:Ae z f=true->∀T∈a.1,∀t∈d.ts,t.V T f:=λO T p=>((ad T (H T p)).2.2.1 f (aA O)).2;unfold FU at b;rcases hs with rfl|rfl
 .have hG:=Ov adr (-1) (.inr rfl) U cb nb wb r (Iz.ok k7 ay);obtain⟨Z,e2⟩:=Ox adr (-1) U cb nb wb r;refine(z_ (Df adr (-1) U cb nb wb r) adr hG d.nb d.bE d.tb d.bb d.ng d.ct d.up d.hv d.ta aa d.tc ac d.ts z a.1 f a.2.1 a.2.2 w k.q (by rw[Z,e2];exact k1) hN (k.us f ao).1 M k.jt k2 ab aw hM hB k4 (λO T p _=>⟨_,ah T (H T p),yh (ax T) qh⟩) ((IF adr (-1) U cb nb wb r w a.2.2).2 ar) (λq=>k5 ((GV adr (-1) U cb nb wb r _).1 q)) (λq=>k6 ((GV adr (-1) U cb nb wb r _).1 q)) (K (-1)) (λO=>?_)).j λe w' q=>?_
  .rw[if_pos O,if_pos rfl]at b;exact(gg (cb:=cb) (nb:=nb) (wb:=wb) E af ah b au G y).1
  obtain⟨I,⟨R,a',Y,v,J,C⟩,L,B,q7⟩:=q;have am:Av (E5 nb wb ((.inr d,fs)::r)) w w':=q7.j λA ak=>by
   rcases ak with h|h
   .exact .inr (.inl h)
   exact .inr (.inr ((GV adr (-1) U cb nb wb r A).1 h))
  by_cases O:Ae z f=true
  .rw[if_pos O,if_pos rfl]at b;rw[O]at v C;rw[V_]at v C;obtain⟨r1,r2⟩:=(gg (cb:=cb) (nb:=nb) (wb:=wb) E af ah b au G y).2 R a' Y v;exact⟨I,⟨(a.1,_,a'),⟨k.O B,L,C,(IF adr (-1) U cb nb wb r w' a').1 J⟩,y,r2,Hu.2 r1⟩,B,am⟩
  rw[if_neg O]at b;rw[show Ae z f=false by simpa using O,XJ]at v C;have e:a.2.2=a':=v;have e2:fs=g:=b;refine⟨I,⟨(a.1,a.2.1,a'),⟨k.O B,L,C,(IF adr (-1) U cb nb wb r w' a').1 J⟩,y,?_,?_⟩,B,am⟩
  .exact o7
  exact oJ
 have hG:=Ov adr 1 (.inl rfl) U cb nb wb r (Iz.ok k7 ay);obtain⟨Z,e2⟩:=Ox adr 1 U cb nb wb r;refine(wX (Df adr 1 U cb nb wb r) adr hG d.nb d.bE d.tb d.bb d.ng d.ct d.up d.hv d.ta aa d.tc ac d.ts z a.1 f a.2.1 a.2.2 w k.q (by rw[Z,e2];exact k1) hN (k.us f ao).1 M k.jt k2 ab aw hM hB k4 (λO T p aB=>?_) ((IF adr 1 U cb nb wb r w a.2.2).2 ar) (λq=>k5 ((GV adr 1 U cb nb wb r _).1 q)) (λq=>k6 ((GV adr 1 U cb nb wb r _).1 q)) (K 1) (λO=>?_)).j λe w' q=>?_
 .rw[if_pos O,if_neg qh]at b;have W:=OD (ts:=d.ts) (show g.Perm (f::fs) from b) T;rw[if_pos aB]at W;refine⟨nBar d.ts fs T,?_,?_⟩
  .rw[ah T (H T p),W];simp
  have:=ax T;omega
 .rw[if_pos O,if_neg qh]at b;exact(gS (cb:=cb) (nb:=nb) (wb:=wb) E af ah b D G y).1
 obtain⟨I,⟨R,a',Y,v,J,C⟩,L,B,q7⟩:=q;have am:Av (E5 nb wb ((.inr d,fs)::r)) w w':=q7.j λA ak=>by
  rcases ak with h|h
  .exact .inr (.inl h)
  exact .inr (.inr ((GV adr 1 U cb nb wb r A).1 h))
 by_cases O:Ae z f=true
 .rw[if_pos O,if_neg qh]at b;rw[O]at v C;rw[V_]at v C;obtain⟨r1,r2⟩:=(gS (cb:=cb) (nb:=nb) (wb:=wb) E af ah b D G y).2 R a' Y v;exact⟨I,⟨(a.1,_,a'),⟨k.O B,L,C,(IF adr 1 U cb nb wb r w' a').1 J⟩,y,r2,Hu.2 r1⟩,B,am⟩
 rw[if_neg O]at b;rw[show Ae z f=false by simpa using O,XJ]at v C;have e:a.2.2=a':=v;have e2:fs=g:=b;refine⟨I,⟨(a.1,a.2.1,a'),⟨k.O B,L,C,(IF adr 1 U cb nb wb r w' a').1 J⟩,y,?_,?_⟩,B,am⟩
 .exact o7
 exact oJ
def UM(C:Bs adr U)(s)(J:s=1∨s = -1)(f)(K:f∈U)(k y v)(l:k.x.length<=1048576)(n:Ar)(r g u V w)(O:CH ((n::r).map Prod.snd) (u::V))(G:(∀f∈g,f∈u)/\g.Nodup/\g.length<=900)(H:Ae k f=true->f∈u)(E:FU s (Ae k f) f g n.2)(I:CP w (Re n) k y v):∀(b:List Ar)(i o TT:List (List F))(a:CQ (b++n::r)),EE adr U cb nb wb (b++n::r) w a->Gd adr old (b++n::r) (i++g::r.map Prod.snd) TT a->Iz cb nb wb (b++n::r)->(∀m∈b++n::r,∀f∈m.2,f∈U)->(∀T∈TT,FL U (b++n::r) (o++u::V) T)->CH i o->i.length=b.length->TT.Nodup ->
  Ca (Ja (Gz n).1) #[Pn ((Gz n).2),.pointer (some (adr f)),I6 s] w (Rt adr U old cb nb wb (b++n::r) (i++n.2::r.map Prod.snd) TT w)
 |[],[],[],TT,a,hI,hL,hW,hu,hwf,_,_,hn=>vi C s J f K k y v l n r g u V TT a w hI hL hW hu hwf O G hn H E I
 |[],_::_,_,_,_,_,_,_,_,_,_,hl,_=>by simp at hl
 |[],[],_::_,_,_,_,_,_,_,_,hs1,_,_=>hs1.elim
 |_::_,[],_,_,_,_,_,_,_,_,_,hl,_=>by simp at hl
 |_::_,_::_,[],_,_,_,_,_,_,_,hs1,_,_=>hs1.elim
 |(.inl d,fs)::b,g0::i,u0::o,TT,a,⟨i1,i2,i3⟩,⟨p1,p2⟩,⟨k1,k2,k3,k4,k5,k6⟩,hu,hwf,⟨b1,b2,b3⟩,hl,hn=>by
  refine(UM C s J f K k y v l n r g u V w O G H E I b i o (A2 (.inl d,g0) TT) a.2 i3 p2 k6 (λm t=>hu m (by simp at t⊢;exact .inr t)) (FL.next (n:=(.inl d,fs)) (r:=b++n::r) (u:=u0) hwf b1) b3 (by simpa using hl) (lN (n:=(.inl d,fs)) b2 hn)).j λe w' q=>?_
  obtain⟨z,⟨D,A,B⟩,c,p⟩:=q
  exact⟨z,⟨(a.1,D),⟨i1.O c,i2.aw p c k5,A⟩,p1,B⟩,c,p.j λ_ h=>.inr h⟩
 |(.inr d,fs)::b,g0::i,u0::o,TT,a,⟨i1,i2,i3,i4⟩,⟨p1,p2,p3⟩,⟨k1,k2,k3,k4,k5,k6,k7⟩,hu,hwf,⟨b1,b2,b3⟩,hl,hn=>by
  refine(UM C s J f K k y v l n r g u V w O G H E I b i o (A2 (.inr d,g0) TT) a.2.2 i4 p3 k7 (λm t=>hu m (by simp at t⊢;exact .inr t)) (FL.next (n:=(.inr d,fs)) (r:=b++n::r) (u:=u0) hwf b1) b3 Lu (lN (n:=(.inr d,fs)) b2 hn)).j λe w' q=>?_
  obtain⟨z,⟨D,A,B⟩,c,p⟩:=q
  exact⟨z,⟨(a.1,a.2.1,D),⟨i1.O c,i2.aw p c k5,i3.aw p c k6,A⟩,p1,p2,B⟩,c,p.j λ_ h=>.inr (.inr h)⟩
end
def Uo:Ar->Value
 |(.inl d,_)=>d.up
 |(.inr d,_)=>d.up
def CD(l:List Ar):List (Bool × Nat):=(l.map Gz).reverse
def Sg{adr U cb nb wb w}:∀{l:List Ar}{a:CQ l}{j:Nat}{n:Ar},EE adr U cb nb wb l w a->l[j]?=some n->At w ((Gz n).2) 4 (Uo n)
 |[],_,_,_,_,hn=>by simp at hn
 |(.inl d,fs)::r,a,0,n,h,hn=>by
  simp at hn
  subst hn
  exact AS (L:=[_,_,_,_,_,_,_]) h.1.q (j:=4) rfl
 |(.inr d,fs)::r,a,0,n,h,hn=>by
  simp at hn
  subst hn
  exact AS (L:=[_,_,_,_,_,_,_,_]) h.1.q (j:=4) rfl
 |(.inl d,fs)::r,a,j+1,n,h,hn=>Sg h.2.2 (by simpa using hn)
 |(.inr d,fs)::r,a,j+1,n,h,hn=>Sg h.2.2.2 (by simpa using hn)
def NL(l:List Ar):Prop:=∀(j:Nat)(n:Ar),l[j]?=some n->Uo n=BU (CD l) (l.length-j)
def CH.len:∀{G V:List (List F)},CH G V->G.length=V.length
 |[],[],_=>rfl
 |_::_,_::_,h=>by rw[yI,yI,h.2.2.len]
 |[],_::_,h=>h.elim
 |_::_,[],h=>h.elim
def CH.cut:∀{b c V:List (List F)},CH (b++c) V->∃a O,V=a++O/\CH b a/\CH c O
 |[],_,V,h=>⟨[],V,rfl,trivial,h⟩
 |_::_,_,[],h=>h.elim
 |_::b,_,u::V,⟨h1,h2,h3⟩=>by
  obtain⟨a,O,rfl,e,d⟩:=CH.cut h3
  exact⟨u::a,O,rfl,⟨h1,h2,e⟩,d⟩
def CH.cT{O d a b}(h:CH (O++d) (a++b))(hl:O.length=a.length):CH O a/\CH d b:=by
 obtain⟨i,g,e,c,f⟩:=CH.cut h;obtain⟨rfl,rfl⟩:=List.append_inj e (by rw[<-hl,c.len]);exact⟨c,f⟩
def L7(s:Int)(f:F)(w:World):List Ar->List (List F)->List (List F)->Prop
 |[],[],[]=>True
 |n::r,g::G,u::V=>(∃al aa ac,al.x.length<=1048576/\CP w (Re n) al aa ac/\FU s (Ae al f) f g n.2/\(Ae al f=true->f∈u))/\(∀f∈g,f∈u)/\g.Nodup/\g.length<=900/\L7 s f w r G V
 |_,_,_=>False
def L7.cut{s f w}:∀{e:List Ar}{n:Ar}{r:List Ar}{G V:List (List F)},L7 s f w (e++n::r) G V->∃O g c a u d,G=O++g::c/\V=a++u::d/\O.length=e.length/\CH O a/\(∃b i q,b.x.length<=1048576/\CP w (Re n) b i q/\FU s (Ae b f) f g n.2/\(Ae b f=true->f∈u))/\(∀f∈g,f∈u)/\g.Nodup/\g.length<=900
 |[],n,r,g::G,u::V,⟨h1,h2,h3,h4,_⟩=>⟨[],g,G,[],u,V,rfl,rfl,rfl,trivial,h1,h2,h3,h4⟩
 |m::e,n,r,g::G,u::V,⟨_,h2,h3,_,h5⟩=>by
  obtain⟨O,o,c,a,p,d,rfl,rfl,k,j,l⟩:=L7.cut h5
  exact⟨g::O,o,c,u::a,p,d,rfl,rfl,by simp[k],⟨h2,h3,j⟩,l⟩
 |[],_,_,[],_,h=>h.elim
 |[],_,_,_::_,[],h=>h.elim
 |_::_,_,_,[],_,h=>h.elim
 |_::_,_,_,_::_,[],h=>h.elim
def L7.len{s f w}:∀{l:List Ar}{G V:List (List F)},L7 s f w l G V->G.length=l.length
 |[],[],[],_=>rfl
 |_::_,_::_,_::_,h=>by rw[yI,yI,h.2.2.2.2.len]
 |[],_::_,_,h=>h.elim
 |[],[],_::_,h=>h.elim
 |_::_,[],_,h=>h.elim
 |_::_,_::_,[],h=>h.elim
def kA{l}(h:(l.map (λn=>(Gz n).2)).Nodup):((CD l).map Prod.snd).Nodup:=by
 unfold CD;rw[List.map_reverse,Yv];exact List.pairwise_reverse.2 (List.Pairwise.imp (λq=>KK q) h)
section
variable {adr : F -> Addr} {U : List F} {old : List Kt} {cb nb wb : Nat}
def rv(adr:F->Addr)(U:List F)(old:List Kt)(cb nb wb:Nat)(l:List Ar)(G TT:List (List F))(w:World)(k:Nat)(u:World):Prop:=
 CK w u/\Av (E5 nb wb l) w u/\∃a:CQ l,EE adr U cb nb wb l u a/\Gd adr old l (G.take (l.length-k)++(l.map Prod.snd).drop (l.length-k)) TT a
def xo(hA:Bs adr U)(s)(hs:s=1∨s = -1)(f)(aA:f∈U)(l G V TT a E w)(hI:EE adr U cb nb wb l w a)(hL:Gd adr old l G TT a)(hW:Iz cb nb wb l)(hu:∀m∈l,∀f∈m.2,f∈U)(M:∀T∈TT,FL U l V T)(hn:TT.Nodup)(ah:CH (l.map Prod.snd) V)(hT:L7 s f w l G V)(aG:NL l)(aC:(l.map (λn=>(Gz n).2)).Nodup)(az:At w E 0 (BU (CD l) 0)) :
  Ca 305 #[Pn E,.pointer (some (adr f)),I6 s] w λe w'=>e=.returned (.tuple #[])/\CK w w'/\Av (E5 nb wb l) w w'/\∃z:CQ l,EE adr U cb nb wb l w' z/\Lv adr old l TT z:=by
 have ab:=hT.len;have R:(CD l).length=l.length:=by simp[CD]
 refine(xu E (CD l) (some (adr f)) s (rv adr U old cb nb wb l G TT w) (kA aC) w ⟨λ_ _ _ _ h=>h,Av.refl _ _,a,hI,?_⟩ az ?_).j λe w' q=>?_
 .rw[Nat.sub_zero,List.drop_of_length_le qe,yQ,yT qd];exact hL
 .intro k nn u C hP;have aB:k<l.length:=by rw[<-R];exact(ye.1 C).1
  obtain⟨j,hj⟩:∃j,j=l.length-1-k:=⟨_,rfl⟩
  have I:j<l.length:=qd;obtain⟨n,A⟩:=Ba I;have aH:nn=Gz n:=by
   unfold CD at C;rw[WF (by simpa using aB),yA,yt,<-hj,A]at C;simpa using C.y
  subst aH;have hcut:l=l.take j++n::l.drop (j+1):=by
   have i:=WE j l;rw[Wk I]at i;have p:l[j]=n:=by simpa[I] using A
   rw[p]at i;exact i.y
  have N:(l.take j).length=j:=by simp;omega
  obtain⟨d,O⟩:∃x,x=l.take j:=⟨_,rfl⟩
  obtain⟨r,ax⟩:∃x,x=l.drop (j+1):=⟨_,rfl⟩
  rw[<-O,<-ax]at hcut;rw[<-O]at N;clear O ax;have ai:=aG j n A;have aq:l.length-j=k+1:=qd;rw[aq]at ai;subst hcut;obtain⟨o,g,K,V1,u0,W,rfl,rfl,v,Y,⟨al,aa,ac,t1,t2,t3,t4⟩,t5,t6,t7⟩:=hT.cut;obtain⟨Z,aF,b,aE,J⟩:=hP;have ar:d.length=(d.map Prod.snd).length:=qe;have aD:(d++n::r).length-k=d.length+1:=by rw[N];omega
  have au:(d++n::r).length-(k+1)=d.length:=by rw[N];omega
  rw[aD]at J;have eG:(o++g::K).take (d.length+1)++((d++n::r).map Prod.snd).drop (d.length+1)=o++g::r.map Prod.snd:=by
   have i:(o++g::K).take (d.length+1)=o++[g]:=by
    rw[<-v,List.take_length_add_append];rfl
   have p:((d++n::r).map Prod.snd).drop (d.length+1)=r.map Prod.snd:=by
    rw[yF,yq,ar,List.drop_length_add_append];rfl
   rw[i,p];simp
  rw[eG]at J;have am:CH ((n::r).map Prod.snd) (u0::W):=by
   rw[yF]at ah;exact(ah.cT (by rw[yt,<-v,Y.len])).2
  refine(UM hA s hs f aA al aa ac t1 n r g u0 W u am ⟨t5,t6,t7⟩ t4 t3 (t2.O Z) d o V1 TT b aE J hW hu M Y v hn).j λe u' q=>?_;obtain⟨D,⟨b',t,H⟩,L,B⟩:=q;refine⟨D,⟨Z.c L,aF.c B,b',t,?_⟩,?_⟩
  .rw[au];have i:(o++g::K).take d.length=o:=by
    rw[<-v,List.take_left]
   have p:((d++n::r).map Prod.snd).drop d.length=n.2::r.map Prod.snd:=by
    rw[yF,yq,ar,List.drop_left]
   rw[i,p];exact H
  rw[Sg t A,ai]
 obtain⟨D,t,H,z,L,B⟩:=q;refine⟨D,t,H,z,L,?_⟩;rw[R,KM,Y0,yY,WI]at B;exact Hu.1 B
end
structure CG where
 nb:Nat
 tb:Nat
 bb:Nat
abbrev Vw:=Nat->Option Addr × Nat × List F
def Ek(c:Cx)(x:CG):Value:=GT (c.cp.neg,x.nb)
def Mx (c:Cx) (x:CG):Value:=.func (.method "loop.example/s01311/impl.take") #[Ek c x] #[]
def Ec(cb:Nat):Value:=.func (.func 155) #[.pointer (some ⟨cb,0,none⟩)] #[]
def rH(vw:Vw)(c:Cx)(x:CG)(up hv:Value):LN:=⟨x.nb,c.node,x.tb,.bool false,up,hv,c.cp.N,c.ta,c.tc,(vw c.node).1,(vw c.node).2.1,c.cp.x⟩
def Rf(vw:Vw)(c:Cx)(x:CG)(up hv:Value):LL:=⟨x.nb,c.node,x.tb,x.bb,.bool true,.int .i64 (c.cp.N:Int),up,hv,c.ta,c.tc,(vw c.node).1,(vw c.node).2.1,c.cp.x⟩
def Mu(vw:Vw)(c:Cx)(x:CG)(up hv:Value):Ar:=(match c.cp.neg with|true=>.inr (Rf vw c x up hv)|false=>.inl (rH vw c x up hv),(vw c.node).2.2)
def Ib{vw c x up hv}(h:c.cp.neg=false):Mu vw c x up hv=(.inl (rH vw c x up hv),(vw c.node).2.2):=by
 unfold Mu;rw[h]
def Ic{vw c x up hv}(h:c.cp.neg=true):Mu vw c x up hv=(.inr (Rf vw c x up hv),(vw c.node).2.2):=by
 unfold Mu;rw[h]
def J5(hl:Value):List Cx->List CG->Value
 |c::_,x::_=>Mx c x
 |_,_=>hl
def Au(vw:Vw)(hl:Value):Value->List Cx->List CG->List Ar
 |up,c::cs,x::xs=>Mu vw c x up (J5 hl cs xs)::Au vw hl (Ek c x) cs xs
 |_,_,_=>[]
def VK{vw hl}:∀{up:Value}{cs:List Cx}{xs:List CG},xs.length=cs.length->(Au vw hl up cs xs).length=cs.length
 |_,[],[],_=>rfl
 |_,_::_,_::_,h=>by
  rw[Au,yI,yI,VK (by simpa using h)]
 |_,[],_::_,h=>by simp at h
 |_,_::_,[],h=>by simp at h
def MU{vw hl}:∀{up:Value}{cs:List Cx}{xs:List CG},xs.length=cs.length->(Au vw hl up cs xs).map Prod.snd=cs.map (λc=>(vw c.node).2.2)
 |_,[],[],_=>rfl
 |_,_::_,_::_,h=>by
  rw[Au,yq,yq,MU (by simpa using h)]
  rfl
 |_,[],_::_,h=>by simp at h
 |_,_::_,[],h=>by simp at h
def Zu(h:P:=by
 cases h:c.cp.neg
 .rw[Ib h];rfl
 rw[Ic h];rfl
 ):=h
def On(vw c x up hv):Gz (Mu vw c x up hv)=(c.cp.neg,x.nb):=by
 exact Zu
def s_(vw c x up hv):Re (Mu vw c x up hv)=c.node:=by
 exact Zu
def tE(vw c x up hv):Uo (Mu vw c x up hv)=up:=by
 exact Zu
def Se:List Ar->List Ar->Prop
 |[],[]=>True
 |(.inl d,_)::r,(.inl d',_)::r'=>d'.tb=d.tb/\d'.ts=d.ts/\Se r r'
 |(.inr d,_)::r,(.inr d',_)::r'=>d'.tb=d.tb/\d'.bb=d.bb/\d'.ts=d.ts/\Se r r'
 |_,_=>False
def lB{vw vw' hl}:∀{up:Value}{cs:List Cx}{xs:List CG},Se (Au vw hl up cs xs) (Au vw' hl up cs xs)
 |_,[],[]=>trivial
 |_,c::cs,x::xs=>by
  have O:=lB (vw:=vw) (vw':=vw') (hl:=hl) (up:=Ek c x) (cs:=cs) (xs:=xs)
  rw[Au,Au]
  cases h:c.cp.neg
  .rw[Ib h,Ib h]
   exact⟨rfl,rfl,O⟩
  .rw[Ic h,Ic h]
   exact⟨rfl,rfl,rfl,O⟩
 |_,[],_::_=>trivial
 |_,_::_,[]=>trivial
def Pz(adr:F->Addr)(U:List F)(w:World):Ar->Prop
 |(.inl d,fs)=>ME adr U d fs w
 |(.inr d,fs)=>MD adr U d fs w
def OI{adr adr' T}(h:∀f∈T,adr' f=adr f):Ab adr' T=Ab adr T:=by
 have key:∀i:Nat,T[i]?.map adr'=T[i]?.map adr:=λi=>by
  cases a:T[i]? with
  |none=>rfl
  |some f=>simp[h f (yd a)]
 simp only[Ab,key]
def vZ{d a g}(h:a.ts=d.ts)(TT):A2 (.inl a,g) TT=A2 (.inl d,g) TT:=by
 simp only[A2,h]
def vW{d a g}(h:a.ts=d.ts)(TT):A2 (.inr a,g) TT=A2 (.inr d,g) TT:=by
 simp only[A2,h]
def FV{adr adr' U v old cb nb wb w w'}(O:∀f∈U,adr' f=adr f){Sx:Nat->Prop}(k:∀b L,Sx b->Ag w b L->Ag w' b L)(t:∀K M,CS w cb nb wb K M->CS w' cb nb wb K M):∀(l l':List Ar)(G V TT:List (List F))(a:CQ l),(∀g,E5 nb wb l g->Sx g)->Se l l'->EE adr U cb nb wb l w a->Gd adr old l G TT a->(∀n∈l',Pz adr' v w' n)->(∀T∈TT,FL U l V T)->CH G V->G.length=l.length->∃e:CQ l',EE adr' v cb nb wb l' w' e/\Gd adr' old l' G TT e
 | [],[],_,_,TT,a,_,_,hI,hL,_,hw,_,_=>⟨a,t _ _ hI,by
  refine⟨hL.1.c (KG ?_),hL.2⟩
  exact Ye λT i=>(OI λf j=>O f ((hw T i).2 f j)).y⟩
 |(.inl d,fs)::r,(.inl d',fs')::r',g::G,u::V,TT,a,hx,⟨e1,e2,e3⟩,⟨i1,i2,i3⟩,⟨l1,l2⟩,hm,hw,⟨s1,s2,s3⟩,hlen=>by
  obtain⟨e,p,m⟩:=FV O k t r r' G V (A2 (.inl d,g) TT) a.2 (λy q=>hx y (.inr q)) e3 i3 l2 (λn o=>hm n (by simp[o])) (FL.next (n:=(.inl d,fs)) (u:=u) hw s1) s3 Ns
  refine⟨(a.1,e),⟨hm (.inl d',fs') qe,?_,p⟩,l1,?_⟩
  .have s:a.1.map (Ab adr')=a.1.map (Ab adr):=Ye λT i=>OI λf j=>O f (((hw T (l1.mem_iff.1 i)).len).2 f j)
   rw[s,e1]
   exact k _ _ (hx _ (.inl rfl)) i2
  .show Gd adr' old r' G (A2 (.inl d',g) TT) e
   rw[vZ e2]
   exact m
 |(.inr d,fs)::r,(.inr d',fs')::r',g::G,u::V,TT,a,hx,⟨e1,e2,e3,e4⟩,⟨i1,i2,i3,i4⟩,⟨l1,l2,l3⟩,hm,hw,⟨s1,s2,s3⟩,hlen=>by
  obtain⟨e,p,m⟩:=FV O k t r r' G V (A2 (.inr d,g) TT) a.2.2 (λy q=>hx y (.inr (.inr q))) e4 i4 l3 (λn o=>hm n (by simp[o])) (FL.next (n:=(.inr d,fs)) (u:=u) hw s1) s3 Ns
  refine⟨(a.1,a.2.1,e),⟨hm (.inr d',fs') qe,?_,?_,p⟩,l1,λT i=>?_,?_⟩
  .have s:a.1.map (Ab adr')=a.1.map (Ab adr):=Ye λT i=>OI λf j=>O f (((hw T (l1.mem_iff.1 i)).len).2 f j)
   rw[s,e1]
   exact k _ _ (hx _ (.inl rfl)) i2
  .rw[e2]
   exact k _ _ (hx _ (.inr (.inl rfl))) i3
  .rw[OI (λf j=>O f (((hw T i).len).2 f j))]
   show As (Ab adr T) a.2.1=(nBar d'.ts g T:Int)
   rw[e3]
   exact l2 T i
  .show Gd adr' old r' G (A2 (.inr d',g) TT) e
   rw[vW e3]
   exact m
 |[],_::_,_,_,_,_,_,h,_,_,_,_,_,_=>h.elim
 |(.inl _,_)::_,[],_,_,_,_,_,h,_,_,_,_,_,_=>h.elim
 |(.inr _,_)::_,[],_,_,_,_,_,h,_,_,_,_,_,_=>h.elim
 |(.inl _,_)::_,(.inr _,_)::_,_,_,_,_,_,h,_,_,_,_,_,_=>h.elim
 |(.inr _,_)::_,(.inl _,_)::_,_,_,_,_,_,h,_,_,_,_,_,_=>h.elim
 |(.inl _,_)::_,(.inl _,_)::_,[],[],_,_,_,_,_,_,_,_,_,hl=>by simp at hl
 |(.inr _,_)::_,(.inr _,_)::_,[],[],_,_,_,_,_,_,_,_,_,hl=>by simp at hl
 |(.inl _,_)::_,(.inl _,_)::_,[],_::_,_,_,_,_,_,_,_,_,hs,_=>hs.elim
 |(.inr _,_)::_,(.inr _,_)::_,[],_::_,_,_,_,_,_,_,_,_,hs,_=>hs.elim
 |(.inl _,_)::_,(.inl _,_)::_,_::_,[],_,_,_,_,_,_,_,_,hs,_=>hs.elim
 |(.inr _,_)::_,(.inr _,_)::_,_::_,[],_,_,_,_,_,_,_,_,hs,_=>hs.elim
def BT(c:Cx):Bool:=c.cp.neg
def H9(c:Cx)(T:List F)(f:F):Bool:=c.cp.x.all (Ap T f)
abbrev BC(g:Cx->List F)(X:List Cx)(T V:List F):Prop:=E7 BT H9 g X T V
abbrev NV(g:Cx->List F)(f:F)(k:Nat)(X:List Cx)(T V:List F):Prop:=Sd BT H9 g f k X T V
abbrev LP(f:F)(k:Nat)(X:List Cx)(T V:List F):Prop:=JE BT H9 f k X T V
def gZ(Z:SN)(c:Cx):List F:=(Z.vw c.node).2.2
def Mb{g:List F}{c T}:g.any (λf=>c.cp.x.all (Ap T f))=false↔∀x∈g,H9 c T x=false:=by simp[Ap,H9]
def U9{Z k c cs T}(h:c.cp.neg=true):De Z k (c::cs) T=if Fl Z k c T=true/\(Z.vw c.node).2.2.any (λf=>c.cp.x.all (Ap T f))=false then De Z (k+1) cs T else []:=by
 rw[De,if_pos h]
def U3{Z k c cs T}(h:c.cp.neg=false):De Z k (c::cs) T=(Ej Z k c).flatMap (λf=>if c.cp.x.all (Ap T f)=true then De Z (k+1) cs (T++[f]) else []):=by
 rw[De,if_neg QZ]
def VI(Z):∀(cs:List Cx)(k:Nat)(T V:List F),(∀i,i<cs.length->Z.sa≠((k+i:Nat):Int))->(V∈De Z k cs T↔∃W,V=T++W/\BC (gZ Z) cs T W)
 |[],k,T,V,_=>by
  simp only[De,yp,BC,E7]
  exact⟨λh=>⟨[],by simp[h],rfl⟩,λ⟨W,h,e⟩=>by rw[h,e,yQ]⟩
 |c::cs,k,T,V,h=>by
  have l:¬Z.sa=(k:Int):=by simpa using h 0 qe
  have ih:=λT=>VI Z cs (k+1) T V (λi hi=>by
   have:=h (i+1) OX
   rwa [show k+(i+1)=k+1+i by omega]at this)
  cases d:c.cp.neg
  .rw[U3 d]
   have e:Ej Z k c=gZ Z c:=by
    unfold Ej;rw[if_neg l];rfl
   rw[e,Yo];constructor
   .rintro⟨f,j,a⟩;split at a
    .rename_i g;obtain⟨W,rfl,b⟩:=(ih _).1 a;exact⟨f::W,qe,(Ha (show BT c=false from d)).2 ⟨f,W,rfl,j,g,b⟩⟩
    simp at a
   rintro⟨W,rfl,b⟩;obtain⟨f,n,rfl,j,g,O⟩:=(Ha (show BT c=false from d)).1 b;exact⟨f,j,by rw[if_pos (show c.cp.x.all (Ap T f)=true from g)];exact(ih _).2 ⟨n,qe,O⟩⟩
  rw[U9 d];have e:Fl Z k c T=true:=by
   unfold Fl;rw[if_neg l]
  rw[e];constructor
  .intro a;split at a
   .rename_i g;obtain⟨W,rfl,b⟩:=(ih _).1 a;exact⟨W,rfl,(GW (show BT c=true from d)).2 ⟨Mb.1 g.2,b⟩⟩
   simp at a
  rintro⟨W,rfl,b⟩;obtain⟨m,O⟩:=(GW (show BT c=true from d)).1 b;rw[if_pos ⟨rfl,Mb.2 m⟩];exact(ih _).2 ⟨W,rfl,O⟩
def jU(Z f)(m:Z.sf=some f):∀(cs:List Cx)(k i:Nat)(T V:List F),i<cs.length->Z.sa=((k+i:Nat):Int)->(V∈De Z k cs T↔∃W,V=T++W/\NV (gZ Z) f i cs T W)
 |[],_,_,_,_,h,_=>by simp at h
 |c::cs,k,0,T,V,_,h=>by
  have j:Z.sa=(k:Int):=qq
  have ih:=λT=>VI Z cs (k+1) T V (λi hi=>qd)
  cases g:c.cp.neg
  .rw[U3 g]
   have e:Ej Z k c=[f]:=by
    unfold Ej;rw[if_pos j,m];rfl
   rw[e];simp only[yL,YQ,yQ];constructor
   .intro a;split at a
    .rename_i d;obtain⟨W,rfl,b⟩:=(ih _).1 a;exact⟨f::W,qe,(PG (show BT c=false from g)).2 ⟨W,rfl,d,b⟩⟩
    simp at a
   rintro⟨W,rfl,b⟩;obtain⟨o,rfl,d,O⟩:=(PG (show BT c=false from g)).1 b;rw[if_pos (show c.cp.x.all (Ap T f)=true from d)];exact(ih _).2 ⟨o,qe,O⟩
  .rw[U9 g];have e:Fl Z k c T=c.cp.x.all (Ap T f):=by
    unfold Fl;rw[if_pos j,m]
   rw[e];constructor
   .intro a;split at a
    .rename_i d;obtain⟨W,rfl,b⟩:=(ih _).1 a;exact⟨W,rfl,(PF (show BT c=true from g)).2 ⟨d.1,Mb.1 d.2,b⟩⟩
    simp at a
   .rintro⟨W,rfl,b⟩;obtain⟨d,n,O⟩:=(PF (show BT c=true from g)).1 b;rw[if_pos ⟨d,Mb.2 n⟩];exact(ih _).2 ⟨W,rfl,O⟩
 |c::cs,k,i+1,T,V,hi,h=>by
  have j:¬Z.sa=(k:Int):=qd;have ih:=λT=>jU Z f m cs (k+1) i T V OX (by rw[h];omega);cases g:c.cp.neg
  .rw[U3 g];have e:Ej Z k c=gZ Z c:=by
    unfold Ej;rw[if_neg j];rfl
   rw[e,Yo];constructor
   .rintro⟨x,l,a⟩;split at a
    .rename_i d;obtain⟨W,rfl,b⟩:=(ih _).1 a;exact⟨x::W,qe,(ML (show BT c=false from g)).2 ⟨x,W,rfl,l,d,b⟩⟩
    simp at a
   rintro⟨W,rfl,b⟩;obtain⟨x,o,rfl,l,d,O⟩:=(ML (show BT c=false from g)).1 b;exact⟨x,l,by rw[if_pos (show c.cp.x.all (Ap T x)=true from d)];exact(ih _).2 ⟨o,qe,O⟩⟩
  rw[U9 g];have e:Fl Z k c T=true:=by
   unfold Fl;rw[if_neg j]
  rw[e];constructor
  .intro a;split at a
   .rename_i d;obtain⟨W,rfl,b⟩:=(ih _).1 a;exact⟨W,rfl,(MJ (show BT c=true from g)).2 ⟨Mb.1 d.2,b⟩⟩
   simp at a
  rintro⟨W,rfl,b⟩;obtain⟨n,O⟩:=(MJ (show BT c=true from g)).1 b;rw[if_pos ⟨rfl,Mb.2 n⟩];exact(ih _).2 ⟨W,rfl,O⟩
def Sf(Z):∀(cs:List Cx)(k:Nat)(T:List F),Dz (cs.map (BB Z.U)) T->(∀c∈cs,∀x∈gZ Z c,x∈Z.U/\Ae c.cp.F x=true)->(∀(i:Nat)(c:Cx),cs[i]?=some c->Z.sa=((k+i:Nat):Int)->∃f,Z.sf=some f/\f∈Z.U/\Ae c.cp.F f=true)->IX Z k cs T
 |[],_,_,_,_,_=>trivial
 |c::cs,k,T,h,hg,hs=>by
  rw[yq]at h
  obtain⟨t,r,n,b⟩:=h
  have v:∀(i:Nat)(d:Cx),cs[i]?=some d->Z.sa=((k+1+i:Nat):Int)->∃f,Z.sf=some f/\f∈Z.U/\Ae d.cp.F f=true:=λi d hd p=>hs (i+1) d qy (by rw[p];omega)
  have ih:=λT h=>Sf Z cs (k+1) T h (λd hd=>hg d IP) v
  have O:∀x,x∈Z.U->Ae c.cp.F x=true->x∈(BB Z.U c).G:=λx q u=>yf.2 ⟨q,u⟩
  have o:Z.sa=(k:Int)->∃f,Z.sf=some f/\f∈Z.U/\Ae c.cp.F f=true:=λe=>hs 0 c rfl (by simpa using e)
  refine⟨t,r,λf a=>n f (O f (hg c qe f a).1 (hg c qe f a).2),λe=>?_,?_⟩
  .obtain⟨f,l,m,j⟩:=o e
   exact⟨f,l,n f (O f m j)⟩
  by_cases g:c.cp.neg=true
  .rw[if_pos g]
   rw[if_pos (show(BB Z.U c).neg=true from g)]at b
   exact ih T b
  rw[if_neg g]
  rw[if_neg (show¬(BB Z.U c).neg=true from g)]at b
  intro f a s
  refine ih _ (b f ?_ s)
  unfold Ej at a
  split at a
  .rename_i e
   obtain⟨w,l,m,j⟩:=o e
   rw[l]at a
   simp at a
   subst a
   exact O f m j
  exact O f (hg c qe f a).1 (hg c qe f a).2
def lh{t T f}(V)(h:t.V T f):Ap (T++V) f t=Ap T f t:=by
 obtain⟨_,g,a,_⟩:=h;unfold Ap;rw[yr (ye.1 a).1]
def uh{t:Jt}{T f}(V)(h:t.V T f):t.V (T++V) f:=by
 obtain⟨O,g,a,b⟩:=h;exact⟨O,g,by rw[yr (ye.1 a).1];exact a,b⟩
def je{c T f}(V)(h:∀t∈c.cp.x,t.V T f):H9 c (T++V) f=H9 c T f:=by
 unfold H9;rw[KF,Yy,Yy];exact⟨λq t a=>by rw[<-lh V (h t a)];exact q t a,λq t a=>by rw[lh V (h t a)];exact q t a⟩
def S2{U g f}:∀{cs:List Cx}{k:Nat}{T V:List F}{c:Cx},cs[k]?=some c->Dz (cs.map (BB U)) T->(∀c∈cs,∀x∈g c,x∈U/\Ae c.cp.F x=true)->f∈U->Ae c.cp.F f=true->c.cp.neg=true->BC g cs T V->((LP f k cs T V↔H9 c (T++V) f=true)/\∀t∈c.cp.x,t.V (T++V) f)
 |[],_,_,_,_,h,_,_,_,_,_,_=>by simp at h
 |d::cs,0,T,V,c,h,hs,hg,hU,hp,hn,hV=>by
  simp at h
  subst h
  rw[yq]at hs
  obtain⟨_,_,n,_⟩:=hs
  have a:=n f (yf.2 ⟨hU,hp⟩)
  refine⟨⟨λb=>?_,λhl=>?_⟩,λt j=>uh V (a t j)⟩
  .rw[je V a]
   exact b.2
  .rw[je V a]at hl
   exact⟨hn,hl⟩
 |d::cs,k+1,T,V,c,h,hs,hg,hU,hp,hn,hV=>by
  rw[yq]at hs
  obtain⟨_,_,_,i⟩:=hs
  have O:∀c∈cs,∀x∈g c,x∈U/\Ae c.cp.F x=true:=λe m=>hg e (by simp[m])
  cases hd:d.cp.neg
  .obtain⟨x,l,rfl,o,j,p⟩:=(Ha (show BT d=false from hd)).1 hV
   rw[if_neg (show¬(BB U d).neg=true by show¬d.cp.neg=true;rw[hd];decide)]at i
   have q:=hg d qe x o
   have ih:=S2 qq (i x (yf.2 q) j) O hU hp hn p
   rw[show T++x::l=(T++[x])++l by simp]
   refine⟨?_,ih.2⟩
   rw[<-ih.1]
   constructor
   .intro b
    obtain⟨r,s,e,b⟩:=(PC (show BT d=false from hd)).1 b
    cases e
    exact b
   exactλb=>(PC (show BT d=false from hd)).2 ⟨x,l,rfl,b⟩
  rw[if_pos (show(BB U d).neg=true from hd)]at i
  have ih:=S2 qq i O hU hp hn ((GW (show BT d=true from hd)).1 hV).2
  exact⟨(Sq (show BT d=true from hd)).c ih.1,ih.2⟩
def LY{U g}:∀{cs:List Cx}{T V:List F},Dz (cs.map (BB U)) T->(∀c∈cs,∀x∈g c,x∈U/\Ae c.cp.F x=true)->BC g cs T V->T.length<=3->(∀f∈T,f∈U)->(T++V).length<=3/\∀f∈T++V,f∈U
 |[],T,V,_,_,h,h3,hT=>by
  rw[show V=[] from h,yQ]
  exact⟨h3,hT⟩
 |d::cs,T,V,hs,hg,hV,h3,hT=>by
  rw[yq]at hs
  obtain⟨_,m,_,b⟩:=hs
  have j:∀c∈cs,∀x∈g c,x∈U/\Ae c.cp.F x=true:=λe k=>hg e (by simp[k])
  cases hd:d.cp.neg
  .obtain⟨x,i,rfl,l,n,o⟩:=(Ha (show BT d=false from hd)).1 hV
   rw[if_neg (show¬(BB U d).neg=true by show¬d.cp.neg=true;rw[hd];decide)]at b
   have O:=hg d qe x l
   rw[show T++x::i=(T++[x])++i by simp]
   refine LY (b x (yf.2 O) n) j o ?_ (λf a=>?_)
   .have:=m hd
    simp
    omega
   rcases yn.1 a with a|a
   .exact hT f a
   rw[yp.1 a]
   exact O.1
  rw[if_pos (show(BB U d).neg=true from hd)]at b
  exact LY b j ((GW (show BT d=true from hd)).1 hV).2 h3 hT
def Cz(nb wb:Nat):List Cx->List CG->List Nat
 |c::cs,x::xs=>(match c.cp.neg with|true=>[x.tb,x.bb]|false=>[x.tb])++Cz nb wb cs xs
 |_,_=>[nb,wb]
def G_{vw hl nb wb g}:∀{up:Value}{cs:List Cx}{xs:List CG},E5 nb wb (Au vw hl up cs xs) g↔g∈Cz nb wb cs xs
 |_,[],[]=>by simp[Au,E5,Cz]
 |_,[],_::_=>by simp[Au,E5,Cz]
 |_,_::_,[]=>by simp[Au,E5,Cz]
 |_,c::cs,x::xs=>by
  have O:=G_ (vw:=vw) (hl:=hl) (nb:=nb) (wb:=wb) (g:=g) (up:=Ek c x) (cs:=cs) (xs:=xs)
  rw[Au,Cz]
  cases h:c.cp.neg
  .rw[Ib h]
   simp only[E5,Yb,yY,yG,O]
   rfl
  rw[Ic h]
  simp only[E5,Yb,yY,yG,O]
  rfl
def tM{vw cb}:∀{up:Value}{cs:List Cx}{xs:List CG},Hp (J5 (Ec cb) cs xs) (Hk (Au vw (Ec cb) up cs xs)) (ND cb (Au vw (Ec cb) up cs xs))
 |_,[],[]=>.inr (.inr ⟨rfl,rfl⟩)
 |_,[],_::_=>.inr (.inr ⟨rfl,rfl⟩)
 |_,_::_,[]=>.inr (.inr ⟨rfl,rfl⟩)
 |_,c::cs,x::xs=>by
  rw[Au,J5]
  cases h:c.cp.neg
  .rw[Ib h]
   refine .inl ⟨?_,rfl⟩
   unfold Mx Ek GT
   rw[h]
   rfl
  rw[Ic h]
  refine .inr (.inl ⟨?_,rfl⟩)
  unfold Mx Ek GT
  rw[h]
  rfl
def Sc{vw cb nb wb}:∀{up:Value}{cs:List Cx}{xs:List CG},(Cz nb wb cs xs).Nodup->(∀c∈cs,c.cp.x.length<=6/\(vw c.node).2.2.length<=900/\(c.cp.neg=false->c.cp.N<3))->Iz cb nb wb (Au vw (Ec cb) up cs xs)
 |_,[],[],_,_=>trivial
 |_,[],_::_,_,_=>trivial
 |_,_::_,[],_,_=>trivial
 |_,c::cs,x::xs,hn,hc=>by
  obtain⟨b,a,f⟩:=hc c qe
  rw[Cz]at hn
  have O:=Sc (vw:=vw) (cb:=cb) (nb:=nb) (wb:=wb) (up:=Ek c x) (cs:=cs) (xs:=xs) (yK.1 hn).2.1 (λd hd=>hc d IP)
  have e:=tM (vw:=vw) (cb:=cb) (up:=Ek c x) (cs:=cs) (xs:=xs)
  rw[Au]
  cases h:c.cp.neg
  .rw[h]at hn
   rw[Ib h]
   simp only[Yb,yY,y9]at hn
   exact⟨e,yh b qh,yh a qh,f h,λq=>hn.1 (G_.1 q),O⟩
  rw[h]at hn
  rw[Ic h]
  simp only[Yb,yY,y9,yG,not_or]at hn
  exact⟨e,yh b qh,yh a qh,hn.1.1,λq=>hn.1.2 (G_.1 q),λq=>hn.2.1 (G_.1 q),O⟩
def UC{vw hl}:∀{up:Value}{cs:List Cx}{xs:List CG}{j:Nat}{n:Ar},(Au vw hl up cs xs)[j]?=some n->Uo n=(if j=0 then up else((Au vw hl up cs xs)[j-1]?.map (λm=>GT (Gz m))).getD .nilIface)
 |_,[],[],_,_,h=>by simp[Au]at h
 |_,[],_::_,_,_,h=>by simp[Au]at h
 |_,_::_,[],_,_,h=>by simp[Au]at h
 |up,c::cs,x::xs,0,n,h=>by
  rw[Au]at h
  simp at h
  rw[<-h,tE,if_pos rfl]
 |up,c::cs,x::xs,j+1,n,h=>by
  rw[Au]at h⊢
  have O:(Au vw hl (Ek c x) cs xs)[j]?=some n:=qq
  cases j with
  |zero=>
   rw[UC O,if_pos rfl,if_neg qh]
   simp only[Yc,KM,yv,Y4,YE,On]
   rfl
  |succ j=>
   rw[UC O,if_neg qd,if_neg qd]
   simp
def ic{vw hl cs xs}:NL (Au vw hl .nilIface cs xs):=by
 intro j n a;rw[UC a];have O:=(ye.1 a).1;have hl:(CD (Au vw hl .nilIface cs xs)).length=(Au vw hl .nilIface cs xs).length:=by simp[CD]
 unfold BU;cases j with
 |zero=>
  rw[if_pos rfl,Nat.sub_zero,Yi qd];rfl
 |succ j=>
  rw[if_neg qd,KT];unfold CD;rw[WF qf,yA,yt,Option.map_map];rw[show(Au vw _ .nilIface cs xs).length-1-((Au vw _ .nilIface cs xs).length-(j+1))=j by omega];rfl
def iw{vw hl}:∀{up:Value}{cs:List Cx}{xs:List CG},xs.length=cs.length->(Au vw hl up cs xs).map (λn=>(Gz n).2)=xs.map (·.nb)
 |_,[],[],_=>rfl
 |_,c::cs,x::xs,h=>by
  rw[Au,yq,yq,iw (by simpa using h),On]
 |_,[],_::_,h=>by simp at h
 |_,_::_,[],h=>by simp at h
def Pv{vw hl U}:∀{up:Value}{cs:List Cx}{xs:List CG}{T:List F},xs.length=cs.length->Dz (cs.map (BB U)) T->T.length<=3->(∀f∈T,f∈U)->FL U (Au vw hl up cs xs) (cs.map (λc=>U.filter (Ae c.cp.F))) T
 |_,[],[],T,_,_,h3,hT=>⟨h3,hT⟩
 |_,c::cs,x::xs,T,hl',hs,h3,hT=>by
  rw[yq]at hs
  obtain⟨j,d,e,b⟩:=hs
  rw[Au,yq]
  cases h:c.cp.neg
  .rw[Ib h]
   rw[if_neg (show¬(BB U c).neg=true by show¬c.cp.neg=true;rw[h];decide)]at b
   refine⟨⟨j.y,d h⟩,hT,λf O=>⟨(yf.1 O).1,e f O⟩,λf O i=>?_⟩
   refine Pv (by simpa using hl') (b f O i) ?_ (λg a=>?_)
   .have:=d h
    simp
    omega
   rcases yn.1 a with a|a
   .exact hT g a
   rw[yp.1 a]
   exact(yf.1 O).1
  .rw[Ic h]
   rw[if_pos (show(BB U c).neg=true from h)]at b
   exact⟨h3,hT,λf O=>⟨(yf.1 O).1,e f O⟩,Pv (by simpa using hl') b h3 hT⟩
 |_,[],_::_,_,h,_,_,_=>by simp at h
 |_,_::_,[],_,h,_,_,_=>by simp at h
def Fm(vw:Vw):List Cx->List (List F)->List (List (List F))
 |[],TT=>[TT]
 |c::cs,TT=>TT::Fm vw cs (if c.cp.neg=true then TT.filter (λT=>decide (nBar c.cp.x (vw c.node).2.2 T=0)) else TT.flatMap (λT=>((vw c.node).2.2.filter (λf=>c.cp.x.all (Ap T f))).map (λf=>T++[f])))
def Ce(vw:Vw)(c:Cx):Cn:=⟨c.cp.neg,c.cp.N,c.node,c.cp.x,c.cp.F,(vw c.node).2.2⟩
def VA{α β:Type}(p)(h:α->List β):∀l:List α,l.flatMap (λx=>if p x=true then h x else [])=(l.filter p).flatMap h
 |[]=>rfl
 |x::r=>by
  rw[yL,VA p h r]
  by_cases a:p x=true
  .rw[if_pos a,yD a,yL]
  rw[if_neg a,yJ a]
  rfl
def kj{ts g T}:nBar ts g T=0↔g.any (λf=>ts.all (Ap T f))=false:=by simp[nBar,Ap]
def Qe{vw c cs}(TT:List (List F)):(if c.cp.neg=true then TT.filter (λT=>decide (nBar c.cp.x (vw c.node).2.2 T=0)) else TT.flatMap (λT=>((vw c.node).2.2.filter (λf=>c.cp.x.all (Ap T f))).map (λf=>T++[f]))).flatMap (BK (cs.map (Ce vw)))=TT.flatMap (BK ((c::cs).map (Ce vw))):=by
 rw[yq];cases h:c.cp.neg
 .rw[if_neg qh,List.flatMap_assoc];congr 1
  funext T
  rw[V2 (show(Ce vw c).neg=false from h)];show _=(vw c.node).2.2.flatMap (λf=>if c.cp.x.all (Ap T f)=true then BK (cs.map (Ce vw)) (T++[f]) else []);rw[VA (λf=>c.cp.x.all (Ap T f)) (λf=>BK (cs.map (Ce vw)) (T++[f])),Ko]
 rw[if_pos rfl,<-VA];congr 1
 funext T
 rw[Xe (show(Ce vw c).neg=true from h)];show _=if(vw c.node).2.2.any (λf=>c.cp.x.all (Ap T f))=true then [] else BK (cs.map (Ce vw)) T
 by_cases O:nBar c.cp.x (vw c.node).2.2 T=0
 .rw[if_pos qZ,if_neg (by rw[kj.1 O];decide)]
 rw[if_neg qZ,if_pos (by
  cases a:(vw c.node).2.2.any (λf=>c.cp.x.all (Ap T f))
  .exact absurd (kj.2 a) O
  rfl)]
def Lv.now{adr old vw hl}:∀{up:Value}{cs:List Cx}{xs:List CG}{TT:List (List F)}{a:CQ (Au vw hl up cs xs)},xs.length=cs.length->Lv adr old (Au vw hl up cs xs) TT a->∃K M,(∀U cb nb wb w,EE adr U cb nb wb (Au vw hl up cs xs) w a->CS w cb nb wb K M)/\K.Perm ((TT.flatMap (BK (cs.map (Ce vw)))).map (Ab adr))/\BS old K M
 | _,[],[],TT,a,_,h=>⟨a.1,a.2,λ_ _ _ _ _ b=>b,by
  have:TT.flatMap (BK (List.map (Ce vw) []))=TT:=by
   exact TM
  rw[this];exact h.1,h.2⟩
 |up,c::cs,x::xs,TT,a,hlen,h=>by
  revert a;rw[Au,<-Qe];cases g:c.cp.neg
  .rw[Ib g,if_neg (by decide)];intro a h;obtain⟨K,M,f,d,e⟩:=Lv.now Ns h.2;exact⟨K,M,λU cb nb wb w b=>f U cb nb wb w b.2.2,d,e⟩
  .rw[Ic g,if_pos rfl];intro a h;obtain⟨K,M,f,d,e⟩:=Lv.now Ns h.2.2;exact⟨K,M,λU cb nb wb w b=>f U cb nb wb w b.2.2.2,d,e⟩
 |_,[],_::_,_,_,h,_=>by simp at h
 |_,_::_,[],_,_,h,_=>by simp at h
section
attribute [local go_sem ↓] wp_at_zero wp_at_succ
structure RD where
 X:List Cx
 xs:List CG
 rb:Nat
 cb:Nat
 nb:Nat
 wb:Nat
def RD.l(R:RD)(vw:Vw):List Ar:=Au vw (Ec R.cb) .nilIface R.X R.xs
def RD.S(R:RD)(g:Nat):Prop:=g∈Cz R.nb R.wb R.X R.xs
structure Js(R:RD) (U:List F):Prop where
 len:R.xs.length=R.X.length
 maps:(Cz R.nb R.wb R.X R.xs).Nodup
 cF:(R.xs.map (·.nb)).Nodup
 small:∀c∈R.X,c.cp.x.length<=6/\c.cp.F.x.length<=1048576/\(c.cp.neg=false->c.cp.N<3)
 sr:Dz (R.X.map (BB U)) []
def EG(U:List F)(X:List Cx)(g:Cx->List F):Prop:=∀c∈X,(∀f∈g c,f∈U.filter (Ae c.cp.F))/\(g c).Nodup/\(g c).length<=900
def gV(vw:Vw)(c:Cx):List F:=(vw c.node).2.2
def EG.sub{U g}:∀{X:List Cx},EG U X g->CH (X.map g) (X.map (λc=>U.filter (Ae c.cp.F)))
 |[],_=>trivial
 |c::X,h=>⟨(h c (by simp)).1,(h c (by simp)).2.1,EG.sub (λd hd=>h d (by simp[hd]))⟩
def Iu(R:RD)(vw:Vw)(w:World):Prop:=w.heap[R.rb]?=some (.cells #[BU (CD (R.l vw)) 0,.pointer (some ⟨R.cb,0,none⟩)] 252 (0,0))
def EF(R:RD)(adr:F->Addr)(U:List F)(vw:Vw)(g:Cx->List F)(old:List Kt)(w:World):Prop:=(∃a:CQ (R.l vw),EE adr U R.cb R.nb R.wb (R.l vw) w a/\Gd adr old (R.l vw) (R.X.map g) [[]] a)/\Iu R vw w
def iH{vw vw' hl}:∀{up:Value}{cs:List Cx}{xs:List CG},(Au vw hl up cs xs).map Gz=(Au vw' hl up cs xs).map Gz
 |_,[],[]=>rfl
 |_,[],_::_=>rfl
 |_,_::_,[]=>rfl
 |_,c::cs,x::xs=>by
  rw[Au,Au,yq,yq,On,On,iH (vw:=vw) (vw':=vw')]
def Iu.same{R vw vw' w w'}(h:Iu R vw w)(a:w'.heap[R.rb]?=w.heap[R.rb]?):Iu R vw' w':=by
 unfold Iu at h⊢;rw[a,h];unfold CD RD.l;rw[iH (vw:=vw) (vw':=vw')]
def jV{vw hl U g s f w}:∀{up:Value}{cs:List Cx}{xs:List CG},xs.length=cs.length->EG U cs g->f∈U->(∀c∈cs,c.cp.F.x.length<=1048576/\(∃a n,CP w c.node c.cp.F a n)/\FU s (Ae c.cp.F f) f (g c) (gV vw c))->L7 s f w (Au vw hl up cs xs) (cs.map g) (cs.map (λc=>U.filter (Ae c.cp.F)))
 |_,[],[],_,_,_,_=>trivial
 |_,c::cs,x::xs,hlen,hg,hf,h=>by
  obtain⟨j,⟨a,n,i⟩,b⟩:=h c qe
  obtain⟨O,e,k⟩:=hg c qe
  rw[Au,yq,yq]
  refine⟨⟨c.cp.F,a,n,j,by rw[s_];exact i,b,λl=>yf.2 ⟨hf,l⟩⟩,O,e,k,jV Ns (λd hd=>hg d IP) hf (λd hd=>h d IP)⟩
 |_,[],_::_,h,_,_,_=>by simp at h
 |_,_::_,[],h,_,_,_=>by simp at h
def kR(R adr U)(hR:Js R U)(D:Bs adr U)(vw)(af:EG U R.X (gV vw))(g)(p:EG U R.X g)(old s)(hs:s=1∨s = -1)(f)(hf:f∈U)(w)(K:EF R adr U vw g old w)(x:∀c∈R.X,(∃a n,CP w c.node c.cp.F a n)/\FU s (Ae c.cp.F f) f (g c) (gV vw c)) :
  Ca 305 #[Pn R.rb,.pointer (some (adr f)),I6 s] w λe w'=>e=.returned (.tuple #[])/\EF R adr U vw (gV vw) old w'/\CK w w'/\Av R.S w w':=by
 obtain⟨⟨a,G,A⟩,d⟩:=K;have O:(R.l vw).map Prod.snd=R.X.map (gV vw):=MU hR.len;have r:∀T∈([[]]:List (List F)),FL U (R.l vw) (R.X.map (λc=>U.filter (Ae c.cp.F))) T:=λT I=>by
  rw[yp.1 I];exact Pv hR.len hR.sr qe qe
 have hu:∀m∈R.l vw,∀f∈m.2,f∈U:=λm B f hf=>by
  have u:m.2∈(R.l vw).map Prod.snd:=yU B;rw[O]at u;obtain⟨c,b,e⟩:=yz.1 u;rw[<-e]at hf;exact(yf.1 ((af c b).1 f hf)).1
 refine(xo D s hs f hf (R.l vw) (R.X.map g) (R.X.map (λc:Cx=>U.filter (Ae c.cp.F))) [[]] a R.rb w G A (Sc hR.maps (λc b=>⟨(hR.small c b).1,(af c b).2.2,(hR.small c b).2.2⟩)) hu r qe (by rw[O];exact af.sub) (jV hR.len p hf (λc b=>⟨(hR.small c b).2.1,(x c b).1,(x c b).2⟩)) ic qQ (AS (L:=[_,_]) d (j:=0) rfl)).j λe w' q=>?_;obtain⟨z,t,C,E,J,H⟩:=q;refine⟨z,⟨⟨E,J,?_⟩,d.same ((t _ _ _ _ d).c d.y)⟩,t,C.j λg p=>G_.1 p⟩;rw[<-O];exact Hu.2 H
def nl(h:P:=by
 go_wp2_with fail;refine H.o.rtn λw1 h1=>?_;have H1:=Aa h1;clear h1;go_wp2_with fail;exact bodyPost_end (results_none rfl _ _ _) rfl ⟨rfl,H1.o⟩
 ):=h
def xJ(a O)(R:World->World->Prop)(w)(h:Ca 305 #[Pn a,O,I6 1] w λe w'=>e=.returned (.tuple #[])/\R w w'):Ca 301 #[Pn a,O] w λe w'=>e=.returned (.tuple #[])/\R w w':=by
 have H:=Aa h;clear h;go_enter func301,ntmps301;exact nl
def ue(a O)(R:World->World->Prop)(w)(h:Ca 305 #[Pn a,O,I6 (-1)] w λe w'=>e=.returned (.tuple #[])/\R w w'):Ca 303 #[Pn a,O] w λe w'=>e=.returned (.tuple #[])/\R w w':=by
 have H:=Aa h;clear h;go_enter func303,ntmps303;exact nl
def VD{adr old vw hl U cb nb wb w}:∀{up:Value}{cs:List Cx}{xs:List CG}{TT:List (List F)}{a:CQ (Au vw hl up cs xs)},xs.length=cs.length->Lv adr old (Au vw hl up cs xs) TT a->EE adr U cb nb wb (Au vw hl up cs xs) w a->∀(j:Nat)(n:Ar),(Au vw hl up cs xs)[j]?=some n->∃e L O,At w ((Gz n).2) 5 (.map (some e))/\Ag w e (uv L)/\(Fm vw cs TT)[j]?=some O/\L.length=O.length
 |_,[],[],_,_,_,_,_,_,_,b=>by simp[Au]at b
 |up,c::cs,x::xs,TT,a,hlen,h,d,j,n,b=>by
  revert a n
  rw[Au,Fm]
  cases f:c.cp.neg
  .rw[Ib f,if_neg (by decide)]
   intro a h d n b
   cases j with
   |zero=>
    simp at b
    subst b
    exact⟨_,_,TT,AS (L:=[_,_,_,_,_,_,_]) d.1.q (j:=5) rfl,d.2.1,rfl,by rw[yt];exact h.1.length_eq⟩
   |succ j=>exact VD (by simpa using hlen) h.2 d.2.2 j n (by simpa using b)
  .rw[Ic f,if_pos rfl]
   intro a h d n b
   cases j with
   |zero=>
    simp at b
    subst b
    exact⟨_,_,TT,AS (L:=[_,_,_,_,_,_,_,_]) d.1.q (j:=5) rfl,d.2.1,rfl,by rw[yt];exact h.1.length_eq⟩
   |succ j=>exact VD (by simpa using hlen) h.2.2 d.2.2.2 j n (by simpa using b)
 |_,[],_::_,_,_,h,_,_,_,_,_=>by simp at h
 |_,_::_,[],_,_,h,_,_,_,_,_=>by simp at h
def iK(vw):∀(cs:List Cx)(TT:List (List F)),(Fm vw cs TT).length=cs.length+1
 |[],_=>rfl
 |c::cs,TT=>by
  rw[Fm,yI,yI,iK vw cs]
def jT(vw):∀(cs:List Cx)(TT:List (List F)),(Fm vw cs TT)[cs.length]?=some (TT.flatMap (BK (cs.map (Ce vw))))
 |[],TT=>by
  simp only[Fm,YB,BK,Yz]
  rw[List.flatMap_singleton' TT]
  rfl
 |c::cs,TT=>by
  rw[Fm,yI,yw,jT vw cs,Qe]
def Oc(vw:Vw)(X:List Cx):Int:=(((Fm vw X [[]]).map List.length).sum:Int)-1
def t8{l:List Nat}{n k}(h:l.length=n+1)(c:l[n]?=some k):l.sum=(l.take n).sum+k:=by
 have b:l=l.take n++[k]:=by
  have:=WE n l;rw[Wk qd]at this;have e:l[n]=k:=by simpa[show n<l.length by omega] using c
  rw[e,List.drop_of_length_le qd]at this;exact this.y
 have a:=congrArg List.sum b;rw[WV]at a;simpa using a
def tB(R adr U)(hR:Js R U)(vw old w)(B:EF R adr U vw (gV vw) old w)(N:((Fm vw R.X [[]]).map List.length).sum<=1000000000) :
  Ca 304 #[Pn R.rb] w λe w'=>e=.returned (I6 (Oc vw R.X))/\w'=w:=by
 obtain⟨⟨a,i,c⟩,r⟩:=B;have A:(R.l vw).map Prod.snd=R.X.map (gV vw):=MU hR.len;rw[<-A]at c;have c:=Hu.1 c;obtain⟨K,M,E,z,J⟩:=Lv.now hR.len c;have s:=E U R.cb R.nb R.wb w i;have o:(R.l vw).length=R.X.length:=VK hR.len;have G:=jT vw R.X [[]];have x:K.length=(([[]]:List (List F)).flatMap (BK (R.X.map (Ce vw)))).length:=by rw[z.length_eq,yt]
 have b:=iK vw R.X [[]];have T:=t8 (l:=(Fm vw R.X [[]]).map List.length) (n:=R.X.length) (k:=K.length) (by rw[yt];exact b) (by rw[yA,G,x];rfl);have p:(CD (R.l vw)).length=R.X.length:=by simp[CD,o]
 have u:NL (R.l vw):=ic;refine(xR R.rb R.cb R.nb (CD (R.l vw)) K ((((Fm vw R.X [[]]).map List.length).take R.X.length).reverse) (kA qQ) w (AS (L:=[_,_]) r (j:=0) rfl) (AS (L:=[_,_]) r (j:=1) rfl) (AS (L:=[_,_]) s.q (j:=0) rfl) s.now (by rw[List.sum_reverse];omega) (by simp[p,b]) ?_).j λe w' q=>⟨?_,q.2⟩
 .intro k n m g f;have W:k<R.X.length:=by rw[<-p];exact(ye.1 g).1
  obtain⟨j,hj⟩:∃j,j=R.X.length-1-k:=⟨_,rfl⟩
  obtain⟨d,O⟩:∃d,(R.l vw)[j]?=some d:=⟨(R.l vw)[j]'(by omega),qe⟩
  have t:n=Gz d:=by
   unfold CD at g;rw[WF qf,yA,yt,o,<-hj,O]at g;simpa using g.y
  obtain⟨C,L,I,D,H,v,Y⟩:=VD hR.len c i j d O;refine⟨C,L,by rw[t];exact D,H,?_,?_⟩
  .rw[WF (by simp[b];omega)]at f;simp only[Yt,yt,b]at f;rw[show min R.X.length (R.X.length+1)-1-k=j by omega,YC,if_pos qd,yA,v]at f;simp at f;omega
  rw[t,Sg i O,u j d O,o];congr 2;omega
 rw[q.1,List.sum_reverse];unfold Oc;congr 2;omega
def re(R vw w)(a:Iu R vw w):Ca 302 #[Pn R.rb] w λe w'=>e=.returned (Pn R.cb)/\w'=w:=x8 R.rb _ w (AS (L:=[_,_]) a (j:=1) rfl)
end
def DA(gO gN:Cx->List F)(f:F)(X:List Cx)(k:Nat)(T:List F):Prop:=
 (BC gO X [] T/\∀(j:Nat)(c:Cx),j<k->X[j]?=some c->c.cp.neg=true->Ae c.cp.F f=true->¬LP f j X [] T)∨∃(j:Nat)(c:Cx),j<k/\X[j]?=some c/\c.cp.neg=false/\Ae c.cp.F f=true/\NV gN f j X [] T
def FC(gO gN:Cx->List F)(f:F)(X:List Cx)(k:Nat)(T:List F):Prop:=
 (BC gO X [] T/\f ∉ T)∨∃(j:Nat)(c:Cx),j<k/\X[j]?=some c/\c.cp.neg=true/\Ae c.cp.F f=true/\NV gN f j X [] T
section
variable {gO gN : Cx -> List F} {f : F} {X : List Cx} {k : Nat} {T : List F} {c : Cx}
def zw:DA gO gN f X 0 T↔BC gO X [] T:=by simp[BC,DA]
def QM(h:P:=by exact .inr ⟨j,d,by omega,h⟩):=h
def zs(g:X[k]?=some c)(e:Ae c.cp.F f=false):DA gO gN f X (k+1) T↔DA gO gN f X k T:=by
 constructor
 .rintro(⟨b,a⟩|⟨j,d,hj,hd,b,a,l⟩)
  .exact .inl ⟨b,λj d hj=>a j d qd⟩
  refine .inr ⟨j,d,?_,hd,b,a,l⟩;rcases Wf j k with h|h
  .exact h
  obtain rfl:j=k:=qd;rw[g]at hd;cases hd;rw[e]at a;cases a
 rintro(⟨b,a⟩|⟨j,d,hj,h⟩)
 .refine .inl ⟨b,λj d hj hd i O=>?_⟩;rcases Wf j k with h|h
  .exact a j d h hd i O
  obtain rfl:j=k:=qd;rw[g]at hd;cases hd;rw[e]at O;cases O
 exact QM
def o5(h:P:=by
 rcases Wf j k with h|h
 .exact .inl (.inr ⟨j,d,h,hd,h1,h2,h3⟩)
 obtain rfl:j=k:=by omega
 exact .inr h3
 ):=h
def uz(b:X[k]?=some c)(a:c.cp.neg=false)(e:Ae c.cp.F f=true):DA gO gN f X (k+1) T↔DA gO gN f X k T∨NV gN f k X [] T:=by
 constructor
 .rintro(⟨h1,h2⟩|⟨j,d,hj,hd,h1,h2,h3⟩)
  .exact .inl (.inl ⟨h1,λj d hj=>h2 j d qd⟩)
  exact o5
 rintro((⟨h1,h2⟩|⟨j,d,hj,h⟩)|h)
 .refine .inl ⟨h1,λj d hj hd O g=>?_⟩;rcases Wf j k with h|h
  .exact h2 j d h hd O g
  obtain rfl:j=k:=qd;rw[b]at hd;cases hd;rw[a]at O;cases O
 .exact QM
 exact .inr ⟨k,c,qd,b,a,e,h⟩
def xp(n:∀c∈X,∀x,x∈gN c↔x∈gO c∨(Ae c.cp.F f=true/\x=f))(g:X[k]?=some c)(i:c.cp.neg=true)(o:Ae c.cp.F f=true):DA gO gN f X (k+1) T↔DA gO gN f X k T/\¬LP f k X [] T:=by
 have O:∀d,X[k]?=some d->BT d=true->f∈gN d:=λd hd _=>by
  rw[g]at hd;cases hd;exact(n c (yd g) f).2 (.inr ⟨o,rfl⟩)
 constructor
 .rintro(⟨b,a⟩|⟨j,d,hj,hd,b,a,m⟩)
  .exact⟨.inl ⟨b,λj d hj=>a j d qd⟩,a k c qd g i o⟩
  have r:BC gN X [] T:=Sd.ch (λe l _=>by
   rw[hd]at l;cases l;exact(n d (yd hd) f).2 (.inr ⟨a,rfl⟩)) m
  refine⟨.inr ⟨j,d,?_,hd,b,a,m⟩,r.free O⟩;rcases Wf j k with h|h
  .exact h
  obtain rfl:j=k:=qd;rw[g]at hd;cases hd;rw[i]at b;cases b
 rintro⟨⟨b,a⟩|⟨j,d,hj,h⟩,p⟩
 .refine .inl ⟨b,λj d hj hd s q=>?_⟩;rcases Wf j k with h|h
  .exact a j d h hd s q
  obtain rfl:j=k:=qd;exact p
 exact QM
def vJ(k:∀c∈X,∀x,x∈gN c↔x∈gO c∨(Ae c.cp.F f=true/\x=f)):DA gO gN f X X.length T↔BC gN X [] T:=by
 rw[show BC gN X [] T↔_ from jA (p:=λc=>Ae c.cp.F f) (λc l x=>k c l x)];constructor
 .rintro(⟨b,a⟩|⟨j,d,_,hd,b,a,i⟩)
  .exact .inl ⟨b,λj d hd e g=>a j d (ye.1 hd).1 hd e g⟩
  exact .inr ⟨j,d,hd,b,a,i⟩
 rintro(⟨b,a⟩|⟨j,d,hd,b,a,i⟩)
 .exact .inl ⟨b,λj d _ hd e g=>a j d hd e g⟩
 exact .inr ⟨j,d,(ye.1 hd).1,hd,b,a,i⟩
def DA.ch(i:∀c∈X,∀x,x∈gN c↔x∈gO c∨(Ae c.cp.F f=true/\x=f))(h:DA gO gN f X k T):BC gO X [] T∨BC gN X [] T:=by
 rcases h with h|⟨j,d,_,hd,l,b,g⟩
 .exact .inl h.1
 exact .inr (Sd.ch (λe a _=>by
  rw[hd]at a;cases a;exact(i d (yd hd) f).2 (.inr ⟨b,rfl⟩)) g)
def wD:FC gO gN f X 0 T↔BC gO X [] T/\f ∉ T:=by simp[FC,BC]
def kC(i:X[k]?=some c)(e:¬(c.cp.neg=true/\Ae c.cp.F f=true)):FC gO gN f X (k+1) T↔FC gO gN f X k T:=by
 constructor
 .rintro(h|⟨j,d,hj,hd,b,a,g⟩)
  .exact .inl h
  refine .inr ⟨j,d,?_,hd,b,a,g⟩;rcases Wf j k with h|h
  .exact h
  obtain rfl:j=k:=qd;rw[i]at hd;cases hd;exact absurd ⟨b,a⟩ e
 rintro(h|⟨j,d,hj,h⟩)
 .exact .inl h
 exact QM
def xG(e:X[k]?=some c)(a:c.cp.neg=true)(b:Ae c.cp.F f=true):FC gO gN f X (k+1) T↔FC gO gN f X k T∨NV gN f k X [] T:=by
 constructor
 .rintro(h|⟨j,d,hj,hd,h1,h2,h3⟩)
  .exact .inl (.inl h)
  exact o5
 rintro((h|⟨j,d,hj,h⟩)|h)
 .exact .inl h
 .exact QM
 exact .inr ⟨k,c,qd,e,a,b,h⟩
def vk(g:∀c∈X,∀x,x∈gN c↔x∈gO c/\x≠f)(i:∀c∈X,f∈gO c->Ae c.cp.F f=true):FC gO gN f X X.length T↔BC gN X [] T:=by
 rw[show BC gN X [] T↔_ from ju (p:=λc=>Ae c.cp.F f) (λc k x=>g c k x) i];constructor
 .rintro(h|⟨j,d,_,hd,e,a,b⟩)
  .exact .inl h
  exact .inr ⟨j,d,hd,e,a,b⟩
 rintro(h|⟨j,d,hd,e,a,b⟩)
 .exact .inl h
 exact .inr ⟨j,d,(ye.1 hd).1,hd,e,a,b⟩
end
def Hm(adr:F->Addr)(S:List F->Prop)(K:List Kt):Prop:=∀x,x∈K↔∃T,S T/\x=Ab adr T
def Hm.congr{adr S O K}(h:Hm adr S K)(a:∀T,S T↔O T):Hm adr O K:=λx=>by
 rw[h x];simp only[a]
def Hm.dx{adr}{S:List F->Prop}:∀{K:List Kt},(∀x∈K,∃T,S T/\x=Ab adr T)->∃TT:List (List F),K=TT.map (Ab adr)/\∀T∈TT,S T
 |[],_=>⟨[],rfl,λT a=>by simp at a⟩
 |x::K,h=>by
  obtain⟨T,a,e⟩:=h x qe
  obtain⟨TT,d,c⟩:=Hm.dx (K:=K) (λy hy=>h y Jc)
  refine⟨T::TT,by rw[yq,<-e,<-d],λV b=>?_⟩
  rcases yG.1 b with rfl|b
  .exact a
  exact c V b
end Go.Proofs.YtikojfajahnhgaaGreat
