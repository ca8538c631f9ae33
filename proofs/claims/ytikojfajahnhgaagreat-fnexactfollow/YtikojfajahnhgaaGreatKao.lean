import Derived.Test.YtikojfajahnhgaaGreatKal
set_option linter.all false
set_option maxHeartbeats 12800000
set_option maxRecDepth 100000
namespace Go.Proofs.YtikojfajahnhgaaGreat
attribute [local simp] At I6 Pn mzI
attribute [local go_sem] At I6 Pn
open Go.RowKit Go.Proofs.Tryz
section
attribute [local go_sem ↓] wp_at_zero wp_at_succ
def Dg(w:World)(pb:Nat)(v0 v1:Value):Prop:=w.heap[pb]?=some (.cells #[v0,v1] 102 (0,0))
def Dg.facts{w b a v1}(h:Dg w b a v1):(At w b 0 a/\At w b 1 v1)/\(∀j,w.frozen? ⟨b,j,none⟩=false)/\b<w.heap.size:=by
 unfold Dg at h;exact⟨Ay h,λj=>by simp[World.frozen?,h],As h⟩
def Dg.cM{w b a v1}(h:Dg w b a v1)(x):Dg (w.setCell ⟨b,1,none⟩ x) b a x:=by
 have:=Fq (i:=1) h x;simpa[Dg] using this
def Dg.ar{w w' b a v1}(h:Dg w b a v1)(c:Bw w w'):Dg w' b a v1:=(c.block b (As h)).j h
structure Fp(pb:Nat) (row:Option Nat) (w w':World):Prop where
 rest:Below 0 w w'
 block:∀k,k<w.heap.size->k≠pb->row≠some k->w'.heap[k]?=w.heap[k]?
def Fp.refl(pb row w):Fp pb row w w:=⟨Aj,λ_ _ _ _=>rfl⟩
def Fp.ar{pb row u w w'}(h:Fp pb row u w)(a:Bw w w'):Fp pb row u w':=⟨h.rest.j (a.ac (yA _)),λk b d c=>(a.block k (yh b h.rest.size)).j (h.block k b d c)⟩
def te:(prog.info? 330).map (λi=>(i.zero,i.size,i.bytes))=some (some (.agg #[.string ⟨#[]⟩,I6 0,I6 0]),3,32):=qf
def uG(v):∀u∈Hz v,u.oneCell'=true:=by
 intro u hu;simp[Hz]at hu;rcases hu with rfl|rfl|rfl<;>rfl
def Ji.owns{w base a c vs}(h:w.ownsRow base 330 3 (.slice a vs.length c) vs.length (vs.flatMap Hz)):Ji w a vs:=by
 intro i v b;have key:=λj u(hj:(Hz v)[j]?=some u)=>CC h (Ig (cells:=Hz) (m:=3) (λ_=>rfl) vs i v j u b hj);obtain⟨k,rfl,_,O,_⟩:=key 0 _ rfl;obtain⟨f,e,_,h1,_⟩:=key 1 _ rfl;obtain⟨g,d,_,h2,_⟩:=key 2 _ rfl;cases e;cases d;exact⟨k,0,rfl,qA,qt,qv⟩
def CI(vs:List Vr)(ts:List Tm)(n:Nat):Nat->List Vr
 |0=>vs
 |i+1=>(match ts[i]? with|none=>CI vs ts n i|some t=>if t.kind=2/\BA (CI vs ts n i) t.var=none then CI vs ts n i++[⟨t.var,n,i⟩] else CI vs ts n i)
def SZ{vs ts n i t}(h:ts[i]?=some t):CI vs ts n (i+1)=if t.kind=2/\BA (CI vs ts n i) t.var=none then CI vs ts n i++[⟨t.var,n,i⟩] else CI vs ts n i:=by simp[CI,h]
def Xu(vs ts n):∀i,(CI vs ts n i).length<=vs.length+i
 |0=>yX _
 |i+1=>by
  have a:=Xu vs ts n i
  simp only[CI]
  cases ts[i]? with
  |none=>simp only;omega
  |some t=>
   simp only
   split
   .simp;omega
   omega
def Fp.step{pb row O u wr b f a x}(h:Fp pb row u wr)(r:∀g,O=some g->row=some g∨u.heap.size<=g)(d:Bw wr b)(c:Bw b f)(i:f.grownBy a O):Fp pb row u (a.setCell ⟨pb,1,none⟩ x):=by
 have q:Turned a (a.setCell ⟨pb,1,none⟩ x) pb:=Turned.setCells [x] 1 a pb;refine⟨((((h.rest.j (d.ac (yA _))).j (c.ac (yA _))).grown i (yA _) (λ_ _=>yA _)).j (q.J (yA _))),λk n m o=>?_⟩;have p:k<wr.heap.size:=yh n h.rest.size;have l:k<b.heap.size:=yh p d.size;have s:k<f.heap.size:=yh l c.size;rw[q.block k m,i.block k s (λe=>by rcases r k e.ai with Y|Y;exact o Y;omega),c.block k l,d.block k p];exact h.block k n m o
def XU{P:Prop}(h:P:=by
 rw[aj]at ai;unfold Lo at ai;clear aj ak;go_wp2_with fail;refine ai.o.an λw3 Y=>?_;have D3:=Aa (D2.o.aj Y);have f0:=zab Y d0;have f2:=zab Y d2;have aC:=Y.size;clear Y ai d0 d1 d2 d3 d4 d5 D2;go_upto_region 5 with fail;refine Bt ?_;intro w4 O ao;have D4:=Aa (D3.o.aj O);have g0:=zab O f0;have g2:=zab O f2;have aB:=O.size;clear O ao f0 f2 D3;go_wp2_with fail;go_roundw
 case rel=>exact⟨k+1,af,ah,U,by go_num,by omega,HN.o,PR.o.ar D4.o,Bg OR.o D4.o,aw.o.ar D4.o,aq.o,by have:=D4.o.size;omega,AR.o.aj D4.o⟩
 case measure=>(simp;omega)
 ):P:=h
def zew(pb n:Nat)(p:Pt)(aH aW f m vs G B){q}(z w)(hA:Bw z w)(aP:CJ q z aH p.aa)(T:Dg w pb G (.slice f vs.length m))(hO:w.ownsRow B 330 3 (.slice f vs.length m) vs.length (vs.flatMap Hz))(aU:z.heap.size<=B)(aY:z.heap.size<=pb)(hB:B<=w.heap.size)(hl:p.aa.length<=1000)(a5:vs.length<=1000) :
  Ca 151 #[.pointer (some ⟨pb,0,none⟩),.agg #[.bool p.neg,.string p.ak,.slice aH p.aa.length aW],.int .i64 (n:Int)] w λe w'=>e=.returned (.tuple #[])/\(∃af ah,Dg w' pb G (.slice af (CI vs p.aa n p.aa.length).length ah)/\w'.ownsRow B 330 3 (.slice af (CI vs p.aa n p.aa.length).length ah) (CI vs p.aa n p.aa.length).length ((CI vs p.aa n p.aa.length).flatMap Hz)/\(∀g,(Value.slice af (CI vs p.aa n p.aa.length).length ah).ownBlock=some g->(Value.slice f vs.length m).ownBlock=some g∨w.heap.size<=g))/\Fp pb (Value.slice f vs.length m).ownBlock w w'/\Bw z w':=by
 obtain⟨HT,aK,Z,aQ⟩:=BE aP hA T hO;have ab:=As T;clear aP hA T hO;go_enter func151,ntmps151;go_upto_region 1 with fail;refine Bt ?_;intro w0 y aD;obtain⟨b0,b1,b2⟩:=Ao aD;obtain⟨H0,P0,O0,F0,A0⟩:=DU y (Z.o.ar y) (Bg aQ.o y) ((Fp.refl pb (Value.slice f vs.length m).ownBlock w).ar y) (aK.o.aj y);have aX:=y.size;clear y aD Z aQ aK;go_wp2_with fail;clear b0 b1 b2
 go_loopw [13] (λiv wr=>∃(k:Nat)(af:Option Addr)(ah:Nat)(U:List Vr),iv=.int .i64 (k:Int)/\k<=p.aa.length/\CI vs p.aa n k=U/\Dg wr pb G (.slice af U.length ah)/\wr.ownsRow B 330 3 (.slice af U.length ah) U.length (U.flatMap Hz)/\Fp pb (Value.slice f vs.length m).ownBlock w wr/\(∀g,(Value.slice af U.length ah).ownBlock=some g->(Value.slice f vs.length m).ownBlock=some g∨w.heap.size<=g)/\w.heap.size<=wr.heap.size/\Bw z wr) (mz p.aa.length)
 case atStart=>exact⟨0,f,m,vs,rfl,yA _,rfl,P0.o,O0.o,F0.o,λg d=>.inl d,aX,A0.o⟩
 case round=>
  obtain⟨k,af,ah,U,rfl,a9,N,W,aJ,aN,aE,bg,aF⟩:=hrel;obtain⟨HU,PR,OR,aw,aq,AR⟩:=Hl N W aJ aN aE aF;have bc:U.length<=2000:=by
   have:=Xu vs p.aa n k;rw[N]at this;omega
  have a6:=As W;clear N W aJ aN aE aF P0 O0 F0 A0;by_cases hk:k<p.aa.length
  .obtain⟨t,M⟩:=AJ hk;obtain⟨mb,mo,rfl,_,c0,c1,c2,c3,c4,c5⟩:=(HT.o.J AR.o).get M;have H:=Aa (SZ (vs:=vs) (n:=n) M);rw[HU.o]at H;have z0:(0:Int)<=(k:Int):=qd;have z1:(k:Int)<(p.aa.length:Int):=qd;clear M;go_upto_region 4 with fail;refine Bt ?_;intro w2 C E;obtain⟨r,A⟩:∃r,r=wr.heap.size:=⟨_,rfl⟩
   rw[<-A]at E⊢;obtain⟨d0,d1,d2,d3,d4,d5⟩:=Gb E;have D2:=Aa C;have a0:=C.size;have bd:r<w2.heap.size:=As E;have aZ:pb<r:=qd;have aS:=Aa (λg(d:(Value.slice af U.length ah).ownBlock=some g)=>(show g<r by have:=(OR.o.lt g d).2;omega));have aI:(Value.slice af U.length ah).ownBlock≠some pb:=λe=>by
    obtain⟨cc,aR⟩:=A8 OR.o e;exact CB aR PR.o qh
   have ai:=Aa (jg pb t.var af ah U w2 (PR.o.ar C).facts.1.2 (Ji.owns (Bg OR.o C)) qd);clear C E c0 c1 c2 c3 c4 c5 A;by_cases ak:t.kind=2
   .have aV:(t.kind==2)=true:=by simpa using ak
    cases aj:BA U t.var with
    |some x=>
     have HN:=Aa (show CI vs p.aa n (k+1)=U by rw[H.o,if_neg (by rw[aj];simp)]);exact XU
    |none=>
     have HN:=Aa (show CI vs p.aa n (k+1)=U++[⟨t.var,n,k⟩] by rw[H.o,if_pos ⟨ak,aj⟩]);rw[aj]at ai;unfold Lo at ai;clear aj ak;go_wp2_with fail;refine ai.o.an λw3 Y=>?_;have D3:=Aa (D2.o.aj Y);have f0:=zab Y d0;have f2:=zab Y d2;have aC:=Y.size;clear Y ai d0 d1 d2 d3 d4 d5 D2;go_upto_region 5 with fail;refine Bt ?_;intro w4 O ao;have D4:=Aa (D3.o.aj O);have g0:=zab O f0;have g2:=zab O f2;have aB:=O.size;clear O ao f0 f2 D3;obtain⟨I,R4,D,R⟩:=BE (PR.o.ar D4.o) (Bg OR.o D4.o) (λo'=>(Yw w4.heap.size w4).drew.alloc qe o':∀o',Bw w4 (w4.drew.alloc o')) (AR.o.aj D4.o);have q1:w4.cell? ⟨pb,1,none⟩=some (.slice af U.length ah):=I.o.facts.1.2;have q5:∀o,(w4.drew.alloc o).cell? ⟨pb,1,none⟩=some (.slice af U.length ah):=λo=>(I.o.ar (D.o o)).facts.1.2;have aO:(Value.slice af U.length ah).ownBlock≠some r:=λe=>by have:=aS.o _ e;omega
     have a7:r≠pb:=qd;have a4:pb<w4.heap.size:=qd;have bf:B<=w4.heap.size:=qd;go_wp2_with fail;refine wp_region_noPanic ?_;refine wp_region_held_drew (S:=(λw'=>w'.cell? ⟨r,2,none⟩=some (.string t.var))) qf ?_ (λhHeld=>?_)
     ·(try dsimp only);(first|(simp[*];done)|assumption)
     refine sr 0 4 ?_;refine sr 5 11 ?_;refine r2 4 11 (λK b=>?_) λK b=>?_
     focus
      go_simp;refine b.o _ _ (by(try dsimp only);(first|(simp[*];done)|assumption)) λc=>?_;replace hHeld:=c;clear b K c;(try simp only[pA,pZ,pS,pN]);refine r1 11 λK b=>?_;go_simp;refine b.o _ _ qP λc=>?_
     rotate_left
     focus
      go_simp;refine b.o _ _ qP λc=>?_;replace hHeld:=c;clear b K c;(try simp only[pA,pZ,pS,pN]);refine r1 4 λK b=>?_;go_simp;refine b.o _ _ (by(try dsimp only);(first|assumption)) λc=>?_
     rotate_left
     all_goals
      replace hHeld:=c;clear b K c;(try simp only[pA,pZ,pS,pN]);refine r1 12 λK b=>?_;(refine IY qi (.tmp 36) (.tmp 43) 100 qi B 330 _ 3 32 underlying100 te qi qd _ U.length _ qi (Bg R4.o (D.o _)) (some ⟨_,0,none⟩) 1 1 qi (Hz ⟨t.var,n,k⟩) qi (λe=>qp) (Et _ _ _ _ qe) (uG _) qm qd qg ?_;intro u s w8 aL ar aG;have L:=Aa (show Dg w8 pb G (.slice af U.length ah) from(ar.o.block pb qg (λe=>aI e.ai)).j (((D.o _).block pb qd).j I.o));obtain⟨⟨_,m1⟩,zz,_⟩:=L.o.facts;have z1:=zz 1;clear zz);refine b.o _ _ (by(try dsimp only);(first|exact(Jl ar.o aO qg).j qj)) λc=>?_;replace hHeld:=c;clear b K c;(try simp only[pA,pZ,pS,pN]);refine sr 13 15 ?_;refine r1 15 λK b=>?_;go_simp;refine b.o _ _ (by(try dsimp only);(first|(simp[go_sem, *];done))) λc=>?_;replace hHeld:=c;clear b K c;(try simp only[pA,pZ,pS,pN]);refine wpAnyH_done qf ?_ _;refine Yf ?_;obtain⟨R8,P9⟩:=Ak (show w8.ownsRow B 330 3 (.slice u (U.length+1) s) (U.length+1) ((U++[(⟨t.var,n,k⟩:Vr)]).flatMap Hz) by have:=aL.o;simpa using this) (L.o.cM (.slice u (U.length+1) s));obtain⟨R9,F9,aA,A9⟩:=BE (RP (o:=1) (x:=.slice u (U.length+1) s) R8.o L.o qh) (Fp.step (x:=.slice u (U.length+1) s) aw.o aq.o D4.o (D.o _) ar.o) (show∀g,(Value.slice u (U.length+1) s).ownBlock=some g->(Value.slice f vs.length m).ownBlock=some g∨w.heap.size<=g by intro g d;rcases aG.o with h|h;exact aq.o g (by rw[<-h];exact d);right;rw[h]at d;injection d with d;simp at d;omega) ((((R.o.j ((D.o _).ac R.o.size)).grown ar.o (by have:=R.o.size;simp;omega) (λg d=>yi aU (R4.o.lt g d).1)).setCell (p:=⟨pb,1,none⟩) aY (.slice u (U.length+1) s)));clear aL ar aG;go_wp2_with fail;go_roundw
      case rel=>exact⟨k+1,u,s,U++[⟨t.var,n,k⟩],ql,qd,Nr,by simpa using P9.o,by simpa using R9.o,F9.o,by simpa using aA.o,by have:=F9.o.rest.size;omega,A9.o⟩
      case measure=>(simp;omega)
   have aV:(t.kind==2)=false:=by simpa using ak
   have HN:=Aa (show CI vs p.aa n (k+1)=U by rw[H.o,if_neg (λh=>ak h.1)]);cases aj:BA U t.var with
   |some x=>
    exact XU
   |none=>
    exact XU
  have aT:k=p.aa.length:=qd;subst aT;have hy:¬(p.aa.length:Int)<(p.aa.length:Int):=qd;go_wp2_with fail;go_end0;refine⟨rfl,?_,aw.o,AR.o⟩;rw[HU.o];exact⟨af,ah,PR.o,OR.o,aq.o⟩
def Iu(fn first cap w):(Instr.makeFunc fn first cap).run prog w=.ok (.func fn first cap) w:=rfl
def JM(w:World)(a:Option Addr)(fs:List F):Prop:=∀(i:Nat)(f:F),fs[i]?=some f->∃b o pv,a=some ⟨b,o,none⟩/\w.cell? ⟨b,o+i,none⟩=some pv/\Ee w pv f
def JM.J{w w' a fs}(h:JM w a fs)(c:Bw w w'):JM w' a fs:=by
 intro i f d;obtain⟨b,o,pv,e,j,g⟩:=h i f d;exact⟨b,o,pv,e,zab c j,g.J c⟩
structure Mw(w:World) (cb tb:Nat) (ng ct nd p0 p1 p2:Value) (ta:Option Addr) (n tc:Nat):Prop where
 c0:w.cell? ⟨cb,0,none⟩=some ng
 c1:w.cell? ⟨cb,1,none⟩=some ct
 c2:w.cell? ⟨cb,2,none⟩=some nd
 c3:w.cell? ⟨cb,3,none⟩=some (.slice ta n tc)
 t0:w.cell? ⟨tb,0,none⟩=some p0
 t1:w.cell? ⟨tb,1,none⟩=some p1
 t2:w.cell? ⟨tb,2,none⟩=some p2
def Mw.J{w w' cb k g d e c j f i n b}(h:Mw w cb k g d e c j f i n b)(a:Bw w w'):Mw w' cb k g d e c j f i n b:=
 ⟨zab a h.c0,zab a h.c1,zab a h.c2,zab a h.c3,zab a h.t0,zab a h.t1,zab a h.t2⟩
def znh(cb n k q j g c b d ts i m T f w)(s:Mw w cb n k q j g c b i ts.length m)(Y:DQ w i ts)(l:Ej w g c b T)(r:Ee w d f)(hl:ts.length<=1048576)(a:∀t∈ts,t.fits T f) :
  Ca 172 #[d,Pn cb,Pn n] w λe w'=>e=.returned (.bool (ts.all (Aq T f)))/\Bw w w':=by
 have p:=Aa (MQ k q j g c b d ts i m T f w Y l r hl a);obtain⟨v,A,B,y,z,u,t2⟩:=s;clear Y l r a;go_enter func172,ntmps172;go_wp2_with fail;refine p.o.an λx O=>?_;have B1:=Aa O;clear p O;exact XG
def zki(cb l u C A m j p ts i y T fs fa fc w)(z:Mw w cb l u C A m j p i ts.length y)(x:DQ w i ts)(s:Ej w m j p T)(B:JM w fa fs)(hl:ts.length<=1048576)(aq:fs.length<=1048576)(a:∀f∈fs,∀t∈ts,t.fits T f) :
  Ca 237 #[.slice fa fs.length fc,.func (.func 172) #[] #[.pointer (some ⟨cb,0,none⟩),.pointer (some ⟨l,0,none⟩)]] w λe w'=>(∃n:Int,e=.returned (.int .i64 n)/\decide (0<=n)=fs.any (λf=>ts.all (Aq T f)))/\Bw w w':=by
 obtain⟨G,H,L,K,U⟩:=DU z x s B a;clear z x s B a;go_enter func237,ntmps237;go_wp2_with fail
 go_loopw [8] (λiv wr=>∃(k:Nat),iv=.int .i64 (k:Int)/\k<=fs.length/\fs.any (λf=>ts.all (Aq T f))=(fs.drop k).any (λf=>ts.all (Aq T f))/\Bw w wr) (mz fs.length)
 case atStart=>exact⟨0,rfl,yA _,rfl,Aj⟩
 case round=>
  obtain⟨k,rfl,W,D,E⟩:=hrel;obtain⟨q,O⟩:=Ak D E;clear D E;by_cases I:k<fs.length
  .obtain⟨f,d⟩:=AJ I;obtain⟨fb,Z,pv,rfl,y0,v⟩:=(K.o.J O.o) k f d;obtain⟨g,b⟩:=Ak (show fs.any (λf=>ts.all (Aq T f))=(ts.all (Aq T f)||(fs.drop (k+1)).any (λf=>ts.all (Aq T f))) by rw[q.o,Ck d,KI]) (znh cb l u C A m j p pv ts i y T f wr (G.o.J O.o) (H.o.J O.o) (L.o.J O.o) v hl (U.o f (yd d)));have R:(0:Int)<=(k:Int):=qd;have z1:(k:Int)<(fs.length:Int):=qd;clear d v q;cases c:ts.all (Aq T f)
   .have HN:=Aa (show fs.any (λf=>ts.all (Aq T f))=(fs.drop (k+1)).any (λf=>ts.all (Aq T f)) by rw[g.o,c];rfl);rw[c]at b;clear c g;go_wp2_with fail;refine b.o.an λM Y=>?_;have r:=Aa (O.o.aj Y);clear Y b;go_wp2_with fail;go_roundw
    case rel=>exact⟨k+1,ql,qd,HN.o,r.o⟩
    case measure=>(simp;omega)
   have HN:=Aa (show fs.any (λf=>ts.all (Aq T f))=true by rw[g.o,c];rfl);rw[c]at b;clear c g;go_wp2_with fail;refine b.o.an λM Y=>?_;have r:=Aa (O.o.aj Y);clear Y b;go_wp2_with fail;go_ret;exact⟨⟨k,rfl,by rw[HN.o];exact decide_eq_true R⟩,r.o⟩
  have N:k=fs.length:=qd;subst N;have HN:=Aa (show fs.any (λf=>ts.all (Aq T f))=false by rw[q.o,yD AA];rfl);have hy:¬(fs.length:Int)<(fs.length:Int):=qd;go_wp2_with fail;go_ret;exact⟨⟨-1,rfl,OW⟩,O.o⟩
def zgI(cb d l r k g c b ts i p T fs fa fc w)(s:Mw w cb d l r k g c b i ts.length p)(Y:DQ w i ts)(m:Ej w g c b T)(u:JM w fa fs)(hl:ts.length<=1048576)(v:fs.length<=1048576)(a:∀f∈fs,∀t∈ts,t.fits T f) :
  Ca 171 #[.slice fa fs.length fc,.func (.func 172) #[] #[Pn cb,Pn d]] w λe w'=>e=.returned (.bool (fs.any (λf=>ts.all (Aq T f))))/\Bw w w':=by
 have q:=Aa (zki cb d l r k g c b ts i p T fs fa fc w s Y m u hl v a);clear s Y m u a;go_enter func171,ntmps171;go_wp2_with fail;refine q.o.ac ?_;rintro e z ⟨⟨n,rfl,j⟩,O⟩;obtain⟨x,y⟩:=Ak O j;clear q O j;go_wp2_with fail;go_ret;exact⟨AE y.o,x.o⟩
def zoH(i k d c g nb ts b j T fs fa fc w)(p:At w nb 4 (.slice fa fs.length fc))(q:DQ w b ts)(s:Ej w d c g T)(r:JM w fa fs)(hl:ts.length<=1048576)(u:fs.length<=1048576)(a:∀f∈fs,∀t∈ts,t.fits T f) :
  Ca 111 #[.agg #[i,k,Pn nb,.slice b ts.length j],.agg #[d,c,g]] w λe w'=>e=.returned (.bool (fs.any (λf=>ts.all (Aq T f))))/\Bw w w':=by
 obtain⟨z,E,D,G⟩:=BE q s r a;have K:=Iu;clear q s r a;go_enter func111,ntmps111;go_upto_region 1 with fail;refine Bo ?_;intro w0 O n l;obtain⟨H,C,I,v⟩:=AO n;obtain⟨y,A,t2⟩:=Ao l;obtain⟨x,B⟩:=Ak (show Mw w0 w.heap.size (w.heap.size+1) i k (Pn nb) d c g b ts.length j from⟨H,C,I,v,y,A,t2⟩) O;have M:=zab O p;have m:=Aa (zgI w.heap.size (w.heap.size+1) i k (Pn nb) d c g ts b j T fs fa fc w0 x.o (z.o.J O) (E.o.J O) (D.o.J O) hl u G.o);clear O n l p;go_wp2_with fail;refine m.o.an λL Y=>?_;have B1:=Aa (B.o.aj Y);clear m Y;exact XG
def Ly(i:Int)(n:Nat):Bool:=decide (0<=i)&&decide (i<(n:Int))
def GM(vs:List V)(i:Int):Option V:=if 0<=i then vs[i.toNat]? else none
def EG(t:Tt)(vs:List V):Bool:=
 match GM vs t.slot with
 |none=>false
 |some v=>if t.other = -1 then A2 t.op v t.val else match GM vs t.other with
  |none=>false
  |some o=>A2 t.op v o
def Ae(a:Al)(f:F):Bool:=decide (f.ak.toList=a.ak.toList)&&(decide ((f.ad.length:Int)=a.arity)&&a.ah.all (λt=>EG t f.ad))
def ir{vs i}(h:Ly i vs.length=false):GM vs i=none:=by simp_all[V,Ly,GM]
def gY{vs i}(h:Ly i vs.length=true):∃(s:Nat)(v:V),i=(s:Int)/\s<vs.length/\vs[s]?=some v/\GM vs i=some v:=by
 simp only[Ly,yk,decide_eq_true_eq]at h;obtain⟨s,rfl⟩:=Ym h.1;have a:s<vs.length:=qd;refine⟨s,vs[s],rfl,a,qe,?_⟩;unfold GM;rw[if_pos h.1];simp
def gk(f:F)(a c i w) :
  Ca 276 #[.agg #[I6 f.tag,.string f.ak,.slice a f.ad.length c],I6 i] w λe w'=>
   e=.returned (.bool (Ly i f.ad.length))/\Bw w w':=by
 by_cases O:0<=i
 .go_enter func276,ntmps276;go_wp2;go_ret;exact⟨AE (by simp[Ly,O]),Af⟩
 go_enter func276,ntmps276;go_wp2;go_ret;exact⟨AE (by simp[Ly];omega),Af⟩
def nR{P:Prop}(h:P:=by go_wp2;go_ret;exact⟨AE HN.o.ai,((B2 _ _).j (O.ac (by simp;omega))).drew.j (hb'.ac (by have:=(B2 default default).size;have:=O.size;simp at *;omega))⟩):P:=h
def h9(t)(f:F)(a c w)(hv:Bj w a f.ad) :
  Ca 253 #[.agg #[.int .i64 t.slot,.int .i64 t.op,.int .i64 t.other,.int .i64 t.val.kind,.int .i64 t.val.num,.string t.val.av],.agg #[.int .i64 f.tag,.string f.ak,.slice a f.ad.length c]] w λe w'=>
   e=.returned (.bool (EG t f.ad))/\Below w.heap.size w w':=by
 have B2:∀o Z,Below w.heap.size w ((w.alloc o).alloc Z):=λo Z=>((Yw _ _).alloc (yX _) _).alloc qe _;have Y:=Aa (λw'=>gk f a c t.slot w');cases n:Ly t.slot f.ad.length
 .rw[n]at Y;have HN:Hid (EG t f.ad=false):=show EG t f.ad=false from by simp[EG,ir n]
  go_enter func253,ntmps253;go_wp2_with (go_at_call 276;refine(Y.o _).an λd O=>?_);go_ret;exact⟨AE HN.o.ai,(B2 _ _).j (O.ac qg)⟩
 rw[n]at Y;obtain⟨s,v,es,m,ai,q⟩:=gY n;obtain⟨b,o,rfl,z,y,A⟩:=hv s v ai;have z0:(0:Int)<=(s:Int):=qd;have z1:(s:Int)<(f.ad.length:Int):=qd;by_cases p:t.other = -1
 .have HN:Hid (EG t f.ad=A2 t.op v t.val):=show EG t f.ad=_ from by simp[EG,q,p]
  have D:=Aa (λw'=>Vi v t.val t.op w');rw[es,p];rw[es]at Y;clear es q ai hv;go_enter func253,ntmps253;go_wp2_with (go_at_call 276;refine(Y.o _).an λd O=>?_;have J:d.cell? ⟨w.heap.size,0,none⟩=some (.int .i64 (s:Int)):=zab O qk;have I:d.cell? ⟨w.heap.size,1,none⟩=some (.int .i64 t.op):=zab O qk;have U:d.cell? ⟨w.heap.size,2,none⟩=some (.int .i64 (-1)):=zab O qk;have R:d.cell? ⟨w.heap.size,3,none⟩=some (.int .i64 t.val.kind):=zab O qk;have p4:d.cell? ⟨w.heap.size,4,none⟩=some (.int .i64 t.val.num):=zab O qk;have p5:d.cell? ⟨w.heap.size,5,none⟩=some (.string t.val.av):=zab O qk;have f0:d.cell? ⟨w.heap.size+1,0,none⟩=some (.int .i64 f.tag):=zab O qk;have T:d.cell? ⟨w.heap.size+1,1,none⟩=some (.string f.ak):=zab O qk;have f2:d.cell? ⟨w.heap.size+1,2,none⟩=some (.slice (some ⟨b,o,none⟩) f.ad.length c):=zab O qk;have x0:=zab O (zab (B2 _ _) z);have x1:=zab O (zab (B2 _ _) y);have W:=zab O (zab (B2 _ _) A));clear z y A p n m Y
  first
  |(go_region_held3 (λw'=>w'.cell? ⟨w.heap.size,0,none⟩=some (.int .i64 (s:Int))/\w'.cell? ⟨w.heap.size,1,none⟩=some (.int .i64 t.op)/\w'.cell? ⟨w.heap.size,2,none⟩=some (.int .i64 (-1))/\w'.cell? ⟨w.heap.size,3,none⟩=some (.int .i64 t.val.kind)/\w'.cell? ⟨w.heap.size,4,none⟩=some (.int .i64 t.val.num)/\w'.cell? ⟨w.heap.size,5,none⟩=some (.string t.val.av)/\w'.cell? ⟨w.heap.size+1,0,none⟩=some (.int .i64 f.tag)/\w'.cell? ⟨w.heap.size+1,1,none⟩=some (.string f.ak)/\w'.cell? ⟨w.heap.size+1,2,none⟩=some (.slice (some ⟨b,o,none⟩) f.ad.length c)/\w'.cell? ⟨b,o+s*3,none⟩=some (.int .i64 v.kind)/\w'.cell? ⟨b,o+s*3+1,none⟩=some (.int .i64 v.num)/\w'.cell? ⟨b,o+s*3+2,none⟩=some (.string v.av)) ((go_split_ands;refine⟨?_,?_,?_,?_,?_,?_,?_,?_,?_,?_,?_,?_⟩<;>first|(simp[*];done)|exact zab hb' qj)) (first|(go_at_call 173;refine(D.o _).an λw' hb'=>?_)|fail))
  |fail
  exact nR
 have k:=Aa (λw'=>gk f (some ⟨b,o,none⟩) c t.other w');cases x:Ly t.other f.ad.length
 .rw[x]at k;have HN:Hid (EG t f.ad=false):=show EG t f.ad=_ from by simp[EG,q,p,ir x]
  rw[es];rw[es]at Y;clear es q ai hv;go_enter func253,ntmps253;go_wp2_with (go_at_call 276;refine(Y.o _).an λd O=>?_;have J:d.cell? ⟨w.heap.size,0,none⟩=some (.int .i64 (s:Int)):=zab O qk;have I:d.cell? ⟨w.heap.size,1,none⟩=some (.int .i64 t.op):=zab O qk;have U:d.cell? ⟨w.heap.size,2,none⟩=some (.int .i64 t.other):=zab O qk;have R:d.cell? ⟨w.heap.size,3,none⟩=some (.int .i64 t.val.kind):=zab O qk;have p4:d.cell? ⟨w.heap.size,4,none⟩=some (.int .i64 t.val.num):=zab O qk;have p5:d.cell? ⟨w.heap.size,5,none⟩=some (.string t.val.av):=zab O qk;have f0:d.cell? ⟨w.heap.size+1,0,none⟩=some (.int .i64 f.tag):=zab O qk;have T:d.cell? ⟨w.heap.size+1,1,none⟩=some (.string f.ak):=zab O qk;have f2:d.cell? ⟨w.heap.size+1,2,none⟩=some (.slice (some ⟨b,o,none⟩) f.ad.length c):=zab O qk;have x0:=zab O (zab (B2 _ _) z);have x1:=zab O (zab (B2 _ _) y);have W:=zab O (zab (B2 _ _) A));clear z y A p n x m Y;refine wp_region_noPanic ?_;refine wp_region_held_drew (S:=(λw'=>w'.cell? ⟨w.heap.size,0,none⟩=some (.int .i64 (s:Int))/\w'.cell? ⟨w.heap.size,1,none⟩=some (.int .i64 t.op)/\w'.cell? ⟨w.heap.size,2,none⟩=some (.int .i64 t.other)/\w'.cell? ⟨w.heap.size,3,none⟩=some (.int .i64 t.val.kind)/\w'.cell? ⟨w.heap.size,4,none⟩=some (.int .i64 t.val.num)/\w'.cell? ⟨w.heap.size,5,none⟩=some (.string t.val.av)/\w'.cell? ⟨w.heap.size+1,0,none⟩=some (.int .i64 f.tag)/\w'.cell? ⟨w.heap.size+1,1,none⟩=some (.string f.ak)/\w'.cell? ⟨w.heap.size+1,2,none⟩=some (.slice (some ⟨b,o,none⟩) f.ad.length c)/\w'.cell? ⟨b,o+s*3,none⟩=some (.int .i64 v.kind)/\w'.cell? ⟨b,o+s*3+1,none⟩=some (.int .i64 v.num)/\w'.cell? ⟨b,o+s*3+2,none⟩=some (.string v.av))) qf ?_ (λhHeld=>?_)
  ·(try dsimp only);(go_split_ands;refine⟨?_,?_,?_,?_,?_,?_,?_,?_,?_,?_,?_,?_⟩<;>first|(simp[*];done)|exact zab hb' qj)
  refine wpAnyH_take (i:=0) (oi:=?oi1) (v:=?v1) ?hi1 qf qf qf (λ_ _ _ h=>h) (Or.inl ⟨?wd1,?hy1⟩) hHeld ?rest1
  case hi1=>(simp only[yj,yC];rfl)
  case wd1=>rfl
  case hy1=>(intro w g;(try dsimp only at g);go_simp;try with_reducible rfl)
  (try simp only[Act.put,yq,yI,yG]);refine wpAnyH_take (i:=1) (oi:=?oi2) (v:=?v2) ?hi2 qf qf qf (λ_ _ _ h=>h) (Or.inl ⟨?wd2,?hy2⟩) hHeld ?rest2
  case hi2=>(simp only[yj,yw,yC];rfl)
  case wd2=>rfl
  case hy2=>(intro w g;(try dsimp only at g);go_simp;try with_reducible rfl)
  (try simp only[Act.put,yq,yI,yG]);refine wpAnyH_take (i:=2) (oi:=?oi3) (v:=?v3) ?hi3 qf qf qf (λ_ _ _ h=>h) (Or.inl ⟨?wd3,?hy3⟩) hHeld ?rest3
  case hi3=>(simp only[yj,yw,yC];rfl)
  case wd3=>rfl
  case hy3=>(intro w g;(try dsimp only at g);go_simp;try with_reducible rfl)
  (try simp only[Act.put,yq,yI,yG]);refine r1 3 λK M=>?_;go_simp;(go_at_call 276;refine(k.o _).an λw' hb'=>?_);(try go_wp2_with fail);refine M.o _ _ (by(try dsimp only);(go_split_ands;refine⟨?_,?_,?_,?_,?_,?_,?_,?_,?_,?_,?_,?_⟩<;>first|(simp[*];done)|exact zab hb' qj)) λN=>?_;replace hHeld:=N;clear M K N;(try simp only[Act.put,yq,yI,yG]);refine wpAnyH_take (i:=4) (oi:=?oi5) (v:=?v5) ?hi5 qf qf qf (λ_ _ _ h=>h) (Or.inl ⟨?wd5,?hy5⟩) hHeld ?rest5
  case hi5=>(simp only[yj,yw,yC];rfl)
  case wd5=>rfl
  case hy5=>(intro w g;(try dsimp only at g);go_simp;try with_reducible rfl)
  (try simp only[Act.put,yq,yI,yG]);refine wpAnyH_take (i:=5) (oi:=?oi6) (v:=undef) ?hi6 qf qf qf (λ_ _ _ h=>h) (Or.inr ⟨?wd6,rfl⟩) hHeld ?rest6
  case hi6=>(simp only[yj,yw,yC];rfl)
  case wd6=>rfl
  (try simp only[Act.put,yq,yI,yG]);refine wpAnyH_take (i:=6) (oi:=?oi7) (v:=undef) ?hi7 qf qf qf (λ_ _ _ h=>h) (Or.inr ⟨?wd7,rfl⟩) hHeld ?rest7
  case hi7=>(simp only[yj,yw,yC];rfl)
  case wd7=>rfl
  (try simp only[Act.put,yq,yI,yG]);refine wpAnyH_take (i:=7) (oi:=?oi8) (v:=undef) ?hi8 qf qf qf (λ_ _ _ h=>h) (Or.inr ⟨?wd8,rfl⟩) hHeld ?rest8
  case hi8=>(simp only[yj,yw,yC];rfl)
  case wd8=>rfl
  (try simp only[Act.put,yq,yI,yG]);refine wpAnyH_take (i:=8) (oi:=?oi9) (v:=undef) ?hi9 qf qf qf (λ_ _ _ h=>h) (Or.inr ⟨?wd9,rfl⟩) hHeld ?rest9
  case hi9=>(simp only[yj,yw,yC];rfl)
  case wd9=>rfl
  (try simp only[Act.put,yq,yI,yG]);refine wpAnyH_take (i:=9) (oi:=?oi10) (v:=undef) ?hi10 qf qf qf (λ_ _ _ h=>h) (Or.inr ⟨?wd10,rfl⟩) hHeld ?rest10
  case hi10=>(simp only[yj,yw,yC];rfl)
  case wd10=>rfl
  (try simp only[Act.put,yq,yI,yG]);refine wpAnyH_take (i:=10) (oi:=?oi11) (v:=undef) ?hi11 qf qf qf (λ_ _ _ h=>h) (Or.inr ⟨?wd11,rfl⟩) hHeld ?rest11
  case hi11=>(simp only[yj,yw,yC];rfl)
  case wd11=>rfl
  (try simp only[Act.put,yq,yI,yG]);refine wpAnyH_take (i:=11) (oi:=?oi12) (v:=undef) ?hi12 qf qf qf (λ_ _ _ h=>h) (Or.inr ⟨?wd12,rfl⟩) hHeld ?rest12
  case hi12=>(simp only[yj,yw,yC];rfl)
  case wd12=>rfl
  (try simp only[Act.put,yq,yI,yG]);refine wpAnyH_take (i:=12) (oi:=?oi13) (v:=undef) ?hi13 qf qf qf (λ_ _ _ h=>h) (Or.inr ⟨?wd13,rfl⟩) hHeld ?rest13
  case hi13=>(simp only[yj,yw,yC];rfl)
  case wd13=>rfl
  (try simp only[Act.put,yq,yI,yG]);refine wpAnyH_take (i:=13) (oi:=?oi14) (v:=undef) ?hi14 qf qf qf (λ_ _ _ h=>h) (Or.inr ⟨?wd14,rfl⟩) hHeld ?rest14
  case hi14=>(simp only[yj,yw,yC];rfl)
  case wd14=>rfl
  (try simp only[Act.put,yq,yI,yG]);refine wpAnyH_take (i:=14) (oi:=?oi15) (v:=undef) ?hi15 qf qf qf (λ_ _ _ h=>h) (Or.inr ⟨?wd15,rfl⟩) hHeld ?rest15
  case hi15=>(simp only[yj,yw,yC];rfl)
  case wd15=>rfl
  (try simp only[Act.put,yq,yI,yG]);refine wpAnyH_take (i:=15) (oi:=?oi16) (v:=undef) ?hi16 qf qf qf (λ_ _ _ h=>h) (Or.inr ⟨?wd16,rfl⟩) hHeld ?rest16
  case hi16=>(simp only[yj,yw,yC];rfl)
  case wd16=>rfl
  (try simp only[Act.put,yq,yI,yG]);refine wpAnyH_take (i:=16) (oi:=?oi17) (v:=undef) ?hi17 qf qf qf (λ_ _ _ h=>h) (Or.inr ⟨?wd17,rfl⟩) hHeld ?rest17
  case hi17=>(simp only[yj,yw,yC];rfl)
  case wd17=>rfl
  (try simp only[Act.put,yq,yI,yG]);refine wpAnyH_take (i:=17) (oi:=?oi18) (v:=undef) ?hi18 qf qf qf (λ_ _ _ h=>h) (Or.inr ⟨?wd18,rfl⟩) hHeld ?rest18
  case hi18=>(simp only[yj,yw,yC];rfl)
  case wd18=>rfl
  (try simp only[Act.put,yq,yI,yG]);refine wpAnyH_take (i:=18) (oi:=?oi19) (v:=undef) ?hi19 qf qf qf (λ_ _ _ h=>h) (Or.inr ⟨?wd19,rfl⟩) hHeld ?rest19
  case hi19=>(simp only[yj,yw,yC];rfl)
  case wd19=>rfl
  (try simp only[Act.put,yq,yI,yG]);refine wpAnyH_take (i:=19) (oi:=?oi20) (v:=undef) ?hi20 qf qf qf (λ_ _ _ h=>h) (Or.inr ⟨?wd20,rfl⟩) hHeld ?rest20
  case hi20=>(simp only[yj,yw,yC];rfl)
  case wd20=>rfl
  (try simp only[Act.put,yq,yI,yG]);refine wpAnyH_take (i:=20) (oi:=?oi21) (v:=?v21) ?hi21 qf qf qf (λ_ _ _ h=>h) (Or.inl ⟨?wd21,?hy21⟩) hHeld ?rest21
  case hi21=>(simp only[yj,yw,yC];rfl)
  case wd21=>rfl
  case hy21=>(intro w g;(try dsimp only at g);go_simp;try with_reducible rfl)
  (try simp only[Act.put,yq,yI,yG]);refine wpAnyH_take (i:=21) (oi:=?oi22) (v:=?v22) ?hi22 qf qf qf (λ_ _ _ h=>h) (Or.inl ⟨?wd22,?hy22⟩) hHeld ?rest22
  case hi22=>(simp only[yj,yw,yC];rfl)
  case wd22=>rfl
  case hy22=>(intro w g;(try dsimp only at g);go_simp;try with_reducible rfl)
  (try simp only[Act.put,yq,yI,yG]);refine wpAnyH_done qf ?_ _;refine Yf ?_;exact nR
 rw[x]at k;obtain⟨r,u,C,ao,ak,am⟩:=gY x;obtain⟨b2,o2,e2,H,L,G⟩:=hv r u ak;cases e2;have HN:Hid (EG t f.ad=A2 t.op v u):=show EG t f.ad=_ from by simp[EG,q,p,am]
 have D:=Aa (λw'=>Vi v u t.op w');have y0:(0:Int)<=(r:Int):=qd;have y1:(r:Int)<(f.ad.length:Int):=qd;have y2:((r:Int)==-1)=false:=qe;rw[C]at k;rw[es,C];rw[es]at Y;clear es q ai hv C am ak p;go_enter func253,ntmps253;go_wp2_with (go_at_call 276;refine(Y.o _).an λd O=>?_;have J:d.cell? ⟨w.heap.size,0,none⟩=some (.int .i64 (s:Int)):=zab O qk;have I:d.cell? ⟨w.heap.size,1,none⟩=some (.int .i64 t.op):=zab O qk;have U:d.cell? ⟨w.heap.size,2,none⟩=some (.int .i64 (r:Int)):=zab O qk;have R:d.cell? ⟨w.heap.size,3,none⟩=some (.int .i64 t.val.kind):=zab O qk;have p4:d.cell? ⟨w.heap.size,4,none⟩=some (.int .i64 t.val.num):=zab O qk;have p5:d.cell? ⟨w.heap.size,5,none⟩=some (.string t.val.av):=zab O qk;have f0:d.cell? ⟨w.heap.size+1,0,none⟩=some (.int .i64 f.tag):=zab O qk;have T:d.cell? ⟨w.heap.size+1,1,none⟩=some (.string f.ak):=zab O qk;have f2:d.cell? ⟨w.heap.size+1,2,none⟩=some (.slice (some ⟨b,o,none⟩) f.ad.length c):=zab O qk;have x0:=zab O (zab (B2 _ _) z);have x1:=zab O (zab (B2 _ _) y);have W:=zab O (zab (B2 _ _) A);have v0:=zab O (zab (B2 _ _) H);have v1:=zab O (zab (B2 _ _) L);have v2:=zab O (zab (B2 _ _) G));clear z y A H L G n x m ao Y y2
 first
 |(go_region_held3 (λw'=>w'.cell? ⟨w.heap.size,0,none⟩=some (.int .i64 (s:Int))/\w'.cell? ⟨w.heap.size,1,none⟩=some (.int .i64 t.op)/\w'.cell? ⟨w.heap.size,2,none⟩=some (.int .i64 (r:Int))/\w'.cell? ⟨w.heap.size,3,none⟩=some (.int .i64 t.val.kind)/\w'.cell? ⟨w.heap.size,4,none⟩=some (.int .i64 t.val.num)/\w'.cell? ⟨w.heap.size,5,none⟩=some (.string t.val.av)/\w'.cell? ⟨w.heap.size+1,0,none⟩=some (.int .i64 f.tag)/\w'.cell? ⟨w.heap.size+1,1,none⟩=some (.string f.ak)/\w'.cell? ⟨w.heap.size+1,2,none⟩=some (.slice (some ⟨b,o,none⟩) f.ad.length c)/\w'.cell? ⟨b,o+s*3,none⟩=some (.int .i64 v.kind)/\w'.cell? ⟨b,o+s*3+1,none⟩=some (.int .i64 v.num)/\w'.cell? ⟨b,o+s*3+2,none⟩=some (.string v.av)/\w'.cell? ⟨b,o+r*3,none⟩=some (.int .i64 u.kind)/\w'.cell? ⟨b,o+r*3+1,none⟩=some (.int .i64 u.num)/\w'.cell? ⟨b,o+r*3+2,none⟩=some (.string u.av)) ((go_split_ands;refine⟨?_,?_,?_,?_,?_,?_,?_,?_,?_,?_,?_,?_,?_,?_,?_⟩<;>first|(simp[*];done)|exact zab hb' qj)) (first|(go_at_call 276;refine(k.o _).an λw' hb'=>?_)|(go_at_call 173;refine(D.o _).an λaq E=>?_;have B:=hb';have hb':=E)|fail))
 |fail
 go_wp2;go_ret;exact⟨AE HN.o.ai,(((B2 _ _).j (O.ac qg)).drew.j (B.ac (by have:=(B2 default default).size;have:=O.size;simp at *;omega))).j (E.ac (by have:=(B2 default default).size;have:=O.size;have:=B.size;simp at *;omega))⟩
end
def wZ{x f}(h:¬f.ak.toList=x.ak.toList):Ae x f=false:=by simp[Ae,h]
def wU{x f}(h:¬(f.ad.length:Int)=x.arity):Ae x f=false:=by simp[Ae,h]
def zr{x f}(h:f.ak.toList=x.ak.toList)(O:(f.ad.length:Int)=x.arity):Ae x f=x.ah.all (λt=>EG t f.ad):=by simp[Ae,h,O]
def Rk(w:World)(b:Nat)(f:F)(a:Option Addr)(c:Nat):Prop:=w.cell? ⟨b,0,none⟩=some (.int .i64 f.tag)/\w.cell? ⟨b,1,none⟩=some (.string f.ak)/\w.cell? ⟨b,2,none⟩=some (.slice a f.ad.length c)
def Rk.J{w w' b f a c}(h:Rk w b f a c)(d:Bw w w'):Rk w' b f a c:=⟨zab d h.1,zab d h.2.1,zab d h.2.2⟩
def zp0(x a_tests c_tests f a c){q}(w)(A:EC q w a_tests x.ah)(hv:Bj w a f.ad)(hl:x.ah.length<=1048576) :
  Ca 209 #[.agg #[.string x.ak,.int .i64 x.arity,.slice a_tests x.ah.length c_tests],.agg #[.int .i64 f.tag,.string f.ak,.slice a f.ad.length c]] w λe w'=>
   e=.returned (.bool (Ae x f))/\Bw w w':=by
 by_cases m:f.ak.toList=x.ak.toList
 .by_cases d:(f.ad.length:Int)=x.arity
  .have v:Hid (Ae x f=x.ah.all (λt=>EG t f.ad)):=zr m d;have p:((f.ad.length:Int) != x.arity)=false:=by simp[d]
   go_enter func209,ntmps209;go_wp2;clear m d p
   go_loopw [23] (λi wr=>∃(k:Nat),k<=x.ah.length/\i=.int .i64 k/\Ae x f=(x.ah.drop k).all (λt=>EG t f.ad)/\Rk wr (w.heap.size+1) f a c/\Bw w wr) (mz x.ah.length)
   case atStart=>exact⟨0,qd,rfl,v.o,by refine⟨?_,?_,?_⟩<;>simp[go_sem],Ax⟩
   case round=>
    obtain⟨k,G,rfl,u,O,hb⟩:=hrel;obtain⟨HG,HBX⟩:=Ak u O;clear u;by_cases z:k<x.ah.length
    .obtain⟨t,n⟩:=AJ z;obtain⟨b,o,rfl,C,K,H,M,D,L,E⟩:=(A.J hb).get n;have r:Hid (x.ah.drop k=t::x.ah.drop (k+1)):=Ck n;obtain⟨y,s⟩:=Ak (λo=>(hv.J hb).J (Ez o)) (λw' h=>h9 t f a c w' h);have R:∀o,(wr.alloc o).cell? ⟨w.heap.size+1,0,none⟩=_:=λo=>zab (Ez o) O.1;have N:∀o,(wr.alloc o).cell? ⟨w.heap.size+1,1,none⟩=_:=λo=>zab (Ez o) O.2.1;have B:∀o,(wr.alloc o).cell? ⟨w.heap.size+1,2,none⟩=_:=λo=>zab (Ez o) O.2.2;clear O;cases g:EG t f.ad
     all_goals
      rw[g]at s;go_wp2_with (go_at_call 253;refine(s.o _ (y.o _)).an λI Y=>?_)
     .go_ret;exact⟨AE (by rw[HG.o,r.o,Y3,g];rfl),hb.j ((Af.aj Y).ac hb.size)⟩
     go_roundw
     case rel=>exact⟨k+1,qd,ql,by rw[HG.o,r.o,Y3,g];rfl,HBX.o.J (Af.aj Y),hb.j ((Af.aj Y).ac hb.size)⟩
     case measure=>(simp;omega)
    exact Qv
  have l:Hid (Ae x f=false):=wU d;have p:((f.ad.length:Int) != x.arity)=true:=by simp[d]
  go_enter func209,ntmps209;go_wp2;go_ret;exact⟨AE l.o.ai,Ax⟩
 have l:Hid (Ae x f=false):=wZ m;go_enter func209,ntmps209;go_wp2;go_ret;exact⟨AE l.o.ai,Ax⟩
section
attribute [local go_sem ↓] wp_at_zero wp_at_succ
structure CO(w:World) (nb:Nat) (x:Al) (a:Option Addr) (c:Nat):Prop where
 c0:w.cell? ⟨nb,0,none⟩=some (.string x.ak)
 c1:w.cell? ⟨nb,1,none⟩=some (.int .i64 x.arity)
 c2:w.cell? ⟨nb,2,none⟩=some (.slice a x.ah.length c)
 tt:EC none w a x.ah
def CO.J{w w' nb x a c}(h:CO w nb x a c)(b:Bw w w'):CO w' nb x a c:=⟨zab b h.c0,zab b h.c1,zab b h.c2,h.tt.J b⟩
def Qk(nb x a c j f w)(k:CO w nb x a c)(hF:Ee w j f)(hl:x.ah.length<=1048576) :
  Ca 152 #[Pn nb,j] w λe w'=>e=.returned (.bool (Ae x f))/\Bw w w':=by
 obtain⟨q,s,t,Y⟩:=k;obtain⟨b,o,rfl,p,n,sa,g,r,O⟩:=hF;obtain⟨l,D⟩:=Ak (λw'(h:Bw w w')=>zp0 x a c f sa g w' (Y.J h) (O.J h) hl) (Yw w.heap.size w);clear Y O;go_enter func152,ntmps152;go_wp2_with fail
 go_region_held3 (λw'=>At w' nb 0 (.string x.ak)/\At w' nb 1 (I6 x.arity)/\At w' nb 2 (.slice a x.ah.length c)/\At w' b o (I6 f.tag)/\At w' b (o+1) (.string f.ak)/\At w' b (o+2) (.slice sa f.ad.length g)/\Bw w w') ((go_split_ands;refine⟨?_,?_,?_,?_,?_,?_,?_⟩<;>first|(simp[*];done)|exact D.o.drew|exact zab d qj|exact Kn qj (Below.ac d (Below.size qj)))) (first|(go_at_call 209;refine(l.o _ (by first|exact D.o.drew|assumption)).an λw' d=>?_)|fail)
 rename_i i;have m:=Aa i.2.2.2.2.2.2;clear i;go_wp2_with fail;go_ret;exact⟨rfl,m.o⟩
structure Cn where
 neg:Bool
 at_:Nat
 node:Nat
 ah:List Jt
 aq:Al
 facts:List F
structure TM(w:World) (c:Cn) (ta:Option Addr):Prop where
 ah:DQ w ta c.ah
 node:∃a n,CO w c.node c.aq a n
 facts:∃fa fc,w.cell? ⟨c.node,4,none⟩=some (.slice fa c.facts.length fc)/\JM w fa c.facts
def TM.J{w w' c d}(h:TM w c d)(b:Bw w w'):TM w' c d:=by
 obtain⟨i,⟨a,n,f⟩,fa,fc,e,g⟩:=h;exact⟨i.J b,⟨a,n,f.J b⟩,fa,fc,zab b e,g.J b⟩
def Pb(w:World)(a:Option Addr)(cs:List Cn):Prop:=∀(i:Nat)(c:Cn),cs[i]?=some c->∃b o ta tc,a=some ⟨b,o,none⟩/\w.cell? ⟨b,o+i*4,none⟩=some (.bool c.neg)/\w.cell? ⟨b,o+i*4+1,none⟩=some (.int .i64 (c.at_:Int))/\w.cell? ⟨b,o+i*4+2,none⟩=some (.pointer (some ⟨c.node,0,none⟩))/\w.cell? ⟨b,o+i*4+3,none⟩=some (.slice ta c.ah.length tc)/\TM w c ta
def Pb.J{w w' a cs}(h:Pb w a cs)(d:Bw w w'):Pb w' a cs:=by
 intro i c j;obtain⟨b,o,n,g,e,O,m,k,f,l⟩:=h i c j;exact⟨b,o,n,g,e,zab d O,zab d m,zab d k,zab d f,l.J d⟩
def rF(c:Cn):Prop:=c.ah.length<=1048576/\c.facts.length<=1048576/\c.aq.ah.length<=1048576
end
def GU(T:List F)(v:Vr):V:=(((T[v.fact]?.map (·.ad)).getD [])[v.slot]?.getD (0,0,⟨#[]⟩))
def AG(T:List F)(vs:List Vr):List Bd:=vs.map (λv=>⟨v.name,GU T v⟩)
def OC(T s):∀vs:List Vr,CU (AG T vs) s=(BA vs s).map (GU T)
 |[]=>rfl
 |v::r=>by
  have O:=OC T s r
  unfold AG at O⊢
  rw[yn,MY,P7]
  by_cases h:v.name=s
  .rw[if_pos h,if_pos h];rfl
  rw[if_neg h,if_neg h];exact O
def Xb(s:ByteArray)(b:List Bd):∀a:List Bd,CU (a++b) s=(match CU a s with|some x=>some x|none=>CU b s)
 |[]=>rfl
 |x::r=>by
  rw[Ye,MY,MY]
  by_cases h:x.var=s
  .rw[if_pos h,if_pos h]
  rw[if_neg h,if_neg h];exact Xb s b r
def mN(name:ByteArray)(t:Tm):∀(l:List Tm)(k:Nat),Gz name (l++[t]) k=(match Gz name l k with|some j=>some j|none=>if Jh name t=true then some (k+l.length) else none)
 |[],k=>by
  rw[Yj,M_]
  simp[Gz]
 |x::r,k=>by
  rw[Ye,M_,M_]
  by_cases h:Jh name x=true
  .rw[if_pos h,if_pos h]
  rw[if_neg h,if_neg h,mN name t r (k+1),yH,show k+1+r.length=k+(r.length+1) by omega]
def Mc{ts:List Tm}{i:Nat}{t:Tm}(h:ts[i]?=some t)(name:ByteArray):Ai ts (i+1) name=(match Ai ts i name with|some j=>some j|none=>if Jh name t=true then some i else none):=by
 have a:i<ts.length:=(yf.1 h).1;unfold Ai;rw[yY,h];show Gz name (ts.take i++[t]) 0=_;rw[mN];simp[Xw (K9 a)]
def Cl(bs:List Bd)(ts:List Tm)(sl:List V):Nat->List Bd
 |0=>[]
 |i+1=>Cl bs ts sl i++(match ts[i]?,sl[i]? with|some t,some v=>if t.kind=2/\CU bs t.var=none/\Ai ts i t.var=none then [⟨t.var,v⟩] else []|_,_=>[])
def Sj{a ts b i t v}(h:ts[i]?=some t)(hv:b[i]?=some v):Cl a ts b (i+1)=Cl a ts b i++(if t.kind=2/\CU a t.var=none/\Ai ts i t.var=none then [⟨t.var,v⟩] else []):=by
 simp[Cl,h,hv]
def Ie{name t}:Jh name t=true↔t.kind=2/\t.var=name:=by
 unfold Jh;rw[EV];simp
def Qh{name}:∀{l:List Tm}{s k:Nat},Gz name l s=some k->k<s+l.length
 |[],_,_,h=>by simp[Gz]at h
 |t::r,s,k,h=>by
  rw[M_]at h
  split at h
  .injection h with h
   subst h
   simp
  have:=Qh h
  simp
  omega
def kr{d ts a}(hl:ts.length=a.length){name}(g:CU d name=none):∀i,i<=ts.length->CU (Cl d ts a i) name=(Ai ts i name).bind (λj=>a[j]?)
 |0,_=>by simp[Cl,CU,Ai,Gz]
 |i+1,hi=>by
  obtain⟨t,k⟩:∃t,ts[i]?=some t:=⟨ts[i],qe⟩
  obtain⟨v,hv⟩:∃v,a[i]?=some v:=⟨a[i],qe⟩
  have O:=kr hl g i qd
  rw[Sj k hv,Xb,O,Mc k]
  cases f:Ai ts i name with
  |some j=>
   have hj:j<ts.length:=by
    have:=Qh f;simp at this;omega
   simp[show j<a.length by omega]
  |none=>
   simp only[Option.bind_none];by_cases b:Jh name t=true
   .obtain⟨l,Y⟩:=Ie.1 b;subst Y;rw[if_pos ⟨l,g,f⟩,if_pos b,MY,if_pos rfl];simp[hv]
   rw[if_neg b];by_cases c:t.kind=2/\CU d t.var=none/\Ai ts i t.var=none
   .rw[if_pos c,MY,if_neg (λe=>b (Ie.2 ⟨c.1,e⟩))];rfl
   rw[if_neg c];rfl
end Go.Proofs.YtikojfajahnhgaaGreat
