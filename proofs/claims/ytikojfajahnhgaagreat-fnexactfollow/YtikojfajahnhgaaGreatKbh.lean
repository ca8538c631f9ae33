import Derived.Test.YtikojfajahnhgaaGreatKbg
import Derived.Test.YtikojfajahnhgaaGreatKax
import Derived.Test.YtikojfajahnhgaaGreatKba
set_option linter.all false
set_option maxHeartbeats 12800000
set_option maxRecDepth 100000
namespace Go.Proofs.YtikojfajahnhgaaGreat
attribute [local simp] At I6 Pn mzI
attribute [local go_sem] At I6 Pn
open Go.RowKit Go.Proofs.Tryz
section
attribute [local go_sem ↓] wp_at_zero wp_at_succ
def zX(l cb mb a T)(O:List Nat)(p:(a.map Prod.snd).Nodup)(w)(az:w.cell? ⟨l,0,none⟩=some (Cd a 0))(Z:w.cell? ⟨l,1,none⟩=some (.pointer (some ⟨cb,0,none⟩)))(aC:w.cell? ⟨cb,0,none⟩=some (.map (some mb)))(E:Ag w mb (uv T))(hb:T.length+O.sum<=1000000000)(A:O.length=a.length)(Y:∀(k:Nat)(n:Bool × Nat)(m:Nat),a[k]?=some n->O[k]?=some m->∃g L,w.cell? ⟨n.2,5,none⟩=some (.map (some g))/\Ag w g (uv L)/\L.length=m/\w.cell? ⟨n.2,4,none⟩=some (Cd a (k+1))) :
  Ca 304 #[.pointer (some ⟨l,0,none⟩)] w λe w'=>e=.returned (.int .i64 ((T.length:Int)-1+(O.sum:Int)))/\w'=w:=by
 obtain⟨R,C⟩:=Ak Y p;have B:=Uj (P:=prog) (ty:=3) EJ E;have q:(uv T).length=T.length:=by simp[uv]
 rw[q]at B;simp only[goInt]at B;have aB:IntKind.i64.wrap ((T.length:Int)-1)=(T.length:Int)-1:=by
  exact Nc
 clear Y p E q;go_enter func304,ntmps304;go_wp2_with fail
 go_loopw [3,4] (λc v wr=>∃k,k<=a.length/\v=Cd a k/\c=.int .i64 ((T.length:Int)-1+((O.take k).sum:Int))/\wr=w) (λ_ v _=>Pg a v)
 case atStart=>exact⟨0,yA _,rfl,qe,rfl⟩
 case round=>
  obtain⟨k,J,rfl,rfl,M⟩:=hrel;subst M;rcases Wx k a.length with hl|hl
  .obtain⟨⟨b,nb⟩,x⟩:∃n,a[k]?=some n:=⟨a[k],K2⟩
   obtain⟨m,z⟩:∃m,O[k]?=some m:=⟨O[k],by simp[hl,A]⟩
   obtain⟨g,L,t,s,d,D⟩:=R.o k (b,nb) m x z;obtain⟨i,r⟩:=Ak (RA C.o J) (RA C.o (show k+1<=a.length from hl));have hv:Cd a k=GV (b,nb):=by simp[Cd,x]
   have j:(O.take (k+1)).sum=(O.take k).sum+m:=by
    rw[yY,z];simp
   have N:(O.take (k+1)).sum<=O.sum:=by
    have:=congrArg List.sum (Yz (k+1) O);rw[Kj]at this;omega
   have y:=Aa (ziw nb g L _ t s);rw[d]at y;have G:=Aa (Vm nb (Cd a (k+1)) _ D);obtain⟨nx,f⟩:∃nx,nx=Cd a (k+1):=⟨_,rfl⟩
   rw[<-f]at G r;obtain⟨S,hS⟩:∃S,S=(O.take k).sum:=⟨_,rfl⟩
   rw[<-hS]at j⊢;have ay:IntKind.i64.wrap ((T.length:Int)-1+(S:Int)+(m:Int))=(T.length:Int)-1+(S:Int)+(m:Int):=by
    exact Nc
   rw[hv]at i⊢;obtain⟨K,I⟩:=Ak f j;clear f hv j hS s t D d N;cases b
   focus
    simp only[GV,YE,if_false]at i⊢;have W:=λu=>vz nb u;have H:=λu=>kq nb u
   rotate_left
   focus
    simp only[GV,if_true]at i⊢;have W:=λu=>uy nb u;have H:=λu=>lF nb u
   rotate_left
   all_goals
    go_wp2_with (first|(go_at_call 318;refine y.o.ac ?_;rintro e w2 ⟨rfl,rfl⟩)|(go_at_call 316;refine G.o.ac ?_;rintro e w3 ⟨rfl,rfl⟩)|fail);refine⟨⟨k+1,hl,K.o,?_,trivial⟩,?_⟩
    .rw[I.o];congr 1;omega
    have a1:=i.o;have a2:=r.o;omega
  obtain rfl:k=a.length:=qd;have hv:Cd a a.length=.nilIface:=by simp[Cd]
  rw[hv];have U:O.take a.length=O:=by rw[<-A,yW]
  rw[U];go_wp2_with fail;exact bodyPost_ret (by simp[results,results304,go_sem]) rfl ⟨rfl,rfl⟩
def xl(a p w)(h:At w a 1 (.pointer p)):Ca 302 #[Pn a] w λe w'=>e=.returned (.pointer p)/\w'=w:=by
 go_enter func302,ntmps302;go_wp2_with fail;exact bodyPost_ret (by simp[results,results302,go_sem]) rfl ⟨rfl,rfl⟩
end
section
open Go.Maps
attribute [local go_sem ↓] wp_at_zero wp_at_succ
structure SN where
 adr:F->Addr
 U:List F
 l:Nat
 pb:Nat
 yb:Nat
 sb:Nat
 xb:Nat
 ca:Option Addr
 cc:Nat
 vv:Value
 X:List Cx
 vw:Nat->Option Addr × Nat × List F
 sa:Int
 sf:Option F
 small:∀c∈X,c.cp.ah.length<=6
 X6:X.length<=6
 few:∀c∈X,(vw c.node).2.2.length<=1000
 sub:∀c∈X,∀f∈(vw c.node).2.2,f∈U
 sfU:∀f,sf=some f->f∈U
def Ed(adr:F->Addr)(vw:Nat->Option Addr × Nat × List F)(ca:Option Addr)(W:World)(k:Nat)(c:Cx):Prop:=
 ∃g,ca=some ⟨g,0,none⟩/\(W.cell? ⟨g,k*4,none⟩=some (.bool c.cp.neg)/\W.cell? ⟨g,k*4+1,none⟩=some (.int .i64 (c.cp.at_:Int))/\W.cell? ⟨g,k*4+2,none⟩=some (.pointer (some ⟨c.node,0,none⟩))/\W.cell? ⟨g,k*4+3,none⟩=some (.slice c.ta c.cp.ah.length c.tc))/\DQ W c.ta c.cp.ah/\W.cell? ⟨c.node,4,none⟩=some (.slice (vw c.node).1 (vw c.node).2.2.length (vw c.node).2.1)/\Jf W (vw c.node).1 (vw c.node).2.2 adr
def Ed.ck{adr vw ca u w k c}(h:Ed adr vw ca u k c)(a:CK u w):Ed adr vw ca w k c:=by
 obtain⟨g,e,⟨O,l,b,j⟩,d,f,i⟩:=h;exact⟨g,e,⟨a.cell O,a.cell l,a.cell b,a.cell j⟩,d.ck a,a.cell f,i.ck a⟩
structure Ho(Z:SN) (W:World):Prop where
 pl:W.heap[Z.pb]?=some (.cells #[.slice Z.ca Z.X.length Z.cc,Z.vv] 102 (0,0))
 yl:W.heap[Z.yb]?=some (.cells #[.func (.yield Z.l) #[] #[]] 192 (0,0))
 sd:W.heap[Z.sb]?=some (.cells #[.int .i64 Z.sa,.pointer (Z.sf.map Z.adr)] 108 (0,0))
 sr:W.heap[Z.xb]?=some (.cells #[.func (.func 109) #[] #[.pointer (some ⟨Z.pb,0,none⟩),.pointer (some ⟨Z.yb,0,none⟩),.pointer (some ⟨Z.sb,0,none⟩),.pointer (some ⟨Z.xb,0,none⟩)]] 193 (0,0))
 cx:∀(k:Nat)(c:Cx),Z.X[k]?=some c->Ed Z.adr Z.vw Z.ca W k c
 us:Bl Z.adr Z.U W
def Ho.ck{Z W d}(h:Ho Z W)(b:CK W d):Ho Z d:=⟨b _ _ _ _ h.pl,b _ _ _ _ h.yl,b _ _ _ _ h.sd,b _ _ _ _ h.sr,λk c e=>(h.cx k c e).ck b,h.us.ck b⟩
def Ho.ar{Z W a}(h:Ho Z W)(b:Bw W a):Ho Z a:=h.ck (CK.ab b)
def Ef(Z:SN)(k:Nat)(c:Cx):List F:=if Z.sa=(k:Int) then Z.sf.toList else(Z.vw c.node).2.2
def FB(Z:SN)(k:Nat)(c:Cx)(T:List F):Bool:=if Z.sa=(k:Int) then(match Z.sf with|some f=>c.cp.ah.all (Aq T f)|none=>true) else true
def Dz(Z:SN):Nat->List Cx->List F->List (List F)
 |_,[],T=>[T]
 |k,c::cs,T=>if c.cp.neg=true then(if FB Z k c T=true/\(Z.vw c.node).2.2.any (λf=>c.cp.ah.all (Aq T f))=false then Dz Z (k+1) cs T else []) else(Ef Z k c).flatMap (λf=>if c.cp.ah.all (Aq T f)=true then Dz Z (k+1) cs (T++[f]) else [])
def Jd(Z:SN):Nat->List Cx->List F->Prop
 |_,[],_=>True
 |k,c::cs,T=>c.cp.at_=T.length/\(c.cp.neg=false->T.length<3)/\(∀f∈(Z.vw c.node).2.2,∀t∈c.cp.ah,t.fits T f)/\(Z.sa=(k:Int)->∃f,Z.sf=some f/\∀t∈c.cp.ah,t.fits T f)/\(if c.cp.neg=true then Jd Z (k+1) cs T else∀f∈Ef Z k c,c.cp.ah.all (Aq T f)=true->Jd Z (k+1) cs (T++[f]))
def LE(Z:SN)(p0 p1 p2:Option Addr)(T:List F):Prop:=(p0,p1,p2)=Ab Z.adr T/\T.length<=3/\∀f∈T,f∈Z.U
def LE.tok{Z a c b T W}(h:LE Z a c b T)(hu:Bl Z.adr Z.U W):Ej W (.pointer a) (.pointer c) (.pointer b) T:=by
 have e:=h.1;simp only[Ab,YW]at e;rw[e.1,e.2.1,e.2.2];exact Oy hu h.2.2 h.2.1
def Ft(Z:SN):={T:List F // T.length<=3/\∀f∈T,f∈Z.U}
def Me{Z:SN}(x:Ft Z):Value:=AU (Ab Z.adr x.1)
def Mp(Z:SN)(J Jx:List (Ft Z)->World->Prop)(pre:List (Ft Z))(Ts:List (List F))(W:World)(e:Ending)(W':World):Prop:=
 (e=.returned (.bool true)/\∃ys:List (Ft Z),ys.map (λy=>y.1)=Ts/\J (pre++ys) W'/\CK W W')∨(e=.returned (.bool false)/\∃q,Jx q W')
def Mp.one{Z J d a f W e c}(h:Mp Z J d a f W e c):∃b:Bool,e=.returned (.bool b)/\Hid (b=true->∃ys:List (Ft Z),ys.map (λy=>y.1)=f/\J (a++ys) c/\CK W c)/\Hid (b=false->∃q,d q c):=by
 rcases h with⟨rfl,h⟩|⟨rfl,h⟩
 .exact⟨true,rfl,λ_=>h,λe=>qp⟩
 exact⟨false,rfl,λe=>qp,λ_=>h⟩
def S7(Z b d c T f w)(i:LE Z b d c T)(k:T.length<3)(l:f∈Z.U) :
  Ca 114 #[.agg #[.pointer b,.pointer d,.pointer c],I6 (T.length:Int),.pointer (some (Z.adr f))] w λe w'=>∃Y O j,e=.returned (.agg #[.pointer Y,.pointer O,.pointer j])/\Hid (LE Z Y O j (T++[f]))/\Bw w w':=by
 refine(SQ b d c (some (Z.adr f)) T.length w k).ac λe w' q=>?_;refine⟨(Ab Z.adr (T++[f])).1,(Ab Z.adr (T++[f])).2.1,(Ab Z.adr (T++[f])).2.2,?_,⟨rfl,qg,λg a=>?_⟩,q.2⟩
 .rw[q.1];have e:=i.1;simp only[Ab,YW]at e;rw[e.1,e.2.1,e.2.2,Vp Z.adr T f k];rfl
 rcases yr.1 a with a|a
 .exact i.2.2 g a
 rw[yv.1 a];exact l
def uB(k nb:Nat)(sa f d i ts fa n fc w)(b:At w nb 4 (.slice fa n fc))(c:¬sa=(k:Int)) :
  Ca 112 #[.agg #[I6 sa,.pointer f],I6 (k:Int),.agg #[d,i,Pn nb,ts]] w λe w'=>e=.returned (.slice fa n fc)/\Bw w w':=by
 have l:((k:Int)==sa)=false:=by simpa usingλe=>c e.ai
 clear c;go_enter func112,ntmps112;go_upto_region 1 with fail;refine Bo ?_;intro w0 O Y a;obtain⟨j,p⟩:=Ay Y;obtain⟨_,_,q,_⟩:=AO a;have m:=zab O b;have g:=Aa O;clear O Y a b;go_wp2_with fail;go_ret;exact⟨rfl,g.o⟩
def uN(k:Nat)(c i d f ts w) :
  Ca 112 #[.agg #[I6 (k:Int),.pointer c],I6 (k:Int),.agg #[i,d,f,ts]] w λe w'=>∃b,e=.returned (.slice (some ⟨b,0,none⟩) 1 1)/\At w' b 0 (.pointer c)/\Bw w w':=by
 go_enter func112,ntmps112;go_upto_region 1 with fail;refine Bo ?_;intro w0 Y O g;obtain⟨l,m⟩:=Ay O;have a:=Aa Y;clear Y O g;go_wp2_with fail;go_ret;exact⟨w0.heap.size,rfl,AF (L:=[_]) (heap_alloc_new w0 _) (j:=0) rfl,a.o.alloc a.o.size _⟩
def tD(k:Nat)(sa g d n b ts m j c w)(a:¬sa=(k:Int)) :
  Ca 110 #[.agg #[I6 sa,.pointer g],I6 (k:Int),.agg #[d,n,b,ts],.agg #[m,j,c]] w λe w'=>e=.returned (.bool false)/\Bw w w':=by
 have q:((k:Int)==sa)=false:=by simpa usingλe=>a e.ai
 clear a;go_enter func110,ntmps110;go_upto_region 1 with fail;refine F7 ?_;intro w0 Y O i f;obtain⟨p,r⟩:=Ay O;have l:=Aa Y;clear Y O i f;go_wp2_with fail;go_ret;exact⟨rfl,l.o⟩
def sO(k:Nat)(j f m z v g d i ts c s T w)(q:DQ w c ts)(y:Ej w g d i T)(l:Ee w (.pointer j) f)(hl:ts.length<=1048576)(a:∀t∈ts,t.fits T f) :
  Ca 110 #[.agg #[I6 (k:Int),.pointer j],I6 (k:Int),.agg #[m,z,v,.slice c ts.length s],.agg #[g,d,i]] w λe w'=>e=.returned (.bool (!ts.all (Aq T f)))/\Bw w w':=by
 have p:=Aa (λu(hu:Bw w u)=>MQ m z v g d i (.pointer j) ts c s T f u (q.J hu) (y.J hu) (l.J hu) hl a);clear q y l a;obtain⟨b,A⟩:∃b,b=ts.all (Aq T f):=⟨_,rfl⟩
 rw[<-A]at p⊢;clear A;go_enter func110,ntmps110;go_upto_region 1 with fail;refine F7 ?_;intro w0 Y O n x;obtain⟨K,G⟩:=Ay O;obtain⟨L,H,M,C⟩:=AO n;obtain⟨D,E,t2⟩:=Ao x;have r:=Aa Y;clear Y O n x;go_wp2_with fail;refine(p.o w0 r.o).an λI B=>?_;go_wp2_with fail;go_ret;exact⟨rfl,r.o.aj B⟩
def A3{w:World}{b ty x0}(h:w.heap[b]?=some (.cells #[x0] ty (0,0))):At w b 0 x0:=by simp[World.cell?,h]
def rp(Z J q N)(v:∀s W b,J s W->Bw W b->J s b)(B:∀(D:Nat)(a:List (Ft Z))(x:Ft Z)(g:World),J a g->a.length<N->YieldAt Fence.wide D prog Z.l #[Me x] g λe b=>(e=.returned (.bool true)/\J (a++[x]) b/\CK g b)∨(e=.returned (.bool false)/\q (a++[x]) b))(T d c f)(Y:LE Z d c f T)(a W)(E:Ho Z W)(u:J a W)(w:a.length<N) :
   Ca 109 #[I6 (Z.X.length:Int),.agg #[.pointer d,.pointer c,.pointer f],Pn Z.pb,Pn Z.yb,Pn Z.sb,Pn Z.xb] W (Mp Z J q a [T] W):=by
 go_enter func109,ntmps109;go_upto_region 1 with fail;refine Bt ?_;intro w0 O k;obtain⟨I,K,t2⟩:=Ao k;have i:=Aa (E.ar O);obtain⟨L,_⟩:=Ay i.o.pl;have M:=A3 i.o.yl;have z:=v _ _ _ u O;have K0:=Aa (CK.ab O);obtain⟨fn,t,H,r,m,p⟩:=B 5 a ⟨T,Y.2⟩ w0 z w;have G:=Aa p;have R:(Instr.yield Z.l #[.agg #[.pointer d,.pointer c,.pointer f]]).run prog w0=.ok (.round Z.l fn t H r) w0:=by
  have e:Me (Z:=Z) ⟨T,Y.2⟩=.agg #[.pointer d,.pointer c,.pointer f]:=by
   unfold Me;rw[<-Y.1];rfl
  rw[<-e];exact m
 clear O k m p;go_upto_region 2 with fail;refine(wpIn_wide (n:=6)).1 ?_
 gi_wp2;refine G.o.ac ?_;rintro e b (⟨rfl,C,y⟩|⟨rfl,A⟩)
 .gi_wp2;go_wp2_with fail;go_ret;exact .inl ⟨rfl,[⟨T,Y.2⟩],rfl,C,K0.o.j y⟩
 gi_wp2;go_wp2_with fail;go_ret;exact .inr ⟨rfl,_,A⟩
def r6(Z J Jx)(z:∀s W x,J s W->Bw W x->J s x)(c)(k:Nat)(y:Z.X[k]?=some c)(T I H C d W)(au:Ho Z W)(aG:LE Z I H C T)(m:∀f∈(Z.vw c.node).2.2,∀t∈c.cp.ah,t.fits T f)(aB:Z.sa=(k:Int)->∃f,Z.sf=some f/\∀t∈c.cp.ah,t.fits T f)(aH:J d W)(K:c.cp.neg=true)(n r)(aF:¬(FB Z k c T=true/\(Z.vw c.node).2.2.any (λf=>c.cp.ah.all (Aq T f))=false)->r=[])(aD:(FB Z k c T=true/\(Z.vw c.node).2.2.any (λf=>c.cp.ah.all (Aq T f))=false)->r=n)(az:(FB Z k c T=true/\(Z.vw c.node).2.2.any (λf=>c.cp.ah.all (Aq T f))=false)->∀x,Ho Z x->J d x->Ca 109 #[I6 ((k:Int)+1),.agg #[.pointer I,.pointer H,.pointer C],Pn Z.pb,Pn Z.yb,Pn Z.sb,Pn Z.xb] x (Mp Z J Jx d n x)) :
   Ca 109 #[I6 (k:Int),.agg #[.pointer I,.pointer H,.pointer C],Pn Z.pb,Pn Z.yb,Pn Z.sb,Pn Z.xb] W (Mp Z J Jx d r W):=by
 have aE:=Z.small c (yd y);have aK:(Z.vw c.node).2.2.length<=1048576:=yi (Z.few c (yd y)) qh;obtain⟨aC,HF,HI,A,aq,HCX⟩:=Hl aG m az aF aD y;obtain⟨g,aL,_⟩:=au.cx k c y;have aJ:=Aa aB;have z1:(k:Int)<(Z.X.length:Int):=by have:=(yf.1 y).1;omega
 have aP:((k:Int)==(Z.X.length:Int))=false:=by simp;omega
 have z0:(0:Int)<=(k:Int):=qd;have aN:(k:Int)<1000000:=by have:=(yf.1 y).1;have:=Z.X6;omega
 have aA:=Aa (λ(u:World)(hu:Ho Z u)=>show Ca 110 #[.agg #[I6 Z.sa,.pointer (Z.sf.map Z.adr)],I6 (k:Int),.agg #[.bool true,I6 (c.cp.at_:Int),Pn c.node,.slice c.ta c.cp.ah.length c.tc],.agg #[.pointer I,.pointer H,.pointer C]] u λe w'=>e=.returned (.bool (!FB Z k c T))/\Bw u w' from by
  by_cases hs:Z.sa=(k:Int)
  .obtain⟨f,hf,aI⟩:=aJ.o hs;have e:FB Z k c T=c.cp.ah.all (Aq T f):=by
    unfold FB;rw[if_pos hs,hf]
   rw[e,hs,hf];obtain⟨_,_,_,aM,_⟩:=hu.cx k c HCX.o;exact sO k (some (Z.adr f)) f _ _ _ _ _ _ c.cp.ah c.ta c.tc T u aM (aC.o.tok hu.us) (hu.us f (Z.sfU f hf)).1 (yi aE qh) aI
  have e:FB Z k c T=true:=by
   unfold FB;rw[if_neg hs]
  rw[e];exact tD k Z.sa _ _ _ _ _ _ _ _ u hs)
 clear aG m az aF aD aB;go_enter func109,ntmps109;go_upto_region 1 with fail;refine Bt ?_;intro w0 L ar;obtain⟨t0,t1,t2⟩:=Ao ar;have N:=Aa (au.ar L);obtain⟨g0,_⟩:=Ay N.o.pl;obtain⟨g',ax,⟨c0,c1,c2,c3⟩,_⟩:=N.o.cx k c HCX.o;rw[aL]at g0 ax
 cases ax
 obtain⟨J0,B0⟩:=Ak (z _ _ _ aH L) L;rw[K]at c0;clear L ar y;go_upto_region 4 with fail;refine Bt ?_;intro w2 af aw;obtain⟨d0,d1,d2,d3⟩:=AO aw;have u0:=zab af t0;have u1:=zab af t1;have u2:=zab af t2;obtain⟨M,J2,B2⟩:=AQ (N.o.ar af) (z _ _ _ J0.o af) (B0.o.aj af);obtain⟨s0,s1⟩:=Ay M.o.sd;clear af aw t0 t1 t2 c0 c1 c2 c3 g0 N J0 B0;have D:=Aa (aA.o w2 M.o);clear aA
 cases b:FB Z k c T
 .rw[b]at D;replace A:=Aa (A.o (by rw[b];simp));clear b;go_wp2_with fail;refine D.o.an λw3 O=>?_;obtain⟨E,B⟩:=Ak (z _ _ _ J2.o O) (B2.o.aj O);clear O;go_wp2_with fail;go_ret;exact .inl ⟨rfl,[],A.o.ai,by simpa using E.o,CK.ab B.o⟩
 rw[b]at D;have ay:=Aa b;clear b;go_wp2_with fail;refine D.o.an λw3 O=>?_;have f0:=zab O d0;have f1:=zab O d1;have f2:=zab O d2;have f3:=zab O d3;have v0:=zab O u0;have v1:=zab O u1;have v2:=zab O u2;obtain⟨R,E,B⟩:=AQ (M.o.ar O) (z _ _ _ J2.o O) (B2.o.aj O);clear O d0 d1 d2 d3 u0 u1 u2 s0 s1 M J2 B2 D;obtain⟨_,_,_,m1,m2,m3⟩:=R.o.cx k c HCX.o;have G:=Aa (zoH (.bool true) (I6 (c.cp.at_:Int)) (.pointer I) (.pointer H) (.pointer C) c.node c.cp.ah c.ta c.tc T (Z.vw c.node).2.2 _ _ w3 m2 m1 (aC.o.tok R.o.us) m3.dK (yi aE qh) aK HF.o);clear m1 m2 m3;cases p:(Z.vw c.node).2.2.any (λf=>c.cp.ah.all (Aq T f))
 .rw[p]at G;replace HI:=Aa (HI.o ⟨ay.o,p⟩);replace aq:=Aa (aq.o ⟨ay.o,p⟩);clear p;simp only[WU];go_wp2_with fail;refine G.o.an λw4 Y=>?_;have aO:=zab Y v0;have aQ:=zab Y v1;have aR:=zab Y v2;obtain⟨av,U,B4⟩:=AQ (R.o.ar Y) (z _ _ _ E.o Y) (B.o.aj Y);have x0:=A3 av.o.sr;clear Y f0 f1 f2 f3 v0 v1 v2 R E B G;go_wp2_with fail;refine(HI.o w4 av.o U.o).ac ?_;rintro e w5 (⟨rfl,ys,hl,hj,hk⟩|⟨rfl,q,hq⟩)
  .go_wp2_with fail;go_ret;exact .inl ⟨rfl,ys,hl.j aq.o.ai,hj,(CK.ab B4.o).j hk⟩
  go_wp2_with fail;go_ret;exact .inr ⟨rfl,q,hq⟩
 rw[p]at G;replace A:=Aa (A.o (by rw[p];simp));clear p;simp only[WU];go_wp2_with fail;refine G.o.an λw4 Y=>?_;obtain⟨U,B4⟩:=Ak (z _ _ _ E.o Y) (B.o.aj Y);clear Y;go_wp2_with fail;go_ret;exact .inl ⟨rfl,[],A.o.ai,by simpa using U.o,CK.ab B4.o⟩
end
end Go.Proofs.YtikojfajahnhgaaGreat
