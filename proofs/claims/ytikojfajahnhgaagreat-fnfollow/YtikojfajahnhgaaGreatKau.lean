import Derived.Test.YtikojfajahnhgaaGreatKar
import Derived.Test.YtikojfajahnhgaaGreatKao
set_option linter.all false
set_option maxHeartbeats 12800000
set_option maxRecDepth 100000
namespace Go.Proofs.YtikojfajahnhgaaGreat
open Go.RowKit Go.Proofs.Tryz
attribute [local go_sem ↓] wp_at_zero wp_at_succ
attribute [local simp] At I6 Pn mzI Bk
attribute [local go_sem] At I6 Pn Bk
variable{P:Prop}
def zrE(i cb mb a T)(p:(a.map Prod.snd).Nodup)(w)(K:w.cell? ⟨i,0,none⟩=some (CV a 0))(W:w.cell? ⟨i,1,none⟩=some (.pointer (some ⟨cb,0,none⟩)))(I:w.cell? ⟨cb,0,none⟩=some (.map (some mb)))(s:Ao w mb (uv T))(O:∀(k:Nat)(n:Bool × Nat),a[k]?=some n->∃f L,w.cell? ⟨n.2,5,none⟩=some (.map (some f))/\Ao w f (uv L)/\w.cell? ⟨n.2,4,none⟩=some (CV a (k+1))) :
  Ca 304 #[.pointer (some ⟨i,0,none⟩)] w λe w'=>(∃z,e=.returned (.int .i64 z))/\w'=w:=by
 obtain⟨A,r⟩:=An O p;have M:=Zn (P:=prog) (ty:=3) Gc s;clear O p s;go_enter func304,ntmps304;go_wp2
 go_loopw [3,4] (λc v wr=>∃k z,k<=a.length/\v=CV a k/\c=.int .i64 z/\wr=w) (λ_ v _=>SH a v)
 .exact⟨0,_,yn _,rfl,rfl,rfl⟩
 obtain⟨k,z,H,rfl,rfl,E⟩:=hrel;subst E;rcases Wg k a.length with hl|hl
 .obtain⟨⟨b,nb⟩,x⟩:∃n,a[k]?=some n:=⟨a[k],MS⟩
  obtain⟨f,L,q,y,m⟩:=A k (b,nb) x;obtain⟨g,l⟩:=An (UW r H) (UW r (show k+1<=a.length from hl));have hv:CV a k=IY (b,nb):=by simp[CV,x]
  obtain⟨B,t⟩:=An (zis nb f L _ q y) (gJ nb (CV a (k+1)) _ m);obtain⟨nx,d⟩:=AF (CV a (k+1));rw[<-d]at t l;rw[hv]at g⊢;have G:=Ad d;clear d hv y q m;cases b
  focus
   simp only[IY,Yx,if_false]at g⊢;have C:=λu=>zsh nb u;have D:=λu=>pT nb u
  rotate_left
  focus
   simp only[IY,if_true]at g⊢;have C:=λu=>zsx nb u;have D:=λu=>rA nb u
  rotate_left
  all_goals
   go_wp2_with (first|(go_at_call 318;refine B.j ?_;rintro e R ⟨rfl,rfl⟩)|(go_at_call 316;refine t.j ?_;rintro e N ⟨rfl,rfl⟩)|fail);refine⟨⟨k+1,_,hl,G,rfl,trivial⟩,?_⟩;have U:=g.o;have J:=l.o;omega
 obtain rfl:k=a.length:=qd;have hv:CV a a.length=.nilIface:=by simp[CV]
 rw[hv];go_wp2;exact bodyPost_ret (v:=.int .i64 z) (by simp[results,results304,go_sem]) rfl ⟨⟨_,rfl⟩,rfl⟩
def zpY(a p w)(h:At w a 1 (.pointer p)):Ca 302 #[Pn a] w λe w'=>e=.returned (.pointer p)/\w'=w:=by
 go_enter func302,ntmps302;go_wp2;exact bodyPost_ret (by simp[results,results302,go_sem]) rfl ⟨rfl,rfl⟩
section
open Go.Maps
structure SN where
 adr:F->Addr
 U:Ab
 l:Nat
 pb:Nat
 yb:Nat
 sb:Nat
 xb:Nat
 ca:Af
 cc:Nat
 vv:Value
 X:Ak
 vw:Nat->Af × Nat × Ab
 sa:Int
 sf:Option F
 small:∀c∈X,c.cp.y.length<=6
 X6:X.length<=6
 few:∀c∈X,(vw c.node).2.2.length<=1000
 sub:∀c∈X,∀f∈(vw c.node).2.2,f∈U
 sfU:∀f,sf=some f->f∈U
def Eb(adr:F->Addr)(vw:Nat->Af × Nat × Ab)(ca:Af)(W:Aa)(k:Nat)(c:Cx):Prop:=
 ∃g,ca=some ⟨g,0,none⟩/\(W.cell? ⟨g,k*4,none⟩=some (.bool c.cp.neg)/\W.cell? ⟨g,k*4+1,none⟩=some (.int .i64 (c.cp.Y:Int))/\W.cell? ⟨g,k*4+2,none⟩=some (.pointer (some ⟨c.node,0,none⟩))/\W.cell? ⟨g,k*4+3,none⟩=some (.slice c.ta c.cp.y.length c.tc))/\EJ W c.ta c.cp.y/\W.cell? ⟨c.node,4,none⟩=some (.slice (vw c.node).1 (vw c.node).2.2.length (vw c.node).2.1)/\Jq W (vw c.node).1 (vw c.node).2.2 adr
def Eb.bu{adr vw ca u w k c}(h:Eb adr vw ca u k c)(a:Jr u w):Eb adr vw ca w k c:=by
 obtain⟨g,e,⟨O,d,j,i⟩,l,b,f⟩:=h;have q:=@Jr.ci _ _ a _ _ _ d (.inl qd);exact⟨g,e,⟨q O,q d,q j,q i⟩,l.bu a,a.ci b (.inl qd) b,f.bu a⟩
theorem Eb.W{adr vw ca u w k c}(h:Eb adr vw ca u k c)(a:CK u w):Eb adr vw ca w k c:=h.bu a.b
structure H4(Z:SN) (Bz W:Aa):Prop where
 pl:Bk W (Z.pb) #[.slice Z.ca Z.X.length Z.cc,Z.vv] 102
 yl:Bk W (Z.yb) #[.func (.yield Z.l) #[] #[]] 192
 sd:Bk W (Z.sb) #[.int .i64 Z.sa,.pointer (Z.sf.map Z.adr)] 108
 sr:Bk W (Z.xb) #[.func (.func 109) #[] #[.pointer (some ⟨Z.pb,0,none⟩),.pointer (some ⟨Z.yb,0,none⟩),.pointer (some ⟨Z.sb,0,none⟩),.pointer (some ⟨Z.xb,0,none⟩)]] 193
 kb:De Bz Bz W
 dj:∀(k:Nat)(c:Cx),Z.X[k]?=some c->Eb Z.adr Z.vw Z.ca Bz k c
 dE:JB Z.adr Z.U Bz
def H4.cx{Z a W}(h:H4 Z a W)(k c)(d:Z.X[k]?=some c):Eb Z.adr Z.vw Z.ca W k c:=(h.dj k c d).bu h.kb.b
def H4.us{Z a W}(h:H4 Z a W):JB Z.adr Z.U W:=h.dE.bu h.kb.b
theorem H4.W{Z d W e}(h:H4 Z d W)(b:De d W e):H4 Z d e:=⟨b _ _ _ _ h.pl (λ_=>qi) OE,b _ _ _ _ h.yl (λ_=>qi) OE,b _ _ _ _ h.sd (λ_=>qi) OE,b _ _ _ _ h.sr (λ_=>qi) OE,h.kb.c b,h.dj,h.dE⟩
def H4.C{Z a W b}(h:H4 Z a W)(c:Bw W b):H4 Z a b:=h.W (De.u c)
def Fm(Z:SN)(k:Nat)(c:Cx):Ab:=if Z.sa=(k:Int) then Z.sf.toList else(Z.vw c.node).2.2
def GI(Z:SN)(k:Nat)(c:Cx)(T:Ab):Bool:=if Z.sa=(k:Int) then(match Z.sf with|some f=>c.cp.y.all (AA T f)|none=>true) else true
def Ed(Z:SN):Nat->Ak->Ab->Am
 |_,[],T=>[T]
 |k,c::cs,T=>if c.cp.neg=true then(if GI Z k c T=true/\(Z.vw c.node).2.2.any (λf=>c.cp.y.all (AA T f))=false then Ed Z (k+1) cs T else []) else(Fm Z k c).flatMap (λf=>if c.cp.y.all (AA T f)=true then Ed Z (k+1) cs (T++[f]) else [])
def Lh(Z:SN):Nat->Ak->Ab->Prop
 |_,[],_=>True
 |k,c::cs,T=>c.cp.Y=T.length/\(c.cp.neg=false->T.length<3)/\(∀f∈(Z.vw c.node).2.2,∀t∈c.cp.y,t.ah T f)/\(Z.sa=(k:Int)->∃f,Z.sf=some f/\∀t∈c.cp.y,t.ah T f)/\(if c.cp.neg=true then Lh Z (k+1) cs T else∀f∈Fm Z k c,c.cp.y.all (AA T f)=true->Lh Z (k+1) cs (T++[f]))
def NU(Z:SN)(p0 p1 p2:Af)(T:Ab):Prop:=(p0,p1,p2)=Ae Z.adr T/\T.length<=3/\∀f∈T,f∈Z.U
def NU.cP{Z b c a T W}(h:NU Z b c a T)(hu:JB Z.adr Z.U W):E_ W (.pointer b) (.pointer c) (.pointer a) T:=by
 have e:=h.1;simp only[Ae,YF]at e;rw[e.1,e.2.1,e.2.2];exact oJ hu h.2.2 h.2.1
def E6(Z:SN):={T:Ab // T.length<=3/\∀f∈T,f∈Z.U}
def LT{Z:SN}(x:E6 Z):Value:=Bh (Ae Z.adr x.1)
def OZ(Z:SN)(Bz:Aa)(J Jx:List (E6 Z)->Aa->Prop)(pre:List (E6 Z))(Ts:Am)(W:Aa)(e:Ending)(W':Aa):Prop:=
 (e=.returned (.bool true)/\∃ys:List (E6 Z),ys.map (λy=>y.1)=Ts/\J (pre++ys) W'/\De Bz W W')∨(e=.returned (.bool false)/\∃q,Jx q W')
def OZ.one{Z d J c pre f W e a}(h:OZ Z d J c pre f W e a):∃b:Bool,e=.returned (.bool b)/\Hid (b=true->∃ys:List (E6 Z),ys.map (λy=>y.1)=f/\J (pre++ys) a/\De d W a)/\Hid (b=false->∃q,c q a):=by
 rcases h with⟨rfl,h⟩|⟨rfl,h⟩
 .exact⟨true,rfl,λ_=>h,λe=>qo⟩
 exact⟨false,rfl,λe=>qo,λ_=>h⟩
def Np(Z c d b T f w)(k:NU Z c d b T)(l:T.length<3)(n:f∈Z.U) :
  Ca 114 #[.agg #[.pointer c,.pointer d,.pointer b],I6 (T.length:Int),.pointer (some (Z.adr f))] w λe w'=>∃O i m,e=.returned (.agg #[.pointer O,.pointer i,.pointer m])/\Hid (NU Z O i m (T++[f]))/\Bw w w':=by
 refine(VM c d b (some (Z.adr f)) T.length w l).j λe w' q=>?_;refine⟨(Ae Z.adr (T++[f])).1,(Ae Z.adr (T++[f])).2.1,(Ae Z.adr (T++[f])).2.2,?_,⟨rfl,qe,λg a=>?_⟩,q.2⟩
 .rw[q.1];have e:=k.1;simp only[Ae,YF]at e;rw[e.1,e.2.1,e.2.2,e_ Z.adr T f l];rfl
 rcases yp.1 a with a|a
 .exact k.2.2 g a
 rw[yw.1 a];exact n
def zu0(k nb:Nat)(sa f i d ts fa n fc w)(j:At w nb 4 (.slice fa n fc))(c:¬sa=(k:Int)) :
  Ca 112 #[.agg #[I6 sa,.pointer f],I6 (k:Int),.agg #[i,d,Pn nb,ts]] w λe w'=>e=.returned (.slice fa n fc)/\Bw w w':=by
 have p:((k:Int)==sa)=false:=by simpa usingλe=>c e.z
 go_enter func112,ntmps112;go_upto_region 1 with fail;refine Ce ?_;intro w0 O a g;obtain⟨q,o⟩:=AE a;obtain⟨_,_,l,_⟩:=AX g;have m:=zab O j;have b:=Ad O;go_wp2;go_ret;exact⟨rfl,b⟩
def wX(k:Nat)(c g f d ts w) :
  Ca 112 #[.agg #[I6 (k:Int),.pointer c],I6 (k:Int),.agg #[g,f,d,ts]] w λe w'=>∃b,e=.returned (.slice (some ⟨b,0,none⟩) 1 1)/\Bk w' b #[.pointer c] 106/\Bw w w':=by
 go_enter func112,ntmps112;go_upto_region 1 with fail;refine Ce ?_;intro w0 O i l;obtain⟨m,j⟩:=AE i;have a:=Ad O;go_wp2;go_ret;exact⟨w0.heap.size,rfl,heap_alloc_new w0 _,a.alloc a.size _⟩
def wN(k:Nat)(sa f l d j ts i m g w)(c:¬sa=(k:Int)) :
  Ca 110 #[.agg #[I6 sa,.pointer f],I6 (k:Int),.agg #[l,d,j,ts],.agg #[i,m,g]] w λe w'=>e=.returned (.bool false)/\Bw w w':=by
 have p:((k:Int)==sa)=false:=by simpa usingλe=>c e.z
 go_enter func110,ntmps110;go_upto_region 1 with fail;refine Hu ?_;intro w0 O a r n;obtain⟨q,o⟩:=AE a;have b:=Ad O;go_wp2;go_ret;exact⟨rfl,b⟩
def y_(k:Nat)(g f v q s d j c ts i n T w)(r:EJ w i ts)(O:E_ w d j c T)(l:DJ w (.pointer g) f)(hl:ts.length<=1048576)(a:∀t∈ts,t.ah T f) :
  Ca 110 #[.agg #[I6 (k:Int),.pointer g],I6 (k:Int),.agg #[v,q,s,.slice i ts.length n],.agg #[d,j,c]] w λe w'=>e=.returned (.bool (!ts.all (AA T f)))/\Bw w w':=by
 have p:=Ad (λu(hu:Bw w u)=>PQ v q s d j c (.pointer g) ts i n T f u (r.e hu) (O.e hu) (l.e hu) hl a);clear r O l a;obtain⟨b,m⟩:=AF (ts.all (AA T f));rw[<-m]at p⊢;clear m;go_enter func110,ntmps110;go_upto_region 1 with fail;refine Hu ?_;intro w0 y x A z;obtain⟨H,K⟩:=AE x;obtain⟨C,L,I,D⟩:=AX A;obtain⟨J,G,t2⟩:=Ax z;have o:=Ad y;go_wp2_with fail;refine(p w0 o).rtn λE B=>?_;go_wp2;go_ret;exact⟨rfl,o.thn B⟩
def A8{w b ty x0}(h:Bk w b #[x0] ty):At w b 0 x0:=by simp[World.cell?,h]
def v_(Z f J m N)(L:∀s W a,J s W->Bw W a->J s a)(v:∀(D:Nat)(pre:List (E6 Z))(x:E6 Z)(k:Aa),J pre k->pre.length<N->YieldAt Fence.wide D prog Z.l #[LT x] k λe a=>(e=.returned (.bool true)/\J (pre++[x]) a/\De f k a)∨(e=.returned (.bool false)/\m (pre++[x]) a))(T d g b)(O:NU Z d g b T)(pre W)(z:H4 Z f W)(y:J pre W)(M:pre.length<N) :
   Ca 109 #[I6 (Z.X.length:Int),.agg #[.pointer d,.pointer g,.pointer b],Pn Z.pb,Pn Z.yb,Pn Z.sb,Pn Z.xb] W (OZ Z f J m pre [T] W):=by
 go_enter func109,ntmps109;go_upto_region 1 with fail;refine BF ?_;intro w0 i w;obtain⟨t0,U,t2⟩:=Ax w;have o:=Ad (z.C i);obtain⟨R,_⟩:=AE o.pl;have Y:=A8 o.yl;have G:=L _ _ _ y i;have K0:=Ad (De.u (B:=f) i);obtain⟨fn,A,E,K,I,t⟩:=v 5 pre ⟨T,O.2⟩ w0 G M;have q:=Ad t;have ar:(Instr.yield Z.l #[.agg #[.pointer d,.pointer g,.pointer b]]).run prog w0=.ok (.round Z.l fn A E K) w0:=by
  have e:LT (Z:=Z) ⟨T,O.2⟩=.agg #[.pointer d,.pointer g,.pointer b]:=by
   unfold LT;rw[<-O.1];rfl
  rw[<-e];exact I
 go_upto_region 2 with fail
 refine(wpIn_wide (n:=6)).1 ?_;gi_wp2;refine q.j ?_;rintro e a (⟨rfl,p,H⟩|⟨rfl,r⟩)
 .gi_wp2;go_wp2;go_ret;exact .inl ⟨rfl,[⟨T,O.2⟩],rfl,p,K0.c H⟩
 gi_wp2;go_wp2;go_ret;exact .inr ⟨rfl,_,r⟩
def xj(Z D J Jx)(p:∀s W d,J s W->Bw W d->J s d)(c)(k:Nat)(x:Z.X[k]?=some c)(T B I G pre W)(aw:H4 Z D W)(aF:NU Z B I G T)(H:∀f∈(Z.vw c.node).2.2,∀t∈c.cp.y,t.ah T f)(aI:Z.sa=(k:Int)->∃f,Z.sf=some f/\∀t∈c.cp.y,t.ah T f)(aM:J pre W)(E:c.cp.neg=true)(n r)(aN:¬(GI Z k c T=true/\(Z.vw c.node).2.2.any (λf=>c.cp.y.all (AA T f))=false)->r=[])(aO:(GI Z k c T=true/\(Z.vw c.node).2.2.any (λf=>c.cp.y.all (AA T f))=false)->r=n)(aK:(GI Z k c T=true/\(Z.vw c.node).2.2.any (λf=>c.cp.y.all (AA T f))=false)->∀d,H4 Z D d->J pre d->Ca 109 #[I6 ((k:Int)+1),.agg #[.pointer B,.pointer I,.pointer G],Pn Z.pb,Pn Z.yb,Pn Z.sb,Pn Z.xb] d (OZ Z D J Jx pre n d)) :
   Ca 109 #[I6 (k:Int),.agg #[.pointer B,.pointer I,.pointer G],Pn Z.pb,Pn Z.yb,Pn Z.sb,Pn Z.xb] W (OZ Z D J Jx pre r W):=by
 have au:=Z.small c (yd x);have aJ:(Z.vw c.node).2.2.length<=1048576:=yi (Z.few c (yd x)) qi;obtain⟨ay,HF,HI,ah,U,HCX⟩:=Ma aF H aK aN aO x;obtain⟨g,aG,_⟩:=aw.cx k c x;have aL:=Ad aI;have z1:(k:Int)<(Z.X.length:Int):=by have:=(yf.1 x).1;omega
 have aS:((k:Int)==(Z.X.length:Int))=false:=by simp;omega
 have z0:(0:Int)<=(k:Int):=qd;have aP:(k:Int)<1000000:=by have:=(yf.1 x).1;have:=Z.X6;omega
 have aC:=Ad (λ(u:Aa)(hu:H4 Z D u)=>show Ca 110 #[.agg #[I6 Z.sa,.pointer (Z.sf.map Z.adr)],I6 (k:Int),.agg #[.bool true,I6 (c.cp.Y:Int),Pn c.node,.slice c.ta c.cp.y.length c.tc],.agg #[.pointer B,.pointer I,.pointer G]] u λe w'=>e=.returned (.bool (!GI Z k c T))/\Bw u w' from by
  by_cases hs:Z.sa=(k:Int)
  .obtain⟨f,hf,aH⟩:=aL hs;have e:GI Z k c T=c.cp.y.all (AA T f):=by
    unfold GI;rw[if_pos hs,hf]
   rw[e,hs,hf];obtain⟨_,_,_,aD,_⟩:=hu.cx k c HCX;exact y_ k (some (Z.adr f)) f _ _ _ _ _ _ c.cp.y c.ta c.tc T u aD (ay.cP hu.us) (hu.us f (Z.sfU f hf)) (yi au qi) aH
  have e:GI Z k c T=true:=by
   unfold GI;rw[if_neg hs]
  rw[e];exact wN k Z.sa _ _ _ _ _ _ _ _ u hs)
 go_enter func109,ntmps109;go_upto_region 1 with fail;refine BF ?_;intro w0 ao aB;obtain⟨t0,t1,t2⟩:=Ax aB;have R:=Ad (aw.C ao);obtain⟨g0,_⟩:=AE R.pl;obtain⟨g',ax,⟨c0,c1,c2,c3⟩,_⟩:=R.cx k c HCX;rw[aG]at g0 ax
 cases ax
 obtain⟨J0,B0⟩:=An (p _ _ _ aM ao) ao;rw[E]at c0;go_upto_region 4 with fail;refine BF ?_;intro w2 m aE;obtain⟨d0,d1,d2,d3⟩:=AX aE;have u0:=zab m t0;have u1:=zab m t1;have u2:=zab m t2;obtain⟨ak,J2,B2⟩:=AK (R.C m) (p _ _ _ J0 m) (B0.thn m);obtain⟨s0,s1⟩:=AE ak.sd;have L:=Ad (aC w2 ak)
 cases b:GI Z k c T
 .rw[b]at L;replace ah:=Ad (ah (by rw[b];simp));go_wp2_with fail;refine L.rtn λw3 O=>?_;obtain⟨M,K⟩:=An (p _ _ _ J2 O) (B2.thn O);go_wp2;go_ret;exact .inl ⟨rfl,[],ah.z,by simpa using M.o,De.u K⟩
 rw[b]at L;have az:=Ad b;go_wp2_with fail;refine L.rtn λw3 O=>?_;have f0:=zab O d0;have f1:=zab O d1;have f2:=zab O d2;have f3:=zab O d3;have v0:=zab O u0;have v1:=zab O u1;have v2:=zab O u2;obtain⟨ar,M,K⟩:=AK (ak.C O) (p _ _ _ J2 O) (B2.thn O);obtain⟨_,_,_,m1,m2,m3⟩:=ar.cx k c HCX;have N:=Ad (zoJ (.bool true) (I6 (c.cp.Y:Int)) (.pointer B) (.pointer I) (.pointer G) c.node c.cp.y c.ta c.tc T (Z.vw c.node).2.2 _ _ w3 m2 m1 (ay.cP ar.us) m3.eB (yi au qi) aJ HF);cases A:(Z.vw c.node).2.2.any (λf=>c.cp.y.all (AA T f))
 .rw[A]at N;replace HI:=Ad (HI ⟨az,A⟩);replace U:=Ad (U ⟨az,A⟩);simp only[Wi];go_wp2_with fail;refine N.rtn λw4 af=>?_;have aT:=zab af v0;have aQ:=zab af v1;have aR:=zab af v2;obtain⟨aA,J4,B4⟩:=AK (ar.C af) (p _ _ _ M af) (K.thn af);have x0:=A8 aA.sr;go_wp2_with fail;refine(HI w4 aA J4).j ?_;rintro e w5 (⟨rfl,ys,hl,hj,hk⟩|⟨rfl,q,hq⟩)
  .go_wp2;go_ret;exact .inl ⟨rfl,ys,hl.c U.z,hj,(De.u B4).c hk⟩
  go_wp2;go_ret;exact .inr ⟨rfl,q,hq⟩
 rw[A]at N;replace ah:=Ad (ah (by rw[A];simp));simp only[Wi];go_wp2_with fail;refine N.rtn λw4 af=>?_;obtain⟨J4,B4⟩:=An (p _ _ _ M af) (K.thn af);go_wp2;go_ret;exact .inl ⟨rfl,[],ah.z,by simpa using J4.o,De.u B4⟩
def xm{k}(O:0<=k)(a:k<1000000):IntKind.i64.wrap (k+1)=k+1:=by
 rw[Yh];omega
def zoM{α β:Type}(g:α->List β){l:List α}{j x}(h:l[j]?=some x):(l.take (j+1)).flatMap g=(l.take j).flatMap g++g x:=by
 rw[Yc,h];simp
def zjr{α β:Type}(g:α->List β)(l:List α)(j):((l.take j).flatMap g).length<=(l.flatMap g).length:=by
 have h:l.flatMap g=(l.take j).flatMap g++(l.drop j).flatMap g:=by
  rw[<-Yy,List.take_append_drop]
 rw[h,yM];omega
def NM(Z d k c w)(r:De d d w)(O:Eb Z.adr Z.vw Z.ca d k c)(D:Z.sa=(k:Int)->∃f,Z.sf=some f)(m l ts) :
  Ca 112 #[.agg #[I6 Z.sa,.pointer (Z.sf.map Z.adr)],I6 (k:Int),.agg #[m,l,Pn c.node,ts]] w λe w'=>∃fa fc,e=.returned (.slice fa (Fm Z k c).length fc)/\Hid (XL d w' fa (Fm Z k c) Z.adr)/\Bw w w':=by
 obtain⟨_,_,_,_,s,x⟩:=O;have z:=r.b.ci s (.inl qi) s;by_cases a:Z.sa=(k:Int)
 .obtain⟨f,t⟩:=D a;have e:Fm Z k c=[f]:=by
   unfold Fm;rw[if_pos a,t];rfl
  rw[a,t,e];refine(wX k (some (Z.adr f)) m l _ ts w).j λC w' q=>?_;obtain⟨b,B,p,A⟩:=q;refine⟨_,_,B,λi g u=>?_,A⟩;cases i with
  |zero=>
   cases u
   exact⟨b,0,rfl,Bf (L:=[_]) p (j:=0) rfl,.inr ⟨_,_,p⟩⟩
  |succ i=>simp at u
 have e:Fm Z k c=(Z.vw c.node).2.2:=by
  unfold Fm;rw[if_neg a]
 rw[e];refine(zu0 k c.node Z.sa _ m l ts _ _ _ w z a).j λC w' q=>?_;refine⟨_,_,q.1,λi f v=>?_,q.2⟩;obtain⟨b,o,y,n,_⟩:=x i f v;exact⟨b,o,y,zab q.2 (r.b.ci n Zg n),.inl (yI d ⟨b,_,none⟩ n)⟩
def tx(h:P:=by
 refine r1 13 λK hK=>?_;go_simp;(go_at_call 109;(try rw[af]);refine(HG1 (pre++ys) w7 q0 q1 q2 (aA.C B7) (aG _ _ _ JR B7) az am).j ?_;intro e' w8 ah;obtain⟨b,rfl,aj,ai⟩:=ah.one;clear ah);(try go_wp2_with fail);refine hK _ _ trivial (λhHeld=>?_);(try simp only[pQ]);refine sr 14 16 ?_;refine wpAnyH_done (by kernel_rfl) ?_ _;refine Yb ?_;cases b
 .have HBX:=Ad (ai rfl);simp only[Kr];go_wp2;go_ret;exact .inr ⟨rfl,HBX⟩
 obtain⟨ay,aq,ar,ao⟩:=aj rfl;obtain⟨ax,aw,au⟩:=AK ar aq ao;simp only[Wi];go_wp2;exact⟨⟨j+1,ys++ay,by go_num,by omega,by rw[aF.o,yz,aD.o,aw.o],by rw[<-yY];exact ax,KR.c ((De.u B7).c au)⟩,by simp;omega⟩
 ):=h
def sY(h:P:=by go_simp;refine hK _ _ trivial (λhHeld=>?_);(try simp only[pQ]);refine r1 12 λK hK=>?_;go_simp;(go_at_call 114;refine(Np Z p0 p1 p2 T f w6 aB aE aC).j ?_;rintro e' w7 ⟨q0,q1,q2,rfl,am,O⟩);(try go_wp2_with fail);refine hK _ _ trivial (λhHeld=>?_);(try simp only[pQ]);have B7:=Ad (B6.thn O);have e9:=zab O e8;exact tx):=h
def jC(h:P:=by simp only[Kr];go_wp2;go_ret;exact .inr ⟨rfl,HBX⟩):=h
def tz(h:P:=by
 go_simp;refine hK _ _ trivial (λhHeld=>?_);(try simp only[pQ]);refine r2 5 12 (λK hK=>?_) λK hK=>?_
 focus
  go_simp;refine hK _ _ trivial (λhHeld=>?_);(try simp only[pQ]);refine r1 12 λK hK=>?_;go_simp;(go_at_call 114;refine(Np Z p0 p1 p2 T f w6 aB aE aC).j ?_;rintro e' w7 ⟨q0,q1,q2,rfl,am,O⟩);(try go_wp2_with fail);refine hK _ _ trivial (λhHeld=>?_);(try simp only[pQ]);have B7:=Ad (B6.thn O);have e9:=zab O e8
 rotate_left
 focus
  go_simp;(go_at_call 114;refine(Np Z p0 p1 p2 T f w6 aB aE aC).j ?_;rintro e' w7 ⟨q0,q1,q2,rfl,am,O⟩);(try go_wp2_with fail);refine hK _ _ trivial (λhHeld=>?_);(try simp only[pQ]);have B7:=Ad (B6.thn O);have e9:=zab O e8;refine r1 5 λK hK=>?_;go_simp;refine hK _ _ trivial (λhHeld=>?_);(try simp only[pQ])
 rotate_left
 all_goals
  refine r1 13 λK hK=>?_;go_simp;(go_at_call 109;(try rw[af]);refine(HG1 (pre++ys) w7 q0 q1 q2 (aA.C B7) (aG _ _ _ JR B7) az am).j ?_;intro e' w8 ah;obtain⟨b,rfl,aj,ai⟩:=ah.one;clear ah);(try go_wp2_with fail);refine hK _ _ trivial (λhHeld=>?_);(try simp only[pQ]);refine sr 14 16 ?_;refine wpAnyH_done (by kernel_rfl) ?_ _;refine Yb ?_;cases b
  .have HBX:=Ad (ai rfl);simp only[Kr];go_wp2;go_ret;exact .inr ⟨rfl,HBX⟩
  obtain⟨ay,aq,ar,ao⟩:=aj rfl;obtain⟨ax,aw,au⟩:=AK ar aq ao;simp only[Wi];go_wp2;exact⟨⟨j+1,ys++ay,by go_num,by omega,by rw[aF.o,yz,aD.o,aw.o],by rw[<-yY];exact ax,KR.c ((De.u B7).c au)⟩,by simp;omega⟩
 ):=h
def jF(h:P:=by
 go_simp;refine hK _ _ trivial (λhHeld=>?_);clear hK K;(try simp only[pQ]);refine r1 12 λK hK=>?_;go_simp;(go_at_call 114;refine(Np Z p0 p1 p2 T f w6 aB aE aC).j ?_;rintro e' w7 ⟨q0,q1,q2,rfl,am,O⟩);(try go_wp2_with fail);refine hK _ _ trivial (λhHeld=>?_);clear hK K;(try simp only[pQ]);have B7:=Ad (B6.thn O);have e9:=zab O e8;clear O;refine r1 13 λK hK=>?_;go_simp;(go_at_call 109;(try rw[af]);refine(HG1 (pre++ys) w7 q0 q1 q2 (aA.C B7) (aG _ _ _ JR B7) az am).j ?_;intro e' w8 ah;obtain⟨b,rfl,aj,ai⟩:=ah.one;clear ah);(try go_wp2_with fail);refine hK _ _ trivial (λhHeld=>?_);clear hK K;(try simp only[pQ]);refine sr 14 16 ?_;refine wpAnyH_done (by kernel_rfl) ?_ _;refine Yb ?_;clear af HG1 az aI am hHeld e0 e1 e2 e3 v0 v1 v2 e8 e9 d0 d1 d2 d3 u0 u1 u2 x0 aH hJ;cases b
 .have HBX:=Ad (ai rfl);clear ai aj;simp only[Kr];go_wp2;go_ret;exact .inr ⟨rfl,HBX⟩
 obtain⟨ay,aq,ar,ao⟩:=aj rfl;obtain⟨ax,aw,au⟩:=AK ar aq ao;clear ar aq ao aj ai;simp only[Wi];go_wp2;exact⟨⟨j+1,ys++ay,by go_num,by omega,by rw[aF.o,yz,aD.o,aw.o],by rw[<-yY];exact ax,KR.c ((De.u B7).c au)⟩,by simp;omega⟩
 ):=h
def xf(Z q J Jx)(hJ:∀s W p,J s W->Bw W p->J s p)(c)(k:Nat)(m:Z.X[k]?=some c)(T p0 p1 p2 pre W)(a6:H4 Z q W)(a5:NU Z p0 p1 p2 T)(n:∀f∈(Z.vw c.node).2.2,∀t∈c.cp.y,t.ah T f)(aW:Z.sa=(k:Int)->∃f,Z.sf=some f/\∀t∈c.cp.y,t.ah T f)(bu:J pre W)(D:c.cp.neg=false)(bj:c.cp.Y=T.length)(aE:T.length<3)(N r gN)(hr:r=(Fm Z k c).flatMap gN)(hN:pre.length+r.length<=N)(hz:∀f∈Fm Z k c,c.cp.y.all (AA T f)=false->gN f=[])(bf:∀f∈Fm Z k c,c.cp.y.all (AA T f)=true->∀(aM:List (E6 Z))(p:Aa)(q0 q1 q2:Af),H4 Z q p->J aM p->aM.length+(gN f).length<=N->NU Z q0 q1 q2 (T++[f])->Ca 109 #[I6 ((k:Int)+1),.agg #[.pointer q0,.pointer q1,.pointer q2],Pn Z.pb,Pn Z.yb,Pn Z.sb,Pn Z.xb] p (OZ Z q J Jx aM (gN f) p)) :
   Ca 109 #[I6 (k:Int),.agg #[.pointer p0,.pointer p1,.pointer p2],Pn Z.pb,Pn Z.yb,Pn Z.sb,Pn Z.xb] W (OZ Z q J Jx pre r W):=by
 have bi:=Z.small c (yd m);have bo:(Fm Z k c).length<=1000:=by
  unfold Fm;split
  .cases Z.sf<;>simp
  exact Z.few c (yd m)
 have aB:=Ad a5;have HI:=Ad bf;have HZ:=Ad hz;have aT:=Ad hr;have bh:=Ad hN;have aG:=Ad hJ;have HCX:=Ad m;obtain⟨g,bn,_⟩:=a6.cx k c m;have HF:=Ad (show∀f∈Fm Z k c,f∈Z.U/\∀t∈c.cp.y,t.ah T f fromλf hf=>by
  unfold Fm at hf;split at hf
  .rename_i hs;obtain⟨f',e,h⟩:=aW hs;rw[e]at hf;simp at hf;subst hf;exact⟨Z.sfU f e,h⟩
  exact⟨Z.sub c (yd m) f hf,n f hf⟩)
 have aU:=Ad (λ(u:Aa)(hu:H4 Z q u)=>NM Z q k c u hu.kb (hu.dj k c m) (λh=>(aW h).imp λf h=>h.1));have z1:(k:Int)<(Z.X.length:Int):=by have:=(yf.1 m).1;omega
 clear a5 n bf hz hr hN aW;obtain⟨fs,bg⟩:=AF (Fm Z k c);rw[<-bg]at aU HF HI HZ aT bo;clear bg;have bB:((k:Int)==(Z.X.length:Int))=false:=by simp;omega
 have z0:(0:Int)<=(k:Int):=qd;have a4:(k:Int)<1000000:=by have:=(yf.1 m).1;have:=Z.X6;omega
 go_enter func109,ntmps109;go_upto_region 1 with fail;refine BF ?_;intro w0 aR G;obtain⟨R,E⟩:=AF W.heap.size;rw[<-E]at G⊢;obtain⟨t0,t1,t2⟩:=Ax G;obtain⟨aS,L⟩:=An G (a6.C aR);obtain⟨g0,_⟩:=AE L.pl;obtain⟨g',a9,⟨c0,c1,c2,c3⟩,_⟩:=L.cx k c HCX;rw[bn]at g0 a9
 cases a9
 obtain⟨J0,B0⟩:=An (hJ _ _ _ bu aR) aR;rw[D]at c0;rw[bj]at c1;have bA:R<w0.heap.size:=Ap G;clear aR G E m;go_upto_region 4 with fail;refine BF ?_;intro w2 H I;obtain⟨db,a0⟩:=AF w0.heap.size;rw[<-a0]at I⊢;obtain⟨d0,d1,d2,d3⟩:=AX I;obtain⟨aY,aX,M,J2,B2⟩:=Ei I ((H.block _ (Ap aS)).c aS) (L.C H) (hJ _ _ _ J0 H) (B0.thn H);obtain⟨s0,s1⟩:=AE M.sd;have a8:=Ad (aU w2 M (.bool false) (I6 (T.length:Int)) (.slice c.ta c.cp.y.length c.tc));clear aU;clear H I a0 t0 t1 t2 c0 c1 c2 c3 g0 L J0 B0 aS;go_wp2_with fail;refine a8.j ?_;rintro e w3 ⟨fa,fc,rfl,bk,A⟩;obtain⟨br,bq,bv,J3,B3⟩:=Ei ((A.block _ (Ap aY)).c aY) ((A.block _ (Ap aX)).c aX) (M.C A) (hJ _ _ _ J2 A) (B2.thn A);clear A a8 d0 d1 d2 d3 s0 s1 M J2 B2 aY aX;go_wp2
 go_loopw [49] (λiv wr=>∃(j:Nat)(ys:List (E6 Z)),iv=I6 (j:Int)/\j<=fs.length/\ys.map (λy=>y.1)=(fs.take j).flatMap gN/\J (pre++ys) wr/\De q w3 wr) (mz fs.length)
 .exact⟨0,[],rfl,yn _,rfl,by simpa using J3.o,λ_ _ _ _ h _ _=>h⟩
 obtain⟨j,ys,rfl,bz,bc,bd,B⟩:=hrel;obtain⟨aD,JR,KR,aA,bp,bm⟩:=Ma bc bd B (bv.W B) (B _ _ _ _ br (λ_=>qi) OE) (B _ _ _ _ bq (λ_=>qi) OE);clear bc bd B J3;by_cases hj:j<fs.length
 .obtain⟨f,hf⟩:=Bq hj;have aV:=yd hf;obtain⟨_,_,_,m1,_,_⟩:=aA.cx k c HCX;obtain⟨hb,ho,rfl,aH,_⟩:=(bk.fy KR) j f hf;obtain⟨aZ,a7⟩:=HF f aV;obtain⟨bl,aC⟩:=An (aA.us f aZ) aZ;obtain⟨d0,d1,d2,d3⟩:=AX bp;obtain⟨u0,u1,u2⟩:=Ax bm;have x0:=A8 aA.sr;obtain⟨y0,y1⟩:=CZ hj;obtain⟨aF,aI⟩:=An (zoM gN hf) (λw'(h:Bw wr w')=>PQ (.bool false) (I6 (T.length:Int)) (Pn c.node) (.pointer p0) (.pointer p1) (.pointer p2) (.pointer (some (Z.adr f))) c.cp.y c.ta c.tc T f w' (m1.e h) ((aB.cP aA.us).e h) (bl.e h) (yi bi qi) a7);clear m1 aZ a7;cases x:c.cp.y.all (AA T f)
  .have bw:=Ad (HZ f aV x);rw[x]at aI;clear x hf;go_wp2_with fail;refine wp_region_noPanic ?_;refine wp_region_held_drew (S:=(λw'=>At w' db 0 (.bool false)/\At w' db 1 (I6 (T.length:Int))/\At w' db 2 (Pn c.node)/\At w' db 3 (.slice c.ta c.cp.y.length c.tc)/\At w' R 0 (.pointer p0)/\At w' R 1 (.pointer p1)/\At w' R 2 (.pointer p2))) qg ?_ (λhHeld=>?_)
   ·(try dsimp only);exact⟨d0,d1,d2,d3,u0,u1,u2⟩
   refine sr 0 3 ?_;refine wpAnyH_ready (rs:=[3]) qg qf ?_;refine y9 (yj.c rfl) (λK hK=>?_) Yd;go_simp;(go_at_call 113;refine(aI _ Au.drew).j ?_;rintro e' w6 ⟨rfl,d⟩);(try go_wp2_with fail);refine hK _ _ ?hS2 (λhHeld=>?_)
   case hS2=>((try dsimp only);exact⟨zab d d0,zab d d1,zab d d2,zab d d3,zab d u0,zab d u1,zab d u2⟩)
   clear hK K;(try simp only[pQ]);have B6:=Ad (show Bw wr w6 from Au.drew.c (d.j qf));clear d;refine sr 4 16 ?_;refine wpAnyH_done qg ?_ _;refine Yb ?_;go_wp2;exact⟨⟨j+1,ys,qm,qd,by rw[aF.o,bw.o,yO];exact aD,hJ _ _ _ JR B6,KR.c (De.u B6)⟩,qe⟩
  have HG1:=Ad (HI f aV x);rw[x]at aI;have az:=Ad (show(pre++ys).length+(gN f).length<=N by have h1:=zjr gN fs (j+1);rw[aF.o,yM]at h1;have h2:=congrArg List.length aD;rw[yu]at h2;have h3:=congrArg List.length aT;have h4:=bh.o;rw[yM];omega);have af:IntKind.i64.wrap ((k:Int)+1)=(k:Int)+1:=xm z0 a4;clear x hf;go_wp2_with fail;refine wp_region_noPanic ?_;refine wp_region_held_drew (S:=(λ_=>True)) qg ?_ (λhHeld=>?_)
  ·(try dsimp only)
   all_goals trivial
  refine sr 2 3 ?_;refine r2 0 1 (λK hK=>?_) λK hK=>?_
  .go_simp;refine hK _ _ trivial (λhHeld=>?_);clear hK K;(try simp only[pQ]);refine r1 1 λK hK=>?_;go_simp;refine hK _ _ trivial (λhHeld=>?_);clear hK K;(try simp only[pQ]);refine r1 3 λK hK=>?_;go_simp;(go_at_call 113;refine(aI _ Au.drew).j ?_;rintro e' w6 ⟨rfl,d⟩);(try go_wp2_with fail);refine hK _ _ trivial (λhHeld=>?_);clear hK K;(try simp only[pQ]);have e0:=zab d d0;have e1:=zab d d1;have e2:=zab d d2;have e3:=zab d d3;have v0:=zab d u0;have v1:=zab d u1;have v2:=zab d u2;have e8:=zab d x0;have B6:=Ad (show Bw wr w6 from Au.drew.c (d.j qf));clear d;refine sr 4 5 ?_;refine sr 6 8 ?_;refine sr 9 10 ?_;refine sr 11 12 ?_;refine wpAnyH_ready (rs:=[5,8,10]) qg qf (y9 (yj.c rfl) (λK hK=>?_) (y9 (yj.c rfl) (λK hK=>?_) (y9 (yj.c rfl) (λK hK=>?_) Yd)))
   .go_simp;refine hK _ _ trivial (λhHeld=>?_);clear hK K;(try simp only[pQ]);refine r2 8 10 (λK hK=>?_) λK hK=>?_
    focus
     go_simp;refine hK _ _ trivial (λhHeld=>?_);clear hK K;(try simp only[pQ]);refine r1 10 λK hK=>?_
    rotate_left
    focus
     go_simp;refine hK _ _ trivial (λhHeld=>?_);clear hK K;(try simp only[pQ]);refine r1 8 λK hK=>?_
    rotate_left
    all_goals
     go_simp;refine hK _ _ trivial (λhHeld=>?_);clear hK K;(try simp only[pQ]);refine r1 12 λK hK=>?_;go_simp;(go_at_call 114;refine(Np Z p0 p1 p2 T f w6 aB aE aC).j ?_;rintro e' w7 ⟨q0,q1,q2,rfl,am,O⟩);(try go_wp2_with fail);refine hK _ _ trivial (λhHeld=>?_);clear hK K;(try simp only[pQ]);have B7:=Ad (B6.thn O);have e9:=zab O e8;clear O;refine r1 13 λK hK=>?_;go_simp;(go_at_call 109;(try rw[af]);refine(HG1 (pre++ys) w7 q0 q1 q2 (aA.C B7) (aG _ _ _ JR B7) az am).j ?_;intro e' w8 ah;obtain⟨b,rfl,aj,ai⟩:=ah.one;clear ah);(try go_wp2_with fail);refine hK _ _ trivial (λhHeld=>?_);clear hK K;(try simp only[pQ]);refine sr 14 16 ?_;refine wpAnyH_done qg ?_ _;refine Yb ?_;clear af HG1 az aI am hHeld e0 e1 e2 e3 v0 v1 v2 e8 e9 d0 d1 d2 d3 u0 u1 u2 x0 aH hJ;cases b
     .have HBX:=Ad (ai rfl);clear ai aj;exact jC
     obtain⟨ay,aq,ar,ao⟩:=aj rfl;obtain⟨ax,aw,au⟩:=AK ar aq ao;clear ar aq ao aj ai;simp only[Wi];go_wp2;exact⟨⟨j+1,ys++ay,qm,qd,jZ,jT,KR.c ((De.u B7).c au)⟩,qe⟩
   .go_simp;refine hK _ _ trivial (λhHeld=>?_);clear hK K;(try simp only[pQ]);refine r2 5 10 (λK hK=>?_) λK hK=>?_
    .go_simp;refine hK _ _ trivial (λhHeld=>?_);clear hK K;(try simp only[pQ]);refine r1 10 λK hK=>?_;exact jF
    go_simp;refine hK _ _ trivial (λhHeld=>?_);clear hK K;(try simp only[pQ]);refine r2 5 12 (λK hK=>?_) λK hK=>?_
    focus
     go_simp;refine hK _ _ trivial (λhHeld=>?_);clear hK K;(try simp only[pQ]);refine r1 12 λK hK=>?_;go_simp;(go_at_call 114;refine(Np Z p0 p1 p2 T f w6 aB aE aC).j ?_;rintro e' w7 ⟨q0,q1,q2,rfl,am,O⟩);(try go_wp2_with fail);refine hK _ _ trivial (λhHeld=>?_);clear hK K;(try simp only[pQ]);have B7:=Ad (B6.thn O);have e9:=zab O e8;clear O
    rotate_left
    focus
     go_simp;(go_at_call 114;refine(Np Z p0 p1 p2 T f w6 aB aE aC).j ?_;rintro e' w7 ⟨q0,q1,q2,rfl,am,O⟩);(try go_wp2_with fail);refine hK _ _ trivial (λhHeld=>?_);clear hK K;(try simp only[pQ]);have B7:=Ad (B6.thn O);have e9:=zab O e8;clear O;refine r1 5 λK hK=>?_;go_simp;refine hK _ _ trivial (λhHeld=>?_);clear hK K;(try simp only[pQ])
    rotate_left
    all_goals
     refine r1 13 λK hK=>?_;go_simp;(go_at_call 109;(try rw[af]);refine(HG1 (pre++ys) w7 q0 q1 q2 (aA.C B7) (aG _ _ _ JR B7) az am).j ?_;intro e' w8 ah;obtain⟨b,rfl,aj,ai⟩:=ah.one;clear ah);(try go_wp2_with fail);refine hK _ _ trivial (λhHeld=>?_);clear hK K;(try simp only[pQ]);refine sr 14 16 ?_;refine wpAnyH_done qg ?_ _;refine Yb ?_;clear af HG1 az aI am hHeld e0 e1 e2 e3 v0 v1 v2 e8 e9 d0 d1 d2 d3 u0 u1 u2 x0 aH hJ;cases b
     .have HBX:=Ad (ai rfl);clear ai aj;exact jC
     obtain⟨ay,aq,ar,ao⟩:=aj rfl;obtain⟨ax,aw,au⟩:=AK ar aq ao;clear ar aq ao aj ai;simp only[Wi];go_wp2;exact⟨⟨j+1,ys++ay,qm,qd,jZ,jT,KR.c ((De.u B7).c au)⟩,qe⟩
   go_simp;refine hK _ _ trivial (λhHeld=>?_);clear hK K;(try simp only[pQ]);refine r2 5 8 (λK hK=>?_) λK hK=>?_
   .go_simp;refine hK _ _ trivial (λhHeld=>?_);clear hK K;(try simp only[pQ]);refine r1 8 λK hK=>?_;exact jF
   go_simp;refine hK _ _ trivial (λhHeld=>?_);clear hK K;(try simp only[pQ]);refine r2 5 12 (λK hK=>?_) λK hK=>?_
   .exact jF
   go_simp;(go_at_call 114;refine(Np Z p0 p1 p2 T f w6 aB aE aC).j ?_;rintro e' w7 ⟨q0,q1,q2,rfl,am,O⟩);(try go_wp2_with fail);refine hK _ _ trivial (λhHeld=>?_);clear hK K;(try simp only[pQ]);have B7:=Ad (B6.thn O);have e9:=zab O e8;refine r1 5 λK hK=>?_;go_simp;refine hK _ _ trivial (λhHeld=>?_);(try simp only[pQ]);exact tx
  go_simp;refine hK _ _ trivial (λhHeld=>?_);(try simp only[pQ]);refine r1 0 λK hK=>?_;go_simp;refine hK _ _ trivial (λhHeld=>?_);(try simp only[pQ]);refine r1 3 λK hK=>?_;go_simp;(go_at_call 113;refine(aI _ Au.drew).j ?_;rintro e' w6 ⟨rfl,d⟩);(try go_wp2_with fail);refine hK _ _ trivial (λhHeld=>?_);(try simp only[pQ]);have e0:=zab d d0;have e1:=zab d d1;have e2:=zab d d2;have e3:=zab d d3;have v0:=zab d u0;have v1:=zab d u1;have v2:=zab d u2;have e8:=zab d x0;have B6:=Ad (show Bw wr w6 from Au.drew.c (d.j qf));refine sr 4 5 ?_;refine sr 6 8 ?_;refine sr 9 10 ?_;refine sr 11 12 ?_;refine wpAnyH_ready (rs:=[5,8,10]) qg qf (y9 (yj.c rfl) (λK hK=>?_) (y9 (yj.c rfl) (λK hK=>?_) (y9 (yj.c rfl) (λK hK=>?_) Yd)))
  .go_simp;refine hK _ _ trivial (λhHeld=>?_);(try simp only[pQ]);refine r2 8 10 (λK hK=>?_) λK hK=>?_
   focus
    go_simp;refine hK _ _ trivial (λhHeld=>?_);(try simp only[pQ]);refine r1 10 λK hK=>?_
   rotate_left
   focus
    go_simp;refine hK _ _ trivial (λhHeld=>?_);(try simp only[pQ]);refine r1 8 λK hK=>?_
   rotate_left
   all_goals
    go_simp;refine hK _ _ trivial (λhHeld=>?_);(try simp only[pQ]);refine r1 12 λK hK=>?_;go_simp;(go_at_call 114;refine(Np Z p0 p1 p2 T f w6 aB aE aC).j ?_;rintro e' w7 ⟨q0,q1,q2,rfl,am,O⟩);(try go_wp2_with fail);refine hK _ _ trivial (λhHeld=>?_);(try simp only[pQ]);have B7:=Ad (B6.thn O);have e9:=zab O e8;refine r1 13 λK hK=>?_;go_simp;(go_at_call 109;(try rw[af]);refine(HG1 (pre++ys) w7 q0 q1 q2 (aA.C B7) (aG _ _ _ JR B7) az am).j ?_;intro e' w8 ah;obtain⟨b,rfl,aj,ai⟩:=ah.one;clear ah);(try go_wp2_with fail);refine hK _ _ trivial (λhHeld=>?_);(try simp only[pQ]);refine sr 14 16 ?_;refine wpAnyH_done qg ?_ _;refine Yb ?_;cases b
    .have HBX:=Ad (ai rfl);exact jC
    obtain⟨ay,aq,ar,ao⟩:=aj rfl;obtain⟨ax,aw,au⟩:=AK ar aq ao;simp only[Wi];go_wp2;exact⟨⟨j+1,ys++ay,qm,qd,jZ,jT,KR.c ((De.u B7).c au)⟩,qe⟩
  .go_simp;refine hK _ _ trivial (λhHeld=>?_);(try simp only[pQ]);refine r2 5 10 (λK hK=>?_) λK hK=>?_
   .go_simp;refine hK _ _ trivial (λhHeld=>?_);(try simp only[pQ]);refine r1 10 λK hK=>?_;exact sY
   exact tz
  go_simp;refine hK _ _ trivial (λhHeld=>?_);(try simp only[pQ]);refine r2 5 8 (λK hK=>?_) λK hK=>?_
  .go_simp;refine hK _ _ trivial (λhHeld=>?_);(try simp only[pQ]);refine r1 8 λK hK=>?_;exact sY
  exact tz
 have bt:j=fs.length:=qd;subst bt;have hy:¬(fs.length:Int)<(fs.length:Int):=qd;go_wp2;go_ret;exact .inl ⟨rfl,ys,by rw[aD.o,yZ];exact aT.z,JR,(De.u B3).c KR⟩
end
end Go.Proofs.YtikojfajahnhgaaGreat
