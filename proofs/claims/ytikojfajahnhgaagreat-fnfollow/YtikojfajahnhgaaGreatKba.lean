import Derived.Test.YtikojfajahnhgaaGreatKat
import Derived.Test.YtikojfajahnhgaaGreatKay
import Derived.Test.YtikojfajahnhgaaGreatShf
import Derived.Shelf.SlSortCmp.WholeK
set_option linter.all false
set_option maxHeartbeats 6400000
set_option maxRecDepth 100000
namespace Go.Proofs.YtikojfajahnhgaaGreat
open Go.RowKit Go.Proofs.Tryz
attribute [local go_sem ↓] wp_at_zero wp_at_succ
attribute [local simp] At I6 Pn mzI Bk
attribute [local go_sem] At I6 Pn Bk
def wP{xs ys:As}{i:Nat}{x y}(c:xs[i]?=some x)(a:ys[i]?=some y)(b:x≠y):xs≠ys:=λe=>by
 subst e;rw[c]at a;injection a with a;exact b a
def zkP(xs ys a b ca cb w)(c:CJ none w a xs)(d:CJ none w b ys)(hl:xs.length<=1048576):Ca 123 #[.slice a xs.length ca,.slice b ys.length cb] w λe w'=>e=.returned (.bool (decide (xs=ys)))/\Bw w w':=by
 by_cases t:xs.length=ys.length;rotate_left
 .have l:((xs.length:Int)==(ys.length:Int))=false:=by simp;omega
  have g:decide (xs=ys)=false:=decide_eq_false λe=>t Ij;rw[g];clear c d;go_enter func123,ntmps123;go_wp2;go_ret;exact⟨rfl,Au⟩
 obtain⟨q,s⟩:=An c d;clear c d;have l:((xs.length:Int)==(ys.length:Int))=true:=by simp;omega
 go_enter func123,ntmps123;go_wp2
 go_loopw [13] (λiv wr=>∃i:Nat,iv=I6 (i:Int)/\i<=xs.length/\xs.take i=ys.take i/\Bw w wr) (λiv _=>((xs.length:Int)-intOf iv).toNat)
 .exact⟨0,rfl,qd,qf,Au⟩
 obtain⟨i,rfl,v,m,n⟩:=hrel;obtain⟨k,f⟩:=An m n;by_cases j:i<xs.length
 .have r:=Hk j;have C:(i:Int)<(ys.length:Int):=qd;have D:(0:Int)<=(i:Int):=qd;obtain⟨x,c⟩:=Bq j;obtain⟨y,d⟩:∃y,ys[i]?=some y:=⟨ys[i]'(by omega),qf⟩
  obtain⟨xb,u,rfl,_,z⟩:=(q.e f).get c;obtain⟨yb,A,rfl,_,B⟩:=(s.e f).get d;have O:=Ad (And.intro c d);cases he:(x==y)
  .go_wp2;go_region;go_wp2;go_ret;refine⟨?_,f.drew⟩;have:xs≠ys:=wP O.1 O.2 TZ;simp[this]
  go_wp2;go_region;go_wp2;go_roundw
  case rel=>
   have e:x=y:=TZ;exact⟨i+1,qm,qd,by rw[Yc,Yc,O.o.1,O.o.2,k.o,e],f.drew⟩
  case measure=>(simp[intOf];omega)
 have r:=FN j;go_wp2;go_ret;refine⟨?_,f⟩;have p:xs=ys:=by
  have:=k.o;rwa [yR qd,yR qd]at this
 simp[p]
def re(x y:It)(a b ca cb w)(i:CJ none w a x.G)(k:CJ none w b y.G)(hl:x.G.length<=1048576):Ca 63 #[.agg #[I6 x.T,.slice a x.G.length ca],.agg #[I6 y.T,.slice b y.G.length cb]] w λe w'=>e=.returned (.bool (decide (x.T=y.T/\x.G=y.G)))/\Bw w w':=by
 obtain⟨l,m,O⟩:=AK i k (λo o'=>(Au.alloc Bg o).alloc qf o':∀o o',Bw w ((w.alloc o).alloc o'));cases d:(x.T==y.T)
 .have e:decide (x.T=y.T/\x.G=y.G)=false:=decide_eq_false λh=>by simp[h.1]at d
  rw[e];go_enter func63,ntmps63;go_wp2;go_ret;exact⟨rfl,O _ _⟩
 have f:x.T=y.T:=by simpa using d
 have e:decide (x.T=y.T/\x.G=y.G)=decide (x.G=y.G):=by simp[f]
 rw[e];go_enter func63,ntmps63;go_wp2_with fail;refine(zkP x.G y.G a b ca cb _ (l.e (O _ _)) (m.e (O _ _)) hl).j ?_;rintro e p ⟨rfl,g⟩;have n:=Ad ((O _ _).c (g.j qe));go_wp2;go_ret;exact⟨rfl,n⟩
def D_(x:It)(L:BN):Bool:=L.any (λy=>decide (x.T=y.T/\x.G=y.G))
def zl9(L:BN)(x:It)(z p:Af)(K B:Nat)(w:Aa)(hL:M9 w z L)(I:CJ none w p x.G)(hl:L.length<=1048576)(E:x.G.length<=1048576):Ca 15 #[.slice z L.length K,.agg #[.int .i64 x.T,.slice p x.G.length B]] w λe w'=>e=.returned (.bool (D_ x L))/\Below w.heap.size w w':=by
 obtain⟨U,R⟩:=An hL I;go_enter func15,ntmps15;go_upto_region 1 with fail;refine BF ?_;intro n v D;obtain⟨A,d⟩:=An (AE D) v;have a:=v.size;have ax:w.heap.size<n.heap.size:=Ap D;go_wp2
 go_loopw [9] (λiv wr=>∃i:Nat,iv=.int .i64 (i:Int)/\i<=L.length/\D_ x (L.take i)=false/\Below n.heap.size n wr) (λiv _=>((L.length:Int)-intOf iv).toNat)
 .exact⟨0,rfl,qd,rfl,y8 _ _⟩
 obtain⟨i,rfl,aA,ak,r⟩:=hrel;obtain⟨s,g⟩:=An ak r;have ar:=r.size;by_cases m:i<L.length
 .obtain⟨ay,Z⟩:=CZ m;obtain⟨y,k⟩:∃y,L[i]?=some y:=⟨L[i],by simp[m]⟩
  have C:=Ad (show D_ x (L.take (i+1))=(D_ x (L.take i)||decide (x.T=y.T/\x.G=y.G)) by unfold D_;rw[Yc,k,List.any_append];simp);obtain⟨lb,lo,Y,gc,rfl,J,c1,W⟩:=(U.e (d.c (g.j a))) i y k;have au:=yI _ ⟨_,_,none⟩ J;obtain⟨N,M⟩:=An W (yd k);go_upto_region 4 with fail;refine BF ?_;intro u O q;obtain⟨YB,f,H⟩:=AK (AE q) (g.c (O.j ar)) (N.e O);have az:=O.size;have aw:wr.heap.size<u.heap.size:=Ap q;have x0:=zab f A.1;have x1:=zab f A.2;obtain⟨y0,y1⟩:=YB.o;go_wp2_with fail;refine(re x y p Y B gc u (R.e (d.c (f.j a))) H E).j ?_;rintro e w3 ⟨b,aq⟩;have t:=Ad (f.c (aq.j qd))
  cases hd:decide (x.T=y.T/\x.G=y.G)
  .rw[hd]at b C;subst b;go_wp2;exact⟨⟨i+1,qm,qd,by rw[C.o,s.o];rfl,t.o⟩,qp⟩
  have l:=Ad (show D_ x L=true from WM.2 ⟨y,M,hd⟩);rw[hd]at b;subst b;go_wp2;go_ret;exact⟨by rw[l.o];rfl,d.c (t.j a)⟩
 have Z:=FN m;have l:=Ad (show D_ x L=false by have:=s.o;rwa [yR qd]at this);go_wp2;go_ret;exact⟨by rw[l.o];rfl,d.c (g.j a)⟩
def zjQ(L a b ca cb w)(d:M9 w a L)(t:M9 w b L)(hl:L.length<=2000000)(O:∀x∈L,x.G.length<=1048576):Ca 16 #[.slice a L.length ca,.slice b L.length cb] w λe w'=>e=.returned (.bool true)/\Bw w w':=by
 obtain⟨y,B,A⟩:=AK d t O;clear d t O;go_enter func16,ntmps16;go_wp2
 go_loopw [13] (λiv wr=>∃i:Nat,iv=I6 (i:Int)/\i<=L.length/\Bw w wr) (λiv _=>((L.length:Int)-intOf iv).toNat)
 .exact⟨0,rfl,qd,Au⟩
 obtain⟨i,rfl,H,f⟩:=hrel;have q:=Ad f;by_cases g:i<L.length
 .obtain⟨x,d⟩:=Bq g;obtain⟨N,z⟩:=CZ g;obtain⟨xb,p,n,l,rfl,E,K,D⟩:=(y.e f) i x d;obtain⟨yb,s,u,m,rfl,J,M,C⟩:=(B.e f) i x d;have r:=Ad (λw'(h:Bw wr w')=>re x x n u l m w' (D.e h) (C.e h) (A x (yd d)));have hd:decide (x.T=x.T/\x.G=x.G)=true:=qf;rw[hd]at r;go_wp2_with fail
  go_region_held3 (λw'=>At w' xb (p+i*2) (I6 x.T)/\At w' xb (p+i*2+1) (.slice n x.G.length l)/\At w' yb (s+i*2) (I6 x.T)/\At w' yb (s+i*2+1) (.slice u x.G.length m)) (first|(go_split_ands;(refine⟨?_,?_,?_,?_⟩<;>first|with_reducible assumption|exact zab Au.drew qk|exact zab k qk|(simp[*];done));done)|fail) (first|(go_at_call 63;refine(r.o _ Au.drew).rtn λI k=>?_;have v:=Ad (Au.drew.c (k.j (show wr.heap.size<=wr.drew.heap.size from yA _))))|fail)
  go_wp2;exact⟨⟨i+1,qm,qd,q.thn v⟩,qp⟩
 have z:=FN g;go_wp2;go_ret;exact⟨rfl,q⟩
def L9{α β:Type}(g:α->β){l:List α}{j x}(h:l[j]?=some x):(l.take (j+1)).map g=(l.take j).map g++[g x]:=by
 rw[Yc,h];simp
def sO(rs fs a c fa fc){q}(w)(hv:Fg q w a rs)(hf:Cs w fa fs)(b:DZ rs fs=true) :
  Ca 50 #[.slice a rs.length c,.slice fa fs.length fc] w (Pj (Dy fs 0 rs) w):=by
 obtain⟨HV,HF,HB,HA,HS⟩:=Ei hv hf (λk=>iG b k) (λr(h:r∈rs)=>c_ b h) (λr(h:r∈rs)=>Oy (MI b).1 h);have am:=(MI b).2.2;have aR:=Rm (MI b).1;go_enter func50,ntmps50;go_wp2
 go_loopw [14,5] (λiv B wr=>∃(k:Nat)(m:Af)(t:Nat)(M:Bj),iv=I6 (k:Int)/\k<=rs.length/\B=.slice m M.length t/\M.map Prod.fst=Dy fs 0 (rs.take k)/\Iw wr w.heap.size w.heap.size m t M/\Bw w wr) (λiv _ _=>rs.length-(intOf iv).toNat)
 .exact⟨0,none,0,[],rfl,yn _,rfl,rfl,Iw.nil _ _ _,Au⟩
 obtain⟨k,m,t,M,rfl,a0,rfl,hM,I,f⟩:=hrel;obtain⟨D,ROW,n⟩:=AK hM I f;have aV:=f.size;by_cases J:k<rs.length
 .obtain⟨r,b⟩:=Bq J;obtain⟨rb,ro,aA,aB,aL,au,aN,aJ,rfl,_,c0,c1,c2,c3,c4,aP,_,_,_⟩:=(HV.e n).get b;have Y:=yd b;obtain⟨aK,aH,_⟩:=HS r Y;obtain⟨aI,aO,aD⟩:=AK (λw'(h:Bw wr w')=>oq r fs aA aB aL au aN aJ fa fc w' (aP.e h) ((HF.e n).e h) aK aH am) (od fs b) (HA r Y);obtain⟨z0,z1⟩:=CZ J;go_upto_region 5 with fail;refine BF ?_;intro w1 L aC;obtain⟨b0,b1,b2,b3,b4⟩:=Fq aC;obtain⟨H1,R1,B1⟩:=AK L (ROW.C L) (n.thn L);go_wp2_with fail;refine(aI w1 H1).j ?_;rintro e w2 ⟨⟨pa,pc,P,rfl,hP,hp⟩,z⟩;obtain⟨PP,HP,R2,B2⟩:=BP hP hp (R1.C z) (B1.thn z);have aX:P.length<=64000:=by have:=congrArg List.length hp;rw[yu]at this;rw[this];exact aD.1
  have aZ:M.length<=1024000:=by have:=congrArg List.length D;rw[yu]at this;rw[this];exact(HB k).1
  have a4:=z.size;have aa:=H1.size;go_wp2
  go_loopw [27,5] (λiv B wr=>∃(j:Nat)(u:Af)(l:Nat)(N:Bj),iv=I6 (j:Int)/\j<=P.length/\B=.slice u N.length l/\N.map Prod.fst=M.map Prod.fst++(P.take j).map (λy=>(⟨(k:Int),y.1.G⟩:It))/\Iw wr w.heap.size w.heap.size u l N/\MO wr w.heap.size w.heap.size pa pc P/\Bw w wr) (λiv _ _=>P.length-(intOf iv).toNat)
  .exact⟨0,m,t,M,rfl,yn _,rfl,qf,R2,⟨C4 PP.row qd,λx R=>(PP.all x R).lower qd⟩,B2⟩
  obtain⟨j,u,l,N,rfl,aS,rfl,hN,I,aw,f⟩:=hrel;obtain⟨HN,RR,T,W⟩:=BP hN I aw f;have aU:N.length<=1088000:=by have:=congrArg List.length hN;rw[yu,yM,yu,yu,YL]at this;omega
  have aQ:=f.size;by_cases hj:j<P.length
  .obtain⟨y,d⟩:=Bq hj;have ao:=Ad (L9 (λy:Mn=>(⟨(k:Int),y.1.G⟩:It)) d);obtain⟨⟨s,bd⟩,tv,bv⟩:=y;obtain⟨lb,rfl,aY,y0,y1⟩:=T.get d;obtain⟨⟨K,A,e1⟩,⟨ba,bc,e2⟩,aq,_⟩:=T.all _ (yd d);simp only at e1 e2 aq y0 y1 ao;subst e1 e2;have OT:=Ad aq;obtain⟨z2,z3⟩:=CZ hj;go_upto_region 9 with fail;refine BF ?_;intro E i aM;obtain⟨f0,f1⟩:=AE aM;obtain⟨v,U,B4,ay⟩:=BP (RR.C i) (T.C i) (W.thn i) (AZ OT i);obtain⟨NX,O⟩:=An (show Hi E w.heap.size (⟨(k:Int),s⟩,.slice K s.length A) from⟨⟨K,A,rfl⟩,ay⟩) (λo'=>Au.alloc Bg o':∀o',Bw E (E.alloc o'));have aW:=i.size;go_wp2_with (first|(at_builtin;refine Dp qh (.tmp 31) (.tmp 36) 36 qh w.heap.size 45 _ 2 32 underlying36 Nc qh qd _ N.length _ qh (AZ v.row (O _)) (some ⟨_,0,none⟩) 1 1 qh (Ef (⟨(k:Int),s⟩,.slice K s.length A)) qh (λe=>qo) (CH _ _ _ _ qf) (iD NX) qj qd qe ?_;intro a3 c3 w8 az p aT)|fail);obtain⟨R8,Z⟩:=An (Iw.snoc (v.C (O _)) (NX.C (O _)) az p) (λo g H=>A7 (AZ v.row (O o)) (k:=g) H);obtain⟨P8,B8⟩:=An (show MO w8 w.heap.size w.heap.size (some ⟨lb,0,none⟩) pc P from⟨JZ (AZ U.row (O _)) p (Z _) qi,λx R=>((U.all x R).C (O _)).grown p (Z _) qi qi⟩) ((B4.c ((O _).j B4.size)).grown p qe (λg H=>(v.row.lt g H).1));go_roundw;exact⟨j+1,a3,c3,_,qm,qd,qf,by rw[yz,HN.o,ao.o,<-yY];rfl,R8,P8,B8⟩;simp[intOf];omega
  have aG:j=P.length:=qd;have d:=FN hj;have aF:=Ad (show N.map Prod.fst=Dy fs 0 (rs.take (k+1)) by
   rw[HN.o,D.o,aO.o,aG,yZ,<-HP.o,Yl];rfl)
  go_wp2;exact⟨⟨k+1,u,l,N,qm,qd,rfl,aF,RR,W⟩,qp⟩
 have aE:k=rs.length:=qd;have d:=FN J;have ax:=Ad (show Dy fs 0 rs=M.map Prod.fst by rw[D.o,aE,yZ]);go_wp2;go_ret;exact Pj.mk ax ROW n
def Rt{rs:Az}{a b c:Int}(O:Hid (Cf rs=(0,0,0)))(hx:Hid (Cf rs=(a,b,c)))(h:a≠0:=by decide):False:=by
 have:=O.z.c hx;simp only[YF]at this;exact h this.1.z
def uP{P:Prop}(h:P:=by
 have HX:Hid (Cf rs=(5,(k:Int),((x.x.length+1+m:Nat):Int))):=show Cf rs=_ from by
  have h1:CU x=some (x.x.length+1+m):=by rw[HM.o,aD.o,J8,show EH (Ag x.x) y=false by simp[EH,ai];omega];rfl
  rw[HG.o,HD.o,PV,ah.o,h1,if_neg (by simp)]
 exact(Rt H0 HX).elim
 ):P:=h
def zhR(a:Af)(c:Nat)(rs:Az)(q:AD)(w:Aa)(hv:Fg q w a rs)(hc:rs.length<=c)(Z:FD Ru.le 1048576 rs)(ho:∀x∈rs,Jd x.A)(H0:Hid (Cf rs=(0,0,0))) :
  Ca 102 #[.slice a rs.length c] w λe w'=>e=.returned (So (Cf rs))/\Bw w w':=by
 obtain⟨hl,Z⟩:=Z;by_cases aY:16<rs.length
 .have aU:=Hk aY;have Y:Hid (Cf rs=(1,0,0)):=show Cf rs=_ from by unfold Cf;rw[if_neg qd]
  exact(Rt H0 Y).elim
 have aU:=FN aY;have Y:Hid (Cf rs=Gj [] rs 0):=show Cf rs=_ from by unfold Cf;rw[if_pos qd]
 obtain⟨a0,bi⟩:=An Z ho;go_enter func102,ntmps102;go_wp2
 go_loopw [17] (λi wr=>∃(k:Nat),k<=rs.length/\i=I6 k/\Cf rs=Gj (rs.take k) (rs.drop k) k/\Rz w.heap.size wr/\Bw w wr) (mz rs.length)
 .exact⟨0,qd,rfl,by rw[Y.o];rfl,Rz.aO _ _,Ar⟩
 obtain⟨k,hk,rfl,hG,L,E⟩:=hrel;obtain⟨HG,bd⟩:=An hG L;by_cases bg:k<rs.length
 .obtain⟨x,C⟩:=Bq bg;have a8:=hv.e E;obtain⟨b,o,p,g,f,d,r,n,rfl,hq,W,c1,c2,c3,c4,ao,s,aq,bk⟩:=a8.get C;have aW:=a0 x (yd C);have a4:=bi x (yd C);have HD:Hid (rs.drop k=x::rs.drop (k+1)):=Dx C;have HT:Hid (rs.take (k+1)=rs.take k++[x]):=OA rs k x C;obtain⟨t,rfl⟩:=AF wr;obtain⟨HP,HE,HA,D⟩:=BP ao s aq (λhn w'(u:Bw t w')=>zmn x p g f d r n (q:=q) w' (ao.e u) (s.e u) (aq.e u) aW a4 hn);have aN:=Fu.aO t 53 x p g f d r n;have aO:=Ad aN;cases O:AO x with
  |some i=>
   have HX:Hid (Cf rs=(1,(k:Int),(i:Int))):=show Cf rs=_ from by
    have h1:CC (rs.take k) x=(1,(i:Int)):=by unfold CC;rw[O]
    rw[HG.o,HD.o,PV,h1,if_neg qf]
   exact(Rt H0 HX).elim
  |none=>
   have D:=Ad (D O);rw[O]at D;simp only[Pa]at D;have z0:(0:Int)<=(k:Int):=qd;have z1:(k:Int)<=(c:Int):=qd;go_wp2_with (go_at_call 167;refine(D _ Ar).rtn λw1 aH=>?_);have aQ:Bw t w1:=Ar.thn aH;have aP:=aO.e aH;have aZ:=(bd.e Ar).e aH;have bj:=E.thn aQ
   go_loopw [33] (λi wr=>∃(j:Nat),j<=k/\i=I6 j/\(rs.take k).any (λo=>decide (o.name=x.name))=((rs.take k).drop j).any (λo=>decide (o.name=x.name))/\Fu wr t.heap.size x p g f d r n/\Rz w.heap.size wr/\Bw t wr) (mz k)
   .exact⟨0,qd,rfl,rfl,aP,aZ,aQ⟩
   obtain⟨j,hj,rfl,hN,R,L,I⟩:=hrel;obtain⟨HN,HBX,N⟩:=AK hN R L;have a9:Bw w wr:=E.thn I;have aa:(rs.take k).length=k:=by simp;omega
   by_cases aL:j<k
   .obtain⟨y,G⟩:∃y,(rs.take k)[j]?=some y:=⟨(rs.take k)[j]'(by omega),yK _⟩
    have aS:Fg q wr (some ⟨b,o,none⟩) (rs.take k):=CI.take (hv.e a9) k;obtain⟨b2,o2,a1,k1,a2,k2,a3,k3,ee,hq,W,c1,c2,c3,c4,_,_,_⟩:=aS.get G;cases ee;have aX:Hid ((rs.take k).drop j=y::(rs.take k).drop (j+1)):=Dx G;have bp:∀o,At (wr.alloc o) t.heap.size 0 (.string x.name):=λo=>zab (Gp o) R.1;have bo:t.heap.size<wr.heap.size:=Oo R.1;obtain⟨v0,v1⟩:=CZ aL;cases U:(y.name.toList==x.name.toList)
    .have HX:Hid ((rs.take k).any (λo=>decide (o.name=x.name))=((rs.take k).drop (j+1)).any (λo=>decide (o.name=x.name))):=show _=_ from by
      rw[Gu]at U;rw[HN.o,aX.o,List.any_cons,U];rfl
     go_wp2;exact⟨⟨j+1,qd,qm,HX,HBX.e Ar,N.e Ar,I.alloc I.size _⟩,qe⟩
    have HX:Hid (Cf rs=(2,(k:Int),0)):=show Cf rs=_ from by
     have h1:CC (rs.take k) x=(2,0):=by
      rw[Gu]at U;unfold CC;rw[O];simp only;rw[HN.o,aX.o,List.any_cons,U];rfl
     rw[HG.o,HD.o,PV,h1,if_neg qf]
    exact(Rt H0 HX).elim
   have aG:Hid ((rs.take k).any (λo=>decide (o.name=x.name))=false):=show _=_ from by rw[HN.o,yH qd];rfl
   have bm:Ag x.x<=x.x.length:=Kw;obtain⟨bt,bu,bl,bv,bc,bf⟩:=VJ O;obtain⟨bh,aI⟩:=An (λw'(u:Bw t w')=>sR x p g f d r n (q:=q) w' (HP.e u) qd) (λw'(u:Bw t w')=>zmN x p g f d r n (q:=q) w' (HP.e u) (HE.e u) (HA.e u) aW O);have bq:=FN aL;obtain⟨q0,q1,q2,q3,q4⟩:=R;by_cases hr:1<=Ag x.x/\Ag x.x<=3
   .have ah:Hid (CC (rs.take k) x=match Bp x with|some i=>(4,(i:Int))|none=>match CU x with|some i=>(5,(i:Int))|none=>(0,0)):=show CC (rs.take k) x=_ from by
     unfold CC;rw[O];simp only;rw[aG.o,if_neg qi,if_pos hr];cases Bp x with
     |some i=>rfl
     |none=>cases CU x<;>rfl
    have r0:¬(Ag x.x:Int)<1:=qd;have r1:¬(3:Int)<(Ag x.x:Int):=qd;cases aT:Bp x with
    |some i=>
     rw[aT]at ah;have br:(0:Int)<=(i:Int):=qd;have HX:Hid (Cf rs=(4,(k:Int),(i:Int))):=show Cf rs=_ from by rw[HG.o,HD.o,PV,ah.o,if_neg qf]
     exact(Rt H0 HX).elim
    |none=>
     rw[aT]at aI ah;simp only[Pa]at aI;simp only at ah;go_wp2_with (first|(go_at_call 54;refine(bh _ I).rtn λw2 B=>?_;obtain⟨s0,s1,s2,s3,s4⟩:=HBX.e B;have aF:=I.thn B;obtain⟨y0,y1,y2,f0,f1,f2⟩:=(N.e B).get)|(go_at_call 168;refine(aI _ aF).rtn λw3 H=>?_;obtain⟨t0,t1,t2,t3,t4⟩:=(HBX.e B).e H;have aR:=aF.thn H;obtain⟨v0,v1,v2,g0,g1,g2⟩:=((N.e B).e H).get)|fail);have aM:=(HBX.e B).e H;have aB:=(N.e B).e H
     go_loopw [65] (λi aJ=>∃(m:Nat),m<=x.K.length/\i=I6 m/\CU x=Eu (EH (Ag x.x)) (x.K.drop m) (x.x.length+1+m)/\Fu aJ t.heap.size x p g f d r n/\Rz w.heap.size aJ/\Bw t aJ) (mz x.K.length)
     .exact⟨0,qd,rfl,rfl,aM,aB,aR⟩
     obtain⟨m,hm,rfl,hM,az,aB,af⟩:=hrel;obtain⟨HM,aE,ax⟩:=AK hM az aB;have aV:Bw w wr:=E.thn af;by_cases a6:m<x.K.length
     .obtain⟨y,G⟩:=Bq a6;obtain⟨b4,o4,M,T,ee,hq,W,c1,c2,c3,J⟩:=(HA.e af).get G;subst ee;have aD:Hid (x.K.drop m=y::x.K.drop (m+1)):=Dx G;have bn:=λo=>zab (Gp o) az.2.2.1;by_cases ai:y.w=2∨y.w=3
      .rcases ai with ai|ai
       all_goals rw[ai]at W
       rotate_left;rotate_left
       all_goals
        by_cases k1:y.k<1
        .exact uP
        by_cases k2:(Ag x.x:Int)<y.k
        .exact uP
        have HX:Hid (CU x=Eu (EH (Ag x.x)) (x.K.drop (m+1)) (x.x.length+1+(m+1))):=show CU x=_ from by rw[HM.o,aD.o,J8,show EH (Ag x.x) y=true by simp[EH];omega];rfl
        go_wp2;exact⟨⟨m+1,qd,qm,HX,aE.e Ar,ax.e Ar,af.alloc af.size _⟩,qe⟩
      have a7:¬y.w=2:=λh=>ai (.inl h);have a5:¬y.w=3:=λh=>ai (.inr h);have HX:Hid (CU x=Eu (EH (Ag x.x)) (x.K.drop (m+1)) (x.x.length+1+(m+1))):=show CU x=_ from by rw[HM.o,aD.o,J8,show EH (Ag x.x) y=true by simp[EH,a7,a5]];rfl
      go_wp2;exact⟨⟨m+1,qd,qm,HX,aE.e Ar,ax.e Ar,af.alloc af.size _⟩,qe⟩
     have h1:CU x=none:=by rw[HM.o,yH qd];rfl
     have HX:Hid (Cf rs=Gj (rs.take (k+1)) (rs.drop (k+1)) (k+1)):=show Cf rs=_ from by rw[HG.o,HD.o,PV,ah.o,h1,if_pos rfl,HT.o]
     go_wp2;exact⟨⟨k+1,qd,qm,HX,ax,aV⟩,qe⟩
   have ah:Hid (CC (rs.take k) x=(3,0)):=show CC (rs.take k) x=_ from by
    unfold CC;rw[O];simp only;rw[aG.o,if_neg qi,if_neg hr]
   have HX:Hid (Cf rs=(3,(k:Int),0)):=show Cf rs=_ from by rw[HG.o,HD.o,PV,ah.o,if_neg qf]
   exact(Rt H0 HX).elim
 have HX:Hid (Cf rs=(0,0,0)):=show Cf rs=_ from by rw[HG.o,yH qd];rfl
 obtain⟨y0,y1,y2,f0,f1,f2⟩:=L.get;go_wp2;refine bodyPost_ret (v:=.agg #[I6 0,I6 0,I6 0]) (by simp[results,results102,go_sem,y0,y1,y2]) rfl ⟨by rw[HX.o];rfl,?_⟩;exact((E.setCell Bg _).setCell Bg _).setCell Bg _
def iM(rs a c){q}(w)(hv:Fg q w a rs)(g:rs.length<=c)(i:FD Ru.le 1048576 rs)(j:∀x∈rs,Jd x.A)(O:(Cf rs).1=0):Ca 49 #[.slice a rs.length c] w λe w'=>e=.returned (.bool true)/\Bw w w':=by
 have d:=ZH O;have b:=Ad (zhR a c rs q w hv g i j d);rw[d]at b;unfold So at b;go_enter func49,ntmps49;go_wp2_with (go_at_call 102;with_reducible refine b.o.rtn λk f=>?_);go_ret;exact⟨rfl,f⟩
def zmJ(rs fs a c fa fc){q}(w)(hv:Fg q w a rs)(j:rs.length<=c)(s:FD Ru.le 1048576 rs)(m:∀x∈rs,Jd x.A)(p:Cs w fa fs)(hl:fs.length<=1048576)(i:∀f∈fs,A6 f)(o:DZ rs fs=true) :
  Ca 64 #[.slice a rs.length c,.slice fa fs.length fc] w λe w'=>e=.returned (.bool true)/\Bw w w':=by
 obtain⟨n,r,_⟩:=MI o;obtain⟨l,b⟩:=An (iM rs a c w hv j s m n) (λw'(g:Bw w w')=>iF fa fc fs w' (p.e g) hl i);rw[r]at b;go_enter func64,ntmps64;go_wp2_with fail;refine l.rtn λk O=>?_;go_wp2_with fail;refine(b k O).rtn λt d=>?_;go_wp2;go_ret;exact⟨rfl,O.thn d⟩
def zjH(rs fs a c fa fc){q}(w)(hv:Fg q w a rs)(n:rs.length<=c)(z:FD Ru.le 1048576 rs)(u:∀x∈rs,Jd x.A)(d:Cs w fa fs)(hl:fs.length<=1048576)(m:∀f∈fs,A6 f)(b:DZ rs fs=true) :
  Ca 17 #[.slice a rs.length c,.slice fa fs.length fc] w (Pj (Dy fs 0 rs) w):=by
 obtain⟨i,t⟩:=An (zmJ rs fs a c fa fc w hv n z u d hl m b) (λw'(h:Bw w w')=>sO rs fs a c fa fc w' (hv.e h) (d.e h) b);go_enter func17,ntmps17;go_wp2_with fail;refine i.rtn λs O=>?_;go_wp2_with fail;refine(t s O).j ?_;rintro e B ⟨⟨k,o,M,rfl,g,p⟩,l⟩;obtain⟨v,r,y⟩:=AK p (g.lower O.size O.size) (O.thn l);go_wp2;go_ret;exact⟨⟨k,o,M,rfl,r,v⟩,y⟩
def zsA:(prog.info? 3).map (λi=>(i.zero,i.size,i.bytes))=some (some (I6 0),1,8):=qg
def Lp(n:Nat):As:=List.replicate n 0
def zsb(k):Lp (k+1)=Lp k++[0]:=List.replicate_succ'
def ztG(rs a c){q}(w)(hv:Fg q w a rs)(hl:rs.length<=16)(K:∀w',Bw w w'->Ca 49 #[.slice a rs.length c] w' λe U=>e=.returned (.bool true)/\Bw w' U)(az:(Cf rs).1=0) :
  Ca 12 #[.slice a rs.length c,I6 0] w λe w'=>
   (∃d f,e=.returned (.slice d (Lp rs.length).length f)/\w'.ownsRow w.heap.size 3 1 (.slice d (Lp rs.length).length f) (Lp rs.length).length (Ay (Lp rs.length)))/\Bw w w':=by
 obtain⟨Z,HK⟩:=An (K w Au) az;go_enter func12,ntmps12;go_wp2_with (first|(go_at_call 49;refine Z.j ?_;rintro e w1 ⟨rfl,B⟩)|fail)
 go_loopw [5,23] (λv i wr=>∃(k:Nat)(d:Af)(f:Nat),k<=rs.length/\i=I6 k/\v=.slice d k f/\wr.ownsRow w.heap.size 3 1 (.slice d k f) k (Ay (Lp k))/\Bw w wr) (λ_ i _=>rs.length-(intOf i).toNat)
 .exact⟨0,none,0,qd,rfl,rfl,yJ _ _ _ _,B⟩
 obtain⟨k,d,f,hk,rfl,rfl,m,l⟩:=hrel;have s:=Ad m;by_cases N:k<rs.length
 .obtain⟨x,A⟩:=Bq N;obtain⟨b,o,a1,c1,I,Y,T,C,rfl,_,d0,d1,d2,d3,d4,O,_,_,_⟩:=(hv.e l).get A;obtain⟨p6,t6,p3⟩:=Oy HK (yd A);have HS:=Ad (zsb k);have R1:∀o,Bw wr (wr.alloc o):=λo=>Ar;obtain⟨D,E⟩:=An (λw' h=>sR x a1 c1 I Y T C (q:=none) w' h qd) (λw'(h:Bw wr w')=>O.ac.e h);have hbase:∀g,(Value.slice d k f).ownBlock=some g->w.heap.size<=g/\g<wr.heap.size:=λg r=>s.lt g r;obtain⟨G,p,J⟩:=AK hbase R1 (λw'(h:Bw wr w')=>AZ s h);go_wp2_with (first|(go_at_call 54;with_reducible refine(D.o _ (E.o _ (p.o _))).j ?_;rintro e w2 ⟨rfl,H⟩;have R:=(p.o _).c (H.j (p.o _).size);have n:=Ad R)|(at_builtin;refine Dp qh (.tmp 57) (.tmp 59) 30 qh w.heap.size 3 _ 1 8 underlying30 zsA qh qd _ k _ qh ((J.o _ n.o).alloc _) (some ⟨_,0,none⟩) 1 1 qh [I6 0] qh (λe=>qo) (CH _ _ _ _ qf) Ua qj qd (by have:=n.o.size;have:=l.size;simp;omega) ?_;intro z t y M W aD)|fail);have aE:=n.size;have L:Bw w y:=((l.c (n.j l.size)).alloc (by have:=l.size;omega) _).grown W (by have:=l.size;simp;omega) (λg r=>(G g r).1);have ah:y.ownsRow w.heap.size 3 1 (.slice z (k+1) t) (k+1) (Ay (Lp (k+1))):=by
   have:=M.o;rw[HS.o];simpa[Ay] using this
  go_roundw;exact⟨k+1,z,t,qd,qm,rfl,ah,L⟩;simp[intOf];omega
 go_wp2;go_ret;have ar:k=rs.length:=qd;subst ar;have h:=s.o;have u:(Lp rs.length).length=rs.length:=by simp[Lp]
 refine⟨⟨d,f,by rw[u];rfl,?_⟩,l⟩;rw[u];exact h
def mV(x y w):Ca 165 #[I6 x,I6 y] w λe w'=>e=.returned (I6 (Lib.compareInt x y))/\w'=w:=AnyG.cmp_Compare_int cmpI x y w
def Qe{a b}(h:b=a):Ending.returned (I6 a)=.returned (I6 b):=by rw[h]
def zpV{xs ys:As}{k x y}(b:xs[k]?=some x)(a:ys[k]?=some y):Bm (xs.drop k) (ys.drop k)=if Lib.compareInt x y=0 then Bm (xs.drop (k+1)) (ys.drop (k+1)) else Lib.compareInt x y:=by
 rw[Dx b,Dx a,Bm]
def Xa{P:Prop}(h:P:=by go_wp2;go_ret;exact⟨Qe (by rw[HG.o,HE.o]),rfl⟩):P:=h
def zmK(a p c A xs ys w){q q'}(hv:CJ q w a xs)(z:CJ q' w p ys)(hl:xs.length<=1048576)(v:ys.length<=1048576) :
  Ca 166 #[.slice a xs.length c,.slice p ys.length A] w λe w'=>e=.returned (.int .i64 (Bm xs ys))/\w'=w:=by
 go_enter func166,ntmps166;go_wp2
 go_loopw [11] (λi wr=>∃(k:Nat),k<=xs.length/\k<=ys.length/\i=.int .i64 k/\Bm xs ys=Bm (xs.drop k) (ys.drop k)/\wr=w) (mz xs.length)
 .exact⟨0,qd,qd,rfl,rfl,rfl⟩
 obtain⟨k,J,H,rfl,s,rfl⟩:=hrel;have HG:=Ad s;clear s;by_cases C:k<xs.length
 .obtain⟨x,l⟩:=Bq C;obtain⟨b,o,rfl,D,K⟩:=hv.get l;by_cases O:k<ys.length
  .obtain⟨y,f⟩:=Bq O;obtain⟨I,o',rfl,G,L⟩:=z.get f;obtain⟨n,g⟩:=An (zpV l f) (mV x y);by_cases d:Lib.compareInt x y=0
   .have B:=Ad d;rw[d]at g;clear d;go_wp2_with (go_at_call 165;refine(g _).j ?_;rintro e w' ⟨rfl,rfl⟩);exact⟨⟨k+1,qd,qd,qm,by rw[HG.o,n.o,if_pos B.o],by first|trivial|rfl⟩,qe⟩
   obtain⟨r,m⟩:∃r,Lib.compareInt x y=r:=⟨_,rfl⟩
   rw[m]at g d;obtain⟨t,u⟩:=An m d;go_wp2_with (go_at_call 165;refine(g _).j ?_;rintro e w' ⟨rfl,rfl⟩);go_ret;exact⟨Qe (by rw[HG.o,n.o,t.o,if_neg u.o]),rfl⟩
  have E:ys.length=k:=qd;have HE:=Ad (show Bm (xs.drop k) (ys.drop k)=1 from by rw[Dx l,(yH qd:ys.drop k=[])];rfl);exact Xa
 by_cases O:k<ys.length
 .obtain⟨y,f⟩:=Bq O;have HE:=Ad (show Bm (xs.drop k) (ys.drop k) = -1 from by rw[Dx f,(yH qd:xs.drop k=[])];rfl);have hlt:(xs.length:Int)<(ys.length:Int):=qd;exact Xa
 have HE:=Ad (show Bm (xs.drop k) (ys.drop k)=0 from by rw[(yH qd:xs.drop k=[]),(yH qd:ys.drop k=[])];rfl);have hlt:¬(xs.length:Int)<(ys.length:Int):=qd;exact Xa
def zsQ{xs:As}{k x}(a:xs[k]?=some x):LX (xs.drop k)=if x=0 then LX (xs.drop (k+1)) else x:=by
 rw[Dx a,LX]
def vZ(a c xs w){q}(hv:CJ q w a xs)(hl:xs.length<=1048576) :
  Ca 164 #[.slice a xs.length c] w λe w'=>e=.returned (.int .i64 (LX xs))/\w'=w:=by
 go_enter func164,ntmps164;go_wp2
 go_loopw [8] (λi wr=>∃(k:Nat),k<=xs.length/\i=.int .i64 k/\LX xs=LX (xs.drop k)/\wr=w) (mz xs.length)
 .exact⟨0,qd,rfl,rfl,rfl⟩
 obtain⟨k,n,rfl,l,rfl⟩:=hrel;have HG:=Ad l;by_cases g:k<xs.length
 .obtain⟨x,O⟩:=Bq g;obtain⟨b,o,rfl,m,p⟩:=hv.get O;have d:=Ad (zsQ O);by_cases f:x=0
  .subst f;go_wp2;exact⟨⟨k+1,qd,qm,by rw[HG.o,d.o,if_pos rfl],by first|trivial|rfl⟩,qe⟩
  have j:=Ad f;go_wp2;go_ret;exact⟨Qe (by rw[HG.o,d.o,if_neg j.o]),rfl⟩
 have HE:=Ad (show LX (xs.drop k)=0 from by rw[yH qd];rfl);exact Xa
section
open Go.Sort Go.Lib Go.Shelf

end
def zsp(w:Aa)(xs ty):CJ none (w.alloc (.cells (xs.map (Value.int .i64)).toArray ty)) (some ⟨w.heap.size,0,none⟩) xs:=by
 intro i s a;refine⟨w.heap.size,0,[I6 s],rfl,Qb.ac _ _ _,rfl,?_,rfl⟩;intro j v hj;have O:j=0:=by
  exact jL
 subst O;simp at hj;subst hj;simp[a]
def zrq(w:Aa)(g a O ty)(b:g=w.heap.size):CJ none (w.alloc (.cells #[I6 a,I6 O] ty)) (some ⟨g,0,none⟩) [a,O]:=by
 subst b;exact zsp w [a,O] ty
def zkI(x y:In)(a b c d w){q q'}(z:CJ q w a x.G)(I:CJ q' w b y.G)(hl:x.G.length<=1048576)(m:y.G.length<=1048576) :
  Ca 101 #[.agg #[I6 x.T,.slice a x.G.length c],.agg #[I6 y.T,.slice b y.G.length d]] w λe w'=>
   e=.returned (I6 (LX [Lib.compareInt x.T y.T,Bm x.G y.G]))/\Bw w w'/\∃n os,w'=Go.Sort.grow (w.drewN n) os:=by
 have k:∀o o',Bw w (((w.alloc o).alloc o').drew):=λo o'=>(Ar.alloc qf _).drew;obtain⟨J,L,t⟩:=AK (λo o'=>z.e (k o o')) (λo o'=>I.e (k o o')) (mV x.T y.T);obtain⟨s,E⟩:∃r,Lib.compareInt x.T y.T=r:=⟨_,rfl⟩
 obtain⟨p,B⟩:∃r,Bm x.G y.G=r:=⟨_,rfl⟩
 have u:=Ad (λw'(H:CJ q w' a x.G)(C:CJ q' w' b y.G)=>zmK a b c d x.G y.G w' H C hl m);have D:=Ad (λw' g ty(A:g=w'.heap.size)=>(show Ca 164 #[.slice (some ⟨g,0,none⟩) 2 2] ((w'.alloc (.cells #[I6 s,I6 p] ty)).drew) _ from vZ (some ⟨g,0,none⟩) 2 [s,p] _ ((zrq w' g s p ty A).e (Au.drew)) qf));rw[E]at t⊢;rw[B]at u⊢;go_enter func101,ntmps101;go_wp2;refine wp_region_noPanic ?_;refine wp_region_held_drew (S:=(λw'=>At w' w.heap.size 0 (I6 x.T)/\At w' w.heap.size 1 (.slice a x.G.length c)/\At w' (w.heap.size+1) 0 (I6 y.T)/\At w' (w.heap.size+1) 1 (.slice b y.G.length d))) qg ?_ (λhHeld=>?_)
 ·(try dsimp only);(go_split_ands;refine⟨?_,?_,?_,?_⟩<;>first|(simp[*];done))
 refine wpAnyH_take (i:=0) (oi:=?oi1) (v:=?v1) ?hi1 qg qg qg (λ_ _ _ h=>h) (Or.inl ⟨?wd1,?hy1⟩) hHeld ?rest1
 case hi1=>(simp only[yj,yy];rfl)
 case wd1=>rfl
 case hy1=>(intro w af;(try dsimp only at af);go_simp;try with_reducible rfl)
 (try simp only[Act.put,yq,yF,yG]);refine wpAnyH_take (i:=1) (oi:=?oi2) (v:=?v2) ?hi2 qg qg qg (λ_ _ _ h=>h) (Or.inl ⟨?wd2,?hy2⟩) hHeld ?rest2
 case hi2=>(simp only[yj,yC,yy];rfl)
 case wd2=>rfl
 case hy2=>(intro w af;(try dsimp only at af);go_simp;try with_reducible rfl)
 (try simp only[Act.put,yq,yF,yG]);refine wpAnyH_take (i:=2) (oi:=?oi3) (v:=?v3) ?hi3 qg qg qg (λ_ _ _ h=>h) (Or.inl ⟨?wd3,?hy3⟩) hHeld ?rest3
 case hi3=>(simp only[yj,yC,yy];rfl)
 case wd3=>rfl
 case hy3=>(intro w af;(try dsimp only at af);go_simp;try with_reducible rfl)
 (try simp only[Act.put,yq,yF,yG]);refine wpAnyH_take (i:=3) (oi:=?oi4) (v:=?v4) ?hi4 qg qg qg (λ_ _ _ h=>h) (Or.inl ⟨?wd4,?hy4⟩) hHeld ?rest4
 case hi4=>(simp only[yj,yC,yy];rfl)
 case wd4=>rfl
 case hy4=>(intro w af;(try dsimp only at af);go_simp;try with_reducible rfl)
 (try simp only[Act.put,yq,yF,yG]);refine wpAnyH_take (i:=5) (oi:=?oi5) (v:=?v5) ?hi5 qg qg qg (λ_ _ _ h=>h) (Or.inl ⟨?wd5,?hy5⟩) hHeld ?rest5
 case hi5=>(simp only[yj,yC,yy];rfl)
 case wd5=>rfl
 case hy5=>(intro w af;(try dsimp only at af);go_simp;try with_reducible rfl)
 (try simp only[Act.put,yq,yF,yG]);refine wpAnyH_take (i:=6) (oi:=?oi6) (v:=?v6) ?hi6 qg qg qg (λ_ _ _ h=>h) (Or.inl ⟨?wd6,?hy6⟩) hHeld ?rest6
 case hi6=>(simp only[yj,yC,yy];rfl)
 case wd6=>rfl
 case hy6=>(intro w af;(try dsimp only at af);go_simp;try with_reducible rfl)
 (try simp only[Act.put,yq,yF,yG]);refine wpAnyH_take (i:=7) (oi:=?oi7) (v:=?v7) ?hi7 qg qg qg (λ_ _ _ h=>h) (Or.inl ⟨?wd7,?hy7⟩) hHeld ?rest7
 case hi7=>(simp only[yj,yC,yy];rfl)
 case wd7=>rfl
 case hy7=>(intro w af;(try dsimp only at af);go_simp;try with_reducible rfl)
 (try simp only[Act.put,yq,yF,yG]);refine wpAnyH_take (i:=8) (oi:=?oi8) (v:=?v8) ?hi8 qg qg qg (λ_ _ _ h=>h) (Or.inl ⟨?wd8,?hy8⟩) hHeld ?rest8
 case hi8=>(simp only[yj,yC,yy];rfl)
 case wd8=>rfl
 case hy8=>(intro w af;(try dsimp only at af);go_simp;try with_reducible rfl)
 (try simp only[Act.put,yq,yF,yG]);refine r1 4 λK f=>?_;go_simp;(go_at_call 165;refine(t _).j ?_;rintro e M ⟨rfl,rfl⟩);(try go_wp2_with fail);refine f _ _ ?hS10 (λO=>?rest10)
 case hS10=>((try dsimp only);(go_split_ands;refine⟨?_,?_,?_,?_⟩<;>first|assumption))
 (try simp only[Act.put,yq,yF,yG]);have hHeld:=O;refine r1 9 λK f=>?_;go_simp;(go_at_call 166;refine(u _ (J _ _) (L _ _)).j ?_;rintro e R ⟨rfl,rfl⟩);(try go_wp2_with fail);refine f _ _ ?hS12 (λO=>?rest12)
 case hS12=>((try dsimp only);(go_split_ands;refine⟨?_,?_,?_,?_⟩<;>first|assumption))
 (try simp only[Act.put,yq,yF,yG]);have hHeld:=O;refine r1 10 λK f=>?_;go_simp;refine f _ _ ?hS14 (λO=>?rest14)
 case hS14=>((try dsimp only);(go_split_ands;refine⟨?_,?_,?_,?_⟩<;>first|exact zab Ar qk))
 (try simp only[Act.put,yq,yF,yG]);have hHeld:=O;refine r1 11 λK f=>?_;go_simp;(go_at_call 164;refine(D _ _ _ qf).j ?_;rintro e N ⟨rfl,rfl⟩);(try go_wp2_with fail);refine f _ _ ?hS16 (λO=>?rest16)
 case hS16=>((try dsimp only);(go_split_ands;refine⟨?_,?_,?_,?_⟩<;>first|assumption))
 (try simp only[Act.put,yq,yF,yG]);have hHeld:=O;refine wpAnyH_take (i:=12) (oi:=?oi17) (v:=?v17) ?hi17 qg qg qg (λ_ _ _ h=>h) (Or.inl ⟨?wd17,?hy17⟩) hHeld ?rest17
 case hi17=>(simp only[yj,yC,yy];rfl)
 case wd17=>rfl
 case hy17=>(intro w af;(try dsimp only at af);go_simp;try with_reducible rfl)
 (try simp only[Act.put,yq,yF,yG]);refine wpAnyH_done qg ?_ _;refine Yb ?_;go_wp2;go_ret;exact⟨rfl,((k _ _).alloc (k _ _).size _),1,#[_,_,_],by rw[Kx,Kx w,Kx (Go.Sort.grow w _),Go.Sort.grow_grow];exact Go.Sort.grow_grow (w.drewN 1) _ _⟩
abbrev EnX:=In × Value × Value
structure jp(rs:Az) (w:Aa) (base:Nat) (x:EnX):Prop where
 pl:zJ rs x.1=true
 r:∃a c,x.2.1=.slice a (Qf x.1.G).length c
 ro:w.ownsRow base 3 1 x.2.1 (Qf x.1.G).length (Ay (Qf x.1.G))
 t:∃a c,x.2.2=.slice a x.1.G.length c
 tw:w.ownsRow base 3 1 x.2.2 x.1.G.length (Ay x.1.G)
theorem jp.same{rs w w' base x}(h:jp rs w base x)(d:∀(k:Nat)c,Bk w k c 3->w'.heap[k]?=w.heap[k]?):jp rs w' base x:=
 ⟨h.pl,h.r,Ci h.ro (λg b=>by obtain⟨c,a⟩:=A7 h.ro b;exact d g c a),h.t,Ci h.tw (λg b=>by obtain⟨c,a⟩:=A7 h.tw b;exact d g c a)⟩
def ow{q w a xs}(h:CJ q w a xs):(a=none->xs.length=0)/\∀c,a=some c->∀(j:Nat)u,(Ay xs)[j]?=some u->w.cell? (c.add j)=some u:=by
 constructor
 .rintro rfl;rcases xs with _|⟨x,r⟩
  .rfl
  obtain⟨_,_,e,_⟩:=h.get (i:=0) (x:=x) rfl;cases e
 rintro c rfl j u hu;unfold Ay at hu;rw[yE]at hu;obtain⟨x,d,rfl⟩:=Ye.1 hu;obtain⟨b,o,e,_,hc⟩:=h.get d;injection e with e;subst e;exact ti
def zpa(x:In)(n p){q}(w)(H:CJ q w n x.G)(hl:x.G.length<=1048576) :
  Ca 105 #[.agg #[I6 x.T,.slice n x.G.length p]] w λe w'=>(∃I L,e=.returned (.agg #[I6 x.T,.slice I x.G.length L])/\w'.ownsRow w.heap.size 3 1 (.slice I x.G.length L) x.G.length (Ay x.G))/\Bw w w':=by
 have HT:=Ad H;clear H;go_enter func105,ntmps105;go_upto_region 2 with fail;refine Ce ?_;intro m z ah af;obtain⟨b,B⟩:=AF w.heap.size;obtain⟨d,C⟩:=AF (b+1);rw[<-B]at ah;rw[<-B]at af;rw[<-C]at af;(try rw[<-B]);(try rw[<-C]);have D:At m b 0 (I6 x.T):=Ql;have E:At m b 1 (.slice n x.G.length p):=Ql;obtain⟨H1,M,Z⟩:=AK z (HT.e z) af;have r:=z.size;have au:b≠d:=qd;have A:d≠b:=qd;have aw:w.heap.size<=d:=qd;have aq:d<m.heap.size:=Ap af;have s:b<m.heap.size:=Ap ah;clear z ah af B C;go_wp2_with fail;refine wp_region_noPanic ?_;refine wp_region_held_drew (S:=(λw'=>At w' b 0 (I6 x.T)/\At w' b 1 (.slice n x.G.length p))) qg ?_ (λhHeld=>?_)
 ·(try dsimp only);exact⟨D,E⟩
 refine sr 0 5 ?_;refine wpAnyH_ready (rs:=[5]) qg qf ?_;refine y9 (yj.c rfl) (λK y=>?_) Yd;(refine GG qh (.tmp 6) (.tmp 8) 30 qh m.heap.size 3 _ 1 8 underlying30 Rr qh qd _ 0 [] qh (yJ _ _ _ _) n x.G.length p qh (Ay x.G) (by simp[Ay]) (ow (M.e Au.drew)).1 (ow (M.e Au.drew)).2 (lf _) qj qd Bg ?_;intro u t f ar O ax);refine y _ _ ?hS2 (λhHeld=>?_)
 case hS2=>((try dsimp only);exact⟨(Ep O Se (by simpa using s)).c D,(Ep O Se (by simpa using s)).c E⟩)
 clear y K;(try simp only[pQ]);have q8:Bk f d #[I6 0,.slice none 0 0] 45:=(O.block d (by simpa using aq) Se).c Z;have R:At f d 0 (I6 0):=by simp[World.cell?,q8]
 have W:At f d 1 (.slice none 0 0):=by simp[World.cell?,q8]
 have f0:f.frozen? ⟨d,0,none⟩=false:=Uc;have f1:f.frozen? ⟨d,1,none⟩=false:=Uc;have m0:At f b 0 (I6 x.T):=(Ep O Se (by simpa using s)).c D;have m1:At f b 1 (.slice n x.G.length p):=(Ep O Se (by simpa using s)).c E;obtain⟨Y,N,J⟩:=AK (show f.ownsRow m.heap.size 3 1 (.slice u x.G.length t) x.G.length (Ay x.G) by have:=ar.o;simpa using this) (show Bw w f from H1.c (((y8 m.heap.size m).drew.grown O Bg (λg U=>by cases U)).j r)) q8;refine sr 6 7 ?_;refine wpAnyH_ready (rs:=[7]) qg qf ?_;refine y9 (yj.c rfl) (λK y=>?_) Yd;go_simp;refine y _ _ ?hS4 (λhHeld=>?_)
 case hS4=>((try dsimp only);exact⟨(Yf _ _ _ _ A).c ((Yf _ _ _ _ A).c m0),(Yf _ _ _ _ A).c ((Yf _ _ _ _ A).c m1)⟩)
 (try simp only[pQ]);refine wpAnyH_done qg ?_ _;refine Yb ?_;have O9:=Ad (C4 (Is (x:=.slice u x.G.length t) (o:=1) (Is (x:=I6 x.T) (o:=0) Y J qi) (C7 (i:=0) J (I6 x.T)) qi) r);go_wp2;refine bodyPost_ret (v:=.agg #[I6 x.T,.slice u x.G.length t]) (by simp[results,results105,go_sem,R,W]) rfl ?_;exact⟨⟨u,t,rfl,O9⟩,(N.setCell qe _).setCell qe _⟩
abbrev vD(w:Aa)(e:Ending)(w':Aa):Prop:=(∃t,e=.returned (.bool t))/\Bw w w'
def zpc(x y:It)(a z c K){q q'}(w)(hv:CJ q w a x.G)(p:CJ q' w z y.G)(hl:x.G.length<=1048576) :
  Ca 103 #[.agg #[I6 x.T,.slice a x.G.length c],.agg #[I6 y.T,.slice z y.G.length K]] w (vD w):=by
 obtain⟨D,r⟩:=An hv p;clear hv p;go_enter func103,ntmps103;go_upto_region 1 with fail;refine Ce ?_;intro M O m l;obtain⟨b1,j⟩:=AF w.heap.size;rw[<-j]at m l;(try rw[<-j]);obtain⟨v,C⟩:=AE m;obtain⟨u,A⟩:=AE l;obtain⟨d,L,N⟩:=AK O (D.e O) (r.e O);clear O m l j D r
 cases r0:(x.T != y.T)
 .go_wp2
  go_loopw [5] (λi wr=>∃(k:Nat),k<=x.G.length/\i=I6 k/\Bw M wr) (mz x.G.length)
  .exact⟨0,qd,rfl,Au⟩
  obtain⟨k,Y,rfl,b⟩:=hrel;have B:=Ad b;have U:=zab b v;have c1:=zab b C;have W:=zab b u;have Z:=zab b A;clear v C u A b;have z0:(0:Int)<=(k:Int):=qd;by_cases f:k<x.G.length
  .have I:=Hk f;obtain⟨s,E⟩:=Bq f;obtain⟨g,o,rfl,_,g0⟩:=(L.e B).get E;by_cases n:k<y.G.length
   .have H:=Hk n;obtain⟨t,J⟩:=Bq n;obtain⟨g',o',rfl,_,R⟩:=(N.e B).get J;cases s0:(s != t)
    .go_wp2;go_region;go_wp2;exact⟨⟨k+1,qd,qm,B.drew⟩,qe⟩
    go_wp2;go_region;go_wp2;go_region;go_wp2;go_ret;exact⟨⟨_,rfl⟩,d.thn B.drew.drew⟩
   have H:=FN n;go_wp2;go_ret;exact⟨⟨_,rfl⟩,d.thn B⟩
  have I:=FN f;go_wp2;go_ret;exact⟨⟨_,rfl⟩,d.thn B⟩
 go_wp2;go_ret;exact⟨⟨_,rfl⟩,d⟩
def zoS(x y:It)(a f c i){q q'}(w)(hv:CJ q w a x.G)(j:CJ q' w f y.G)(hl:x.G.length<=1048576) :
  Ca 104 #[.agg #[I6 x.T,.slice a x.G.length c],.agg #[I6 y.T,.slice f y.G.length i]] w (vD w):=by
 have o:=Ad (λw'(h:Bw w w')=>zin a f c i x.G y.G w' (hv.e h) (j.e h) hl);clear hv j;go_enter func104,ntmps104;go_upto_region 1 with fail;refine Ce ?_;intro m k d b;obtain⟨z,O⟩:=AF w.heap.size;rw[<-O]at d b;(try rw[<-O]);obtain⟨s,v⟩:=AE d;obtain⟨p,t⟩:=AE b;have g:=Ad k;clear k d b O
 cases u:(x.T==y.T)
 .go_wp2;go_ret;exact⟨⟨_,rfl⟩,g⟩
 go_wp2_with fail;refine(o m g).rtn λr n=>?_;have l:=Ad (g.thn n);go_wp2;go_ret;exact⟨⟨_,rfl⟩,l⟩
def Sw(L:BN):Prop:=L.length<=1024000/\∀y∈L,y.G.length<=6
def rT(A B a b c d w)(hA:M9 w a A)(hB:M9 w b B)(bA:Sw A)(bB:Sw B) :
  Ca 52 #[.slice a A.length c,.slice b B.length d] w λe w'=>(∃q n p,e=.returned (.slice q n p))/\Bw w w':=by
 obtain⟨HA,HB,TA,TB⟩:=BP hA hB bA.2 bB.2;have aJ:=bA.1;have aE:=bB.1;clear hA hB bA bB;go_enter func52,ntmps52;go_wp2
 go_loopw [11,6,5] (λiv s sv wr=>∃(k j:Nat)(q:Af)(n p:Nat)(xs:Aj),iv=I6 (k:Int)/\k<=A.length/\s=I6 (j:Int)/\j<=B.length/\sv=.slice q n p/\n<=k/\wr.ownsRow w.heap.size 45 2 (.slice q n p) n xs/\Bw w wr) (λiv _ _ _=>A.length-(intOf iv).toNat)
 .exact⟨0,0,none,0,0,[],rfl,yn _,rfl,yn _,rfl,Bg,yJ _ _ _ _,Au⟩
 obtain⟨k,j,q,n,p,xs,rfl,aI,rfl,ax,rfl,aC,au,hb⟩:=hrel;obtain⟨ROW,R⟩:=An au hb;have aG:=hb.size;clear au hb;by_cases hk:k<A.length
 .obtain⟨x,hx⟩:=Bq hk;obtain⟨xb,xo,K,D,rfl,x0,x1,xt⟩:=(HA.e R) k x hx;have XT:=Ad xt;have aH:x.G.length<=6:=TA x (yd hx);obtain⟨z0,z1⟩:=CZ hk;clear hx xt;go_upto_region 6 with fail;refine BF ?_;intro w1 z ar;obtain⟨Z,f1⟩:=AE ar;obtain⟨L,ao⟩:=AF wr.heap.size;rw[<-ao]at Z f1;(try rw[<-ao]);obtain⟨R1,N,T1⟩:=AK (AZ ROW z) (R.thn z) (XT.e z);have aa:=z.size;clear z ar x0 x1 XT ROW R ao
  go_loopw [6] (λs wr=>∃(m:Nat),s=I6 (m:Int)/\m<=B.length/\Bw w1 wr) (λs _=>B.length-(intOf s).toNat)
  .exact⟨j,rfl,ax,Au⟩
  obtain⟨m,rfl,aq,r⟩:=hrel;have BL:=Ad r;have M:=zab r Z;have U:=zab r f1;have f:=Ad ((y8 wr.heap.size wr).drew);clear Z f1;have q0:(0:Int)<=(m:Int):=qd;go_upto_region 6 with fail
  go_cut [26] (λcv wx=>∃t,cv=.bool t/\(t=true->m<B.length)/\Bw wr wx)
  .by_cases i:m<B.length
   .obtain⟨y,l⟩:=Bq i;obtain⟨yb,H,J,C,rfl,u,v,W⟩:=(HB.e (N.thn r)) m y l;have hy6:y.G.length<=6:=TB y (yd l);have q1:=Hk i;have HL:=Ad (λw'(h:Bw wr w')=>zpc y x J K C D w' (W.e h) ((T1.e BL).e h) qd);clear W r l;go_wp2_with fail
    go_region_held3 (λw'=>At w' yb (H+m*2) (I6 y.T)/\At w' yb (H+m*2+1) (.slice J y.G.length C)/\At w' L 0 (I6 x.T)/\At w' L 1 (.slice K x.G.length D)) (first|exact⟨u,v,M,U⟩|exact⟨zab O u,zab O v,zab O M,zab O U⟩) ((go_at_call 103;refine(HL _ (f)).j ?_;rintro e w7 ⟨⟨t,rfl⟩,aj⟩;have O:Bw wr w7:=V3 (f) (aj.j (f).size)))
    go_wp2;go_meet;exact⟨t,rfl,λ_=>i,O⟩
   have q1:=FN i;clear r;go_wp2;go_region;go_wp2;go_meet;exact⟨false,rfl,λe=>qo,f⟩
  obtain⟨t,rfl,az,o⟩:=hcut;obtain⟨E,rfl⟩:=AF wc;have Y:=Ad (BL.thn o);have h0:=zab o M;have h1:=zab o U;cases t with
  |true=>
   have i:=az rfl;go_wp2;exact⟨⟨m+1,qm,qd,Y⟩,qp⟩
  |false=>
   have f:=Ad ((y8 E.heap.size E).drew);go_upto_region 8 with fail
   go_cut [41] (λcv wx=>∃t,cv=.bool t/\Bw E wx)
   .by_cases i:m<B.length
    .obtain⟨y,l⟩:=Bq i;obtain⟨yb,H,J,C,rfl,u,v,W⟩:=(HB.e (N.thn Y)) m y l;have hy6:y.G.length<=6:=TB y (yd l);have q1:=Hk i;have q2:((m:Int)==(B.length:Int))=false:=by simp;omega
     have HL:=Ad (λw'(h:Bw E w')=>zoS y x J K C D w' (W.e h) ((T1.e Y).e h) qd);go_wp2_with fail
     go_region_held3 (λw'=>At w' yb (H+m*2) (I6 y.T)/\At w' yb (H+m*2+1) (.slice J y.G.length C)/\At w' L 0 (I6 x.T)/\At w' L 1 (.slice K x.G.length D)) (first|exact⟨u,v,h0,h1⟩|exact⟨zab O u,zab O v,zab O h0,zab O h1⟩) ((go_at_call 104;refine(HL _ (f)).j ?_;rintro e w7 ⟨⟨t,rfl⟩,aj⟩;have O:Bw E w7:=V3 (f) (aj.j (f).size)))
     go_wp2;go_meet;exact⟨_,rfl,O⟩
    have q2:((m:Int)==(B.length:Int))=true:=by simp;omega
    go_wp2;go_region;go_wp2;go_meet;exact⟨true,rfl,f⟩
   obtain⟨t,rfl,o⟩:=hcut;obtain⟨w3,rfl⟩:=AF wc;have I:=Ad (Y.thn o);have M:=zab o h0;have U:=zab o h1;cases t with
   |false=>
    go_wp2;exact⟨⟨k+1,m,q,n,p,xs,qm,qd,rfl,aq,rfl,qd,AZ R1 I,N.thn I⟩,qp⟩
   |true=>
    go_wp2_with fail;refine(zpa ⟨x.T,x.G⟩ K D _ (T1.e I) (by show x.G.length<=1048576;omega)).j ?_;rintro e w9 ⟨⟨a9,c9,rfl,_⟩,aw⟩;obtain⟨R4,B4,am⟩:=AK (AZ R1 (I.thn aw)) (N.thn (I.thn aw)) (λo'=>Au.alloc Bg o':∀o',Bw w9 (w9.alloc o'));have aB:=B4.size;go_wp2_with (first|(at_builtin;refine Dp qh (.tmp 42) (.tmp 45) 36 qh w.heap.size 45 _ 2 32 underlying36 Nc qh qd _ n _ qh (AZ R4 (am _)) (some ⟨_,0,none⟩) 1 1 qh [I6 x.T,.slice a9 x.G.length c9] qh (λe=>qo) (CH _ _ _ _ qf) Ua qj qd qe ?_;intro a3 c3 w8 ay aA aD)|fail);have B8:=Ad ((B4.thn (am _)).grown aA (yi B4.size (am _).size) (λg hg=>(R4.lt g hg).1));go_roundw;exact⟨k+1,m,a3,n+1,c3,_,qm,qd,rfl,aq,rfl,qd,ay,B8⟩;simp[intOf];omega
 have aF:k=A.length:=qd;have l:=FN hk;go_wp2;go_ret;exact⟨⟨_,_,_,rfl⟩,R⟩
section
open Go.Sort Go.Lib Go.Shelf
def EG(x y:It):Int:=LX [Lib.compareInt x.T y.T,Bm x.G y.G]
theorem UL(x y):EG x y=if Lib.compareInt x.T y.T=0 then Bm x.G y.G else Lib.compareInt x.T y.T:=by grind[Bm,EG,LX]
def SF:Gh EG:=by
 have h:=(xB.map It.T).or (xu.map It.G);have e:EG=λa b:It=>if Lib.compareInt a.T b.T=0 then Bm a.G b.G else Lib.compareInt a.T b.T:=by
  funext a b
  exact UL a b
 rw[e];exact h
theorem mQ{x y}(h:EG x y=0):x=y:=by
 rw[UL]at h;split at h
 .rename_i O;have a:x.T=y.T:=by rcases Iu x.T y.T with⟨p,q⟩|⟨p,q⟩|⟨p,q⟩<;>omega
  have b:=mI _ _ h;cases x;cases y;simp_all
 rename_i O;exact absurd h O
def vC(w:Aa)(g:Nat)(x:Oa):Prop:=x.1.G.length<=3/\∃a c,x.2=.slice a x.1.G.length c/\∀(i:Nat)(s:Int),x.1.G[i]?=some s->∃b o,a=some ⟨b,o,none⟩/\b≠g/\w.cell? ⟨b,o+i,none⟩=some (.int .i64 s)
abbrev Ix(w:Aa)(g:Nat):={x:Oa // vC w g x}
def ixD(w:Aa)(g:Nat):Ix w g:=⟨(⟨0,[]⟩,.slice none 0 0),qf,none,0,rfl,λi s h=>by simp at h⟩
def ID{w:Aa}{g:Nat}(x:Ix w g):Aj:=Ef x.1
def ja{w:Aa}{g:Nat}(x y:Ix w g):Int:=EG x.1.1 y.1.1
def xY(w g):SWO (ltOf (ja (w:=w) (g:=g))):=by
 have h:=SF.map (λx:Ix w g=>x.1.1);refine⟨λx=>?_,λx y z b a=>?_,λx y z b a=>?_⟩
 .have e:EG x.1.1 x.1.1 =-EG x.1.1 x.1.1:=h.swap x x;exact decide_eq_false (show¬EG x.1.1 x.1.1<0 by omega)
 .have c:EG x.1.1 y.1.1<0:=of_decide_eq_true b;have d:EG y.1.1 z.1.1<0:=of_decide_eq_true a;exact decide_eq_true (h.lt x y z (show EG x.1.1 y.1.1<=0 by omega) (show EG y.1.1 z.1.1<=0 by omega) (.inl c))
 have c:¬EG x.1.1 y.1.1<0:=of_decide_eq_false b;have d:¬EG y.1.1 z.1.1<0:=of_decide_eq_false a;have f:EG y.1.1 x.1.1 =-EG x.1.1 y.1.1:=h.swap x y;have i:EG z.1.1 y.1.1 =-EG y.1.1 z.1.1:=h.swap y z;have j:EG z.1.1 x.1.1 =-EG x.1.1 z.1.1:=h.swap x z;have O:EG z.1.1 x.1.1<=0:=h.le z y x (show EG z.1.1 y.1.1<=0 by omega) (show EG y.1.1 x.1.1<=0 by omega);exact decide_eq_false (show¬EG x.1.1 z.1.1<0 by omega)
def lL{w a xs}(h:∀(i:Nat)(s:Int),xs[i]?=some s->∃b o,a=some ⟨b,o,none⟩/\At w b (o+i) (I6 s)):CJ none w a xs:=by
 intro i s c;obtain⟨b,o,e,d⟩:=h i s c;refine⟨b,o,[I6 s],e,Qb.ac _ _ _,rfl,?_,rfl⟩
 grind
def xJ(w g size)[Inhabited (Ix w g)]:CmpLays prog 101 #[] (ID (w:=w) (g:=g)) 2 ja g 0 size w:=by
 intro m os O _ x y;have A:∀(b o:Nat)(v:Value),b≠g->w.cell? ⟨b,o,none⟩=some v->(sortWorldK (ID (w:=w) (g:=g)) 2 w g 0 m O os).cell? ⟨b,o,none⟩=some v:=λb o v p hv=>by
  have hlt:b<w.heap.size:=yI w ⟨b,o,none⟩ hv;unfold sortWorldK;have t:(grow (putRowK (ID (w:=w) (g:=g)) 2 (Sort.ahead w m) g 0 O) os).heap[b]?=(putRowK (ID (w:=w) (g:=g)) 2 (Sort.ahead w m) g 0 O).heap[b]?:=heap_grow_old _ _ (by simpa[putRowK] using hlt);rw[yP (w:=putRowK (ID (w:=w) (g:=g)) 2 (Sort.ahead w m) g 0 O) t];exact(cell?_putRow_other id (Sort.ahead w m) g 0 (flatK (ID (w:=w) (g:=g)) 2 O) ⟨b,o,none⟩ (Or.inl p)).c hv
 obtain⟨⟨x1,C⟩,n,a,c,l,u⟩:=x;obtain⟨⟨f,B⟩,hy3,b,d,k,z⟩:=y;simp only at l k;subst l;subst k;refine(show Ca 101 #[.agg #[.int .i64 x1.T,.slice a x1.G.length c],.agg #[.int .i64 f.T,.slice b f.G.length d]] _ _ from zkI ⟨x1.T,x1.G⟩ ⟨f.T,f.G⟩ a b c d _ (lL λi s r=>?_) (lL λi s r=>?_) (by simp only at n⊢;omega) (by simp only at hy3⊢;omega)).j λe w' q=>⟨q.1,q.2.2⟩
 all_goals grind
def GC(L:BN):Prop:=L.Pairwise λx y=>EG x y<=0
def xn(w):(isAgg 45).run prog w=.ok true w:=isAgg45 w
def vX(w):(Go.sizeOf 45).run prog w=.ok 2 w:=sizeOf45 w
def pi{α}[Inhabited α](enc)(a:∀x,(enc x).length=2)(l:List α):(flatK enc 2 l.toArray).toList=l.flatMap enc:=by
 apply YH;intro t;by_cases ht:t<l.length*2
 .have e:(flatK enc 2 l.toArray).toList[t]?=some ((enc l.toArray[t/2]!)[t%2]!):=by
   rw[Yn,<-get_flatK enc 2 l.toArray t OK];have:t<(flatK enc 2 l.toArray).size:=OK;rw[getElem!_pos _ t this];simp
  have hl:t/2<l.length:=qd;have f:l[t/2]?=some (l[t/2]'hl):=MS;have c:t%2<(enc l[t/2]).length:=by rw[a];omega
  have b:=Hf (cells:=enc) (m:=2) a l (t/2) l[t/2] (t%2) ((enc l[t/2])[t%2]) f (by simp[c]);rw[show t/2*2+t%2=t by omega]at b;rw[e,b];have d:l.toArray[t/2]! =l[t/2]:=MS;rw[d,getElem!_pos (enc (l[t/2]'hl)) (t%2) c]
 have:(l.flatMap enc).length=l.length*2:=by
  rw[List.length_flatMap];have key:∀l:List α,(l.map λx=>(enc x).length).sum=l.length*2:=λl=>by
   induction l with
   |nil=>rfl
   |cons x l O=>rw[yx,K9,O,a,Ya];omega
  exact key l
 rw[YN (show(flatK enc 2 l.toArray).toList.length<=t by simp;omega),YN (show(l.flatMap enc).length<=t by omega)]
def zsR{w g n os O e b}(F)(a:w.heap[g]?=some (.cells O e b)):(grow (putRow id (Sort.ahead w n) g 0 F) os).heap[g]?=some (.cells (putCells id 0 F O) e b):=by
 have c:g<w.heap.size:=(yk.1 a).1;rw[heap_grow_old _ _ (by simpa using c)];simp[putRow,mapBlock,Sort.ahead,YT,a,onCells]
def oh{w:Aa}{g n os}(F):w.grownBy (grow (putRow id (Sort.ahead w n) g 0 F) os) (some g):=by
 refine⟨rfl,rfl,rfl,qf,λk hk a=>?_⟩;rw[heap_grow_old _ _ T9];have:g≠k:=λe=>a Ij;simp[putRow,mapBlock,Sort.ahead,YT,this]
def ztT(O F)(h:F.size<=O.size):(putCells id 0 F O).toList.take F.size=F.toList:=by
 apply YH;intro j;by_cases hj:j<F.size
 .rw[Wy hj,Yn,Yn];simp[putCells,hj,show j<O.size by omega]
 all_goals grind
def ztL{α}[Inhabited α]{a}{l:List α}{d}(b:PermIn 0 l.toArray.size l.toArray d)(e:SortedIn a 0 l.toArray.size d):d.toList.Perm l/\d.toList.Pairwise (λx y=>a y x=false):=by
 obtain⟨hz,_,O⟩:=b;have m:d.size=l.length:=qX;have g:d.extract 0 l.toArray.size=d:=by rw[<-hz];exact Array.extract_size
 have k:l.toArray.extract 0 l.toArray.size=l.toArray:=Array.extract_size;rw[g,k]at O;refine⟨O,?_⟩;rw[List.pairwise_iff_getElem];intro i j hi hj c;have h:=e i j (yn _) c (by simpa[m] using hj);have n:i<d.size:=T8;have f:j<d.size:=TW;rw[getElem!_pos d i n,getElem!_pos d j f]at h;simpa using h
def kJ(b1 base:Nat)(a:Af)(c:Nat)(L:Bj)(w:Aa)(e:Ending)(w':Aa):Prop:=e=.returned (.tuple #[])/\∃L',L'.Perm L/\GC (L'.map Prod.fst)/\Iw w' b1 base a c L'/\w.grownBy w' (Value.slice a L.length c).ownBlock
def zpA(g c T base L w)(h:Iw w T base (some ⟨g,0,none⟩) c L)(Z:∀x∈L,x.1.G.length<=3)(hl:L.length<=4000000000) :
  Ca 100 #[.slice (some ⟨g,0,none⟩) L.length c,.func (.func 101) #[] #[]] w (kJ T base (some ⟨g,0,none⟩) c L w):=by
 rcases h.row.2 with⟨e,_⟩|⟨g',cap,ax,e,au,O,I,aA,D,ay⟩
 .cases e
 simp only[Y0,Y1,Addr.mk.injEq,and_true]at e;obtain⟨rfl,_,rfl⟩:=e;have aw:∀x∈L,vC w g x:=λx E=>by
  obtain⟨⟨M,N,r⟩,A⟩:=h.all x E;refine⟨Z x E,M,N,r,λi s p=>?_⟩;rw[r]at A;obtain⟨b,R,_,hc,_⟩:=CG A (show(Ay x.1.G)[i]?=some (I6 s) by simp[Ay,p]);refine⟨b,0,R,λq=>?_,NA⟩;obtain⟨c2,J⟩:=A7 A (k:=b) (by rw[R];rfl);rw[Bk,q]at J;exact Cw O J qi
 letI:Inhabited (Ix w g):=⟨ixD w g⟩
 obtain⟨d,hd⟩:∃d:List (Ix w g),d.map Subtype.val=L:=⟨L.attach.map λy=>⟨y.1,aw y.1 y.2⟩,by rw[Yl];exact List.attach_map_subtype_val L⟩
 have o:d.length=L.length:=by rw[<-hd,yu]
 have H:∀l:List (Ix w g),l.flatMap ID=(l.map Subtype.val).flatMap Ef:=λl=>by
  rw[i6];rfl
 have W:HoldsK (ID (w:=w) (g:=g)) 2 w g 0 d.toArray:=by
  intro j hj;have az:j<L.length*2:=by simpa[o] using hj
  refine⟨?_,Ub⟩;have K:(ax.toList.take (L.length*2))[j]?=(L.flatMap Ef)[j]?:=by rw[ay]
  rw[Wy az]at K;have h2:(flatK (ID (w:=w) (g:=g)) 2 d.toArray).toList[j]?=(L.flatMap Ef)[j]?:=by rw[pi ID (λ_=>rfl),H,hd]
  have h4:(flatK (ID (w:=w) (g:=g)) 2 d.toArray)[j]?=some (flatK (ID (w:=w) (g:=g)) 2 d.toArray)[j]!:=by
   rw[getElem!_pos _ j hj];simp
  simp only[World.cell?,O,Yj];simp only[Option.isSome_none,Yx,if_false,id];rw[<-Yn,K,<-h2,Yn,h4]
 have t:=AnyQ.slices_SortFunc sortN 2 xn vX (ID (w:=w) (g:=g)) (λ_=>rfl) (λx v hv=>by
  obtain⟨y,_,M,N,r,_⟩:=x;simp only[ID,Ef,yW,Yw,or_false]at hv;rcases hv with rfl|rfl
  .rfl
  rw[r];rfl) ja (xY w g) 101 #[] g 0 c d.toArray w (enters_of func101 qg rfl) (xJ w g d.toArray.size) W (yk.1 O).1 (by simp[o];omega)
 rw[show d.toArray.size=L.length from by simpa using o]at t;change Ca 100 #[.slice (some ⟨g,0,none⟩) L.length c,_] _ _ at t;refine t.j ?_;rintro x w' ⟨rfl,f,n,os,C,p,rfl⟩;rw[<-show d.toArray.size=L.length from by simpa using o]at C p;obtain⟨B,Y⟩:=ztL C p;have U:f.size=L.length:=by rw[<-o,<-B.length_eq];simp
 have hF:(flatK (ID (w:=w) (g:=g)) 2 f).toList=(f.toList.map Subtype.val).flatMap Ef:=by
  rw[<-H,<-pi ID (λ_=>rfl)]
 have u:(flatK (ID (w:=w) (g:=g)) 2 f).size=L.length*2:=by simp[U]
 refine⟨rfl,f.toList.map Subtype.val,by rw[<-hd];exact B.map _,?_,⟨?_,λy hy=>?_⟩,oh _⟩
 .unfold GC;rw[Wc,Wc];refine Y.imp λ{a b}q=>?_;have q':¬EG b.1.1 a.1.1<0:=of_decide_eq_false q;have:=SF.swap a.1.1 b.1.1;show EG a.1.1 b.1.1<=0;omega
 .have m:(f.toList.map Subtype.val).length=L.length:=by simp[U]
  rw[m];refine⟨by rw[<-hF,W7,u],.inr ⟨g,c,_,rfl,au,zsR _ O,I,aA,by simp[putCells,D],?_⟩⟩;rw[<-u,ztT _ _ (by rw[u,D];exact YI 2 I),hF]
 obtain⟨z,hz,rfl⟩:=yv.1 hy;have ar:z.1∈L:=by
  rw[<-hd];exact yS (B.mem_iff.1 hz)
 exact(h.all z.1 ar).grown (oh _) (λk hk=>by cases hk;exact⟨_,O⟩) qi
def xr(w):Ca 222 #[.slice none 0 0,I6 0,I6 0,.func (.func 101) #[] #[]] w λe w'=>e=.returned (.tuple #[])/\w'=w:=by
 go_enter func222,ntmps222;go_wp2
 go_loopw [8] (λiv wr=>iv=I6 1/\wr=w) (λ_ _=>0)
 .exact⟨rfl,rfl⟩
 obtain⟨rfl,rfl⟩:=hrel;go_wp2_with fail;go_end0;exact⟨rfl,rfl⟩
def vt(w):Ca 162 #[.slice none 0 0,I6 0,I6 0,I6 0,.func (.func 101) #[] #[]] w λe w'=>e=.returned (.tuple #[])/\w'=w:=by
 have a:=Ad (xr w);go_enter func162,ntmps162;go_wp2
 go_loopw [1,2] (λb O wr=>b=I6 0/\O=I6 0/\wr=w) (λ_ _ _=>0)
 .exact⟨rfl,rfl,rfl⟩
 obtain⟨rfl,rfl,rfl⟩:=hrel;go_wp2_with fail;refine a.j ?_;rintro e w' ⟨rfl,rfl⟩;go_wp2;exact bodyPost_ret (v:=.tuple #[]) (results_none rfl _ _ _) rfl ⟨rfl,rfl⟩
def xx(w):Ca 163 #[.int .u64 0] w λe w'=>e=.returned (I6 0)/\w'=w:=by
 have h:=Any.bits_Len (SlLaysF0.n15.bits (P:=prog) (ρ:=sortN_ren) { sortN with }) 0 w qd qd;exact h
def zo(w):Ca 100 #[.slice none 0 0,.func (.func 101) #[] #[]] w λe w'=>e=.returned (.tuple #[])/\w'=w:=by
 obtain⟨a,O⟩:=An (xx w) (vt w);go_enter func100,ntmps100;go_wp2_with fail;refine a.j ?_;rintro e w' ⟨rfl,rfl⟩;go_wp2_with fail;refine O.j ?_;rintro e w' ⟨rfl,rfl⟩;go_wp2_with fail;go_end0;exact⟨rfl,rfl⟩
def rX(a c b base L w)(h:Iw w b base a c L)(f:∀x∈L,x.1.G.length<=3)(hl:L.length<=4000000000) :
  Ca 100 #[.slice a L.length c,.func (.func 101) #[] #[]] w (kJ b base a c L w):=by
 rcases h.row.2 with⟨e,_⟩|⟨i,cap,O,e,_⟩
 .simp only[Y0]at e;obtain⟨rfl,g,rfl⟩:=e;have d:L=[]:=Wb.1 g;subst d;refine(zo w).j ?_;rintro e w' ⟨rfl,rfl⟩;exact⟨rfl,[],.refl _,List.Pairwise.nil,h,⟨rfl,rfl,rfl,yA _,λ_ _ _=>rfl⟩⟩
 simp only[Y0]at e;obtain⟨rfl,_,_⟩:=e;exact zpA i c b base L w h f hl
end
end Go.Proofs.YtikojfajahnhgaaGreat
