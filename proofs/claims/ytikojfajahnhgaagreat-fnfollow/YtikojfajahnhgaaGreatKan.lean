import Derived.Test.YtikojfajahnhgaaGreatKai
set_option linter.all false
set_option maxHeartbeats 12800000
set_option maxRecDepth 100000
namespace Go.Proofs.YtikojfajahnhgaaGreat
open Go.RowKit Go.Proofs.Tryz
attribute [local go_sem ↓] wp_at_zero wp_at_succ
attribute [local simp] At I6 Pn mzI Bk
attribute [local go_sem] At I6 Pn Bk
variable{P:Prop}
def Ir.dz{p f a w w' e}(h:Ir p f a w e w')(b:Bu p f a=none):e=.returned (.tuple #[.slice none 0 0,.bool false])/\Bw w w':=by grind[FE,Bu,Ir]
def Ir.dd{p f b o w w' e}(h:Ir p f b w e w')(d:Bu p f b=some o):∃a c,e=.returned (.tuple #[.slice a o.length c,.bool true])/\w'.ownsRow w.heap.size 367 4 (.slice a o.length c) o.length (o.flatMap FE)/\Bw w w':=by grind[FE,Bu,Ir]
abbrev Mn:=Pm × Value × Value
def Nb(x:Mn):Aj:=[x.2.1,x.2.2]
structure JO(w:Aa) (base:Nat) (x:Mn):Prop where
 ts:∃a c,x.2.1=.slice a x.1.G.length c
 bs:∃a c,x.2.2=.slice a x.1.az.length c
 ot:w.ownsRow base 3 1 x.2.1 x.1.G.length (Ay x.1.G)
 ob:w.ownsRow base 367 4 x.2.2 x.1.az.length (x.1.az.flatMap FE)
structure MO(w:Aa) (b1 base:Nat) (a:Af) (c:Nat) (L:List Mn):Prop where
 row:w.ownsRow b1 183 2 (.slice a L.length c) L.length (L.flatMap Nb)
 all:∀x∈L,JO w base x
def MO.nil(w a base):MO w a base none 0 []:=⟨yJ _ _ _ _,λx hx=>qF⟩
def JO.C{w w' base x}(h:JO w base x)(a:Bw w w'):JO w' base x:=⟨h.ts,h.bs,AZ h.ot a,AZ h.ob a⟩
def MO.C{w w' b base a c L}(h:MO w b base a c L)(d:Bw w w'):MO w' b base a c L:=⟨AZ h.row d,λx e=>(h.all x e).C d⟩
def JO.lower{w base base' x}(h:JO w base x)(a:base'<=base):JO w base' x:=⟨h.ts,h.bs,C4 h.ot a,C4 h.ob a⟩
def JO.grown{w w' base t x row}(h:JO w base x)(b:w.grownBy w' row)(a:∀k,row=some k->∃c,Bk w k c t)(d:t≠3)(e:t≠367):JO w' base x:=⟨h.ts,h.bs,JZ h.ot b a d,JZ h.ob b a e⟩
def MO.snoc{w w' b base a d c e L x}(h:MO w b base a c L)(hx:JO w base x)(ho:w'.ownsRow b 183 2 (.slice d (L.length+1) e) (L.length+1) (L.flatMap Nb++Nb x))(g:w.grownBy w' (Value.slice a L.length c).ownBlock):MO w' b base d e (L++[x]):=by
 refine⟨Qm,λy hy=>?_⟩;have O:JO w base y:=by
  exact tI
 exact O.grown g (λk f=>A7 h.row f) qi qi
def MO.get{w f base a c L}(h:MO w f base a c L){i x}(d:L[i]?=some x) :
  ∃k,a=some ⟨k,0,none⟩/\k<w.heap.size/\At w k (i*2) x.2.1/\At w k (i*2+1) x.2.2:=by
 have key:=λj u(hj:(Nb x)[j]?=some u)=>CG h.row (Hf (cells:=Nb) (m:=2) (λ_=>rfl) L i x j u d hj);obtain⟨k,rfl,_,O,_⟩:=key 0 _ rfl;obtain⟨g,e,_,b,_⟩:=key 1 _ rfl;cases e;exact⟨k,rfl,yI w ⟨k,_,none⟩ O,O,b⟩
def sT{w base x}(h:JO w base x):∀u∈Nb x,u.oneCell'=true:=by
 obtain⟨⟨a,c,b⟩,⟨f,e,d⟩,_,_⟩:=h;intro u hu;simp[Nb]at hu;rcases hu with rfl|rfl
 .rw[b];rfl
 rw[d];rfl
def nT:(prog.info? 183).map (λi=>(i.zero,i.size,i.bytes))=some (some (.agg #[.slice none 0 0,.slice none 0 0]),2,48):=qg
def Rr:(prog.info? 3).map (λi=>(i.zero,i.size,i.bytes))=some (some (I6 0),1,8):=qg
def wC{w:Aa}{base xs a c}(h:w.ownsRow base 3 1 (.slice a xs.length c) xs.length (Ay xs))(e:a=none):xs.length=0:=by
 subst e;rcases h.2 with⟨_,b⟩|⟨g,cap,O,hv,_⟩
 .exact b
 cases hv
def xw{w:Aa}{base xs a c}(h:w.ownsRow base 3 1 (.slice a xs.length c) xs.length (Ay xs))(d)(e:a=some d)(j u)(hu:(Ay xs)[j]?=some u):w.cell? (d.add j)=some u:=by
 obtain⟨g,b,_,f,_⟩:=CG h hu;rw[e]at b;cases b;rw[Wu,Yj];exact f
def lf(xs):∀u∈Ay xs,u.oneCell'=true:=by
 intro u hu;simp[Ay]at hu;obtain⟨x,_,rfl⟩:=hu;rfl
def zt1(xs):(Ay xs).length=xs.length*1:=by simp[Ay]
def ZR(xs x):Ay (xs++[x])=Ay xs++[I6 x]:=by simp[Ay]
def Cs.ew{w a fs}(h:Cs w a fs){i f}(j:fs[i]?=some f):∃b o,a=some ⟨b,o,none⟩/\b<w.heap.size/\At w b (o+i*3) (I6 f.tag)/\At w b (o+i*3+1) (.string f.E)/\∃d c,At w b (o+i*3+2) (.slice d f.v.length c)/\Cj w d f.v:=by
 obtain⟨b,o,e,g,l,d,c,k,m⟩:=h i f j;exact⟨b,o,e,Oo g,g,l,d,c,k,m⟩
def EL(p:Pt)(x:Pm)(l:Ab):Bool:=decide (0<(DB p x l).length)
def GM(p:Pt)(x:Pm)(l:Ab):Cr:=if p.neg=true then [] else DB p x l
def zg{p x l f}(h:Bu p f x.az=none):EL p x (l++[f])=EL p x l:=by unfold EL;rw[Vx,h];simp
def ztb{p x l f o}(h:Bu p f x.az=some o):EL p x (l++[f])=true:=by unfold EL;rw[Vx,h];simp
def ztK{p x l f}(h:Bu p f x.az=none):GM p x (l++[f])=GM p x l:=by unfold GM;rw[Vx,h];simp
def Vt{p x l}(h:p.neg=true):GM p x l=[]:=if_pos h
def zrX{p x l f o}(a:p.neg=false)(h:Bu p f x.az=some o):GM p x (l++[f])=GM p x l++[⟨x.G++[f.tag],o⟩]:=by grind[Bu,GM,DB,Vx]
def zql(p x l):(GM p x l).length<=l.length:=by grind[GM,DB,ZT]
def zo1{p fs x}(h:p.neg=false):I7 p fs x=GM p x fs:=by grind[I7,GM,DB]
def oz{p fs x}(h:p.neg=true)(b)(a:b=EL p x fs):I7 p fs x=if b=true then [] else [x]:=by grind[DB,EL,I7]
def zoL(p fs)(X:Cr)(k x)(h:X[k]?=some x):Eo p fs (X.take (k+1))=Eo p fs (X.take k)++I7 p fs x:=by
 unfold Eo;rw[Yc,h,Yy];simp
def Tp(p fs):∀X:Cr,(Eo p fs X).length<=X.length*(fs.length+1)
 |[]=>by simp[Eo]
 |x::r=>by
  have b:=Tp p fs r
  have c:=zpi p fs x
  have a:Eo p fs (x::r)=I7 p fs x++Eo p fs r:=by unfold Eo;rw[yX]
  rw[a,yM,Ya,Nat.add_mul]
  omega
def xd{a n c k}{w:Aa}{base e m xs}(h:w.ownsRow base e m (.slice a n c) n xs)(b:w.heap.size<=k):(Value.slice a n c).ownBlock≠some k:=λO=>by
 have:=(h.lt k O).2;omega
def tU(h:P:=by have h3:min k L.length*(fs.length+1)<=k*41:=KY (Nat.min_le_left _ _) (by omega);omega):=h
def sZ(h:P:=by rw[hneg]at ak;clear hneg;go_wp2;exact⟨⟨k+1,a,c,M2,by go_num,by omega,rfl,ay,Rq,Dq⟩,by simp[intOf];omega⟩):=h
def zpq(p fs L aL aV fa fc pa pc){q b1 base}(w)(bf:Gs q w aL p.s)(bj:Cs w fa fs)(bk:MO w b1 base pa pc L)(bP:base<=w.heap.size)(bB:p.s.length<=6)(bF:fs.length<=40)(hL:L.length<=200000000)(hX:∀x∈L,x.1.G.length<=900/\x.1.az.length<=900) :
  Ca 125 #[.agg #[.bool p.neg,.string p.E,.slice aL p.s.length aV],.slice fa fs.length fc,.slice pa L.length pc] w λe w'=>(∃a c M,e=.returned (.slice a M.length c)/\MO w' w.heap.size base a c M/\M.map Prod.fst=Eo p fs (L.map Prod.fst))/\Bw w w':=by
 obtain⟨HT,HF,HP,HX⟩:=BP bf bj bk hX;clear bf bj bk hX;go_enter func125,ntmps125;go_upto_region 1 with fail;refine BF ?_;intro w0 aN aI;obtain⟨a4,bn,bE⟩:=Ax aI;have H0:=Ad aN;have bV:=aN.size;have bR:w.heap.size<w0.heap.size:=Ap aI;clear aN aI;go_wp2
 go_loopw [18,7] (λiv ov wr=>∃(k:Nat)(a:Af)(c:Nat)(M:List Mn),iv=.int .i64 (k:Int)/\k<=L.length/\ov=.slice a M.length c/\M.map Prod.fst=Eo p fs ((L.map Prod.fst).take k)/\MO wr w0.heap.size base a c M/\Bw w0 wr) (λiv _ _=>L.length-(intOf iv).toNat)
 .exact⟨0,none,0,[],rfl,yn _,rfl,rfl,MO.nil _ _ _,Au⟩
 obtain⟨k,a,c,M,rfl,bX,rfl,hM,R,y⟩:=hrel;obtain⟨HM,ROW,aZ,r⟩:=BP hM R y (H0.thn y);have bu:=y.size;have bW:M.length<=k*41:=by
  have Z:=Tp p fs ((L.map Prod.fst).take k);have h2:=congrArg List.length hM;simp at Z h2;exact tU
 clear hM R y;by_cases hk:k<L.length
 .obtain⟨x,hx⟩:=Bq hk;obtain⟨⟨b,d⟩,tv,bv⟩:=x;obtain⟨lb,rfl,bU,y0,y1⟩:=HP.get hx;have a0:=HX _ (yd hx);have PX:=Ad (HP.all _ (yd hx));obtain⟨⟨ta,tc,e1⟩,⟨ba,bc,e2⟩,aT,aR⟩:=PX.o;simp only at e1 e2 aT aR y0 y1 a0;subst e1 e2;obtain⟨bM,bL⟩:=a0;obtain⟨OT,OB,aM⟩:=AK aT aR (zoL p fs (L.map Prod.fst) k ⟨b,d⟩ (by rw[yE,hx];rfl));have x0:=zab r y0;have x1:=zab r y1;obtain⟨z0,z1⟩:=CZ hk;have br:lb<wr.heap.size:=qd;clear hx y0 y1 aT aR;go_upto_region 5 with fail;refine BF ?_;intro w2 aE aC;obtain⟨pb,A⟩:=AF wr.heap.size;rw[<-A]at aC⊢;obtain⟨aU,R2,D2,N2⟩:=BP aC (ROW.C aE) (aZ.thn aE) (xd ROW.row (WP A.z));have bY:=aE.size;have a5:pb<w2.heap.size:=Ap aC;have bG:w0.heap.size<=pb:=qd;clear aE aC x0 x1 ROW aZ r br bu A;go_wp2
  go_loopw [24,7,10] (λjv ov av i=>∃(j:Nat)(a:Af)(c:Nat)(M2:List Mn)(g:Bool),jv=.int .i64 (j:Int)/\j<=fs.length/\ov=.slice a M2.length c/\av=.bool g/\g=EL p ⟨b,d⟩ (fs.take j)/\M2.map Prod.fst=Eo p fs ((L.map Prod.fst).take k)++GM p ⟨b,d⟩ (fs.take j)/\MO i w0.heap.size base a c M2/\(Value.slice a M2.length c).ownBlock≠some pb/\Bk i pb #[.slice ta b.length tc,.slice ba d.length bc] 183/\Bw w0 i/\w2.heap.size<=i.heap.size) (λjv _ _ _=>fs.length-(intOf jv).toNat)
  .exact⟨0,a,c,M,false,rfl,yn _,rfl,rfl,by simp[EL,DB],by rw[HM.o,show GM p ⟨b,d⟩ (fs.take 0)=[] by unfold GM;simp[DB]];simp,R2,N2,aU,D2,yA _⟩
  obtain⟨j,a,c,M2,g,rfl,bJ,rfl,rfl,n,aO,R,N,bg,y,bK⟩:=hrel;obtain⟨i,rfl⟩:=AF wr;obtain⟨ar,HG,Rq,Nq,aH,Dq,r⟩:=LG aO n R N bg y (H0.thn y);have bH:M2.length<=k*41+40:=by
   have Z:=Tp p fs ((L.map Prod.fst).take k);have h2:=congrArg List.length aO;have h4:=zql p ⟨b,d⟩ (fs.take j);simp at Z h2 h4;exact tU
  obtain⟨v0,v1⟩:=AE aH;clear aO R N bg y R2 N2 aU D2 n;by_cases hj:j<fs.length
  .obtain⟨f,hf⟩:=Bq hj;obtain⟨fb,fo,rfl,bZ,s0,s1,sa,sc,s2,aa⟩:=(HF.e r).ew hf;obtain⟨aG,SL⟩:=An (show fs.take (j+1)=fs.take j++[f] by rw[Yc,hf];rfl) aa;have ak:=zab Dq a4;have bi:=zab Dq bn;have a8:=zab Dq bE;obtain⟨u0,u1⟩:=CZ hj;have bm:w.heap.size<i.heap.size:=qd;have bl:pb<i.heap.size:=qd;clear hf aa;go_upto_region 9 with fail;refine BF ?_;intro w4 l aS;obtain⟨f0,f1,f2⟩:=Ax aS;obtain⟨R4,aA,D4⟩:=AK (Rq.C l) ((l.block _ bl).c aH) (Dq.thn l);have W4:=Ad (H0.thn D4);have aD:=zab l ak;have a7:=zab l bi;have a9:=zab l a8;have g0:=zab l v0;have g1:=zab l v1;have aK:=Ad (SL.e l);have bN:=l.size;have bS:i.heap.size<w4.heap.size:=Ap aS;clear l aS ak bi a8 v0 v1 s0 s1 s2 SL Rq aH Dq r;have HA:=Ad (zmX p f d aL aV sa sc ba bc w4 (HT.e W4) aK (GL.owns (AZ OB W4)) bB qd);go_wp2_with fail;refine HA.j ?_;intro e D hP;clear HA
   cases v:Bu p f d with
   |none=>
    obtain⟨rfl,O⟩:=hP.dz v;obtain⟨U,az,K,Y,t⟩:=Ei (show GM p ⟨b,d⟩ (fs.take (j+1))=GM p ⟨b,d⟩ (fs.take j) by rw[aG.o];exact ztK v) (show EL p ⟨b,d⟩ (fs.take (j+1))=EL p ⟨b,d⟩ (fs.take j) by rw[aG.o];exact zg v) (R4.C O) ((O.block _ qd).c aA) (D4.thn O);have W5:=Ad (H0.thn t);have bp:=O.size;have q0:=zab O aD;have h0:=zab O g0;have Z:=zab O g1;have t0:=zab O f0;clear hP O aD a7 a9 g0 g1 f0 f1 f2 R4 aA D4 W4 aK;cases g
    focus
     have J:=Ad (show false=EL p ⟨b,d⟩ (fs.take (j+1)) by rw[az.o];exact HG)
    rotate_left
    focus
     have J:=Ad (show true=EL p ⟨b,d⟩ (fs.take (j+1)) by rw[az.o];exact HG)
    rotate_left
    all_goals
     go_wp2;exact⟨⟨j+1,a,c,M2,_,qm,qd,rfl,rfl,J,by rw[ar.o,U.o],K,Nq,Y,t,qd⟩,qp⟩
   |some o=>
    obtain⟨oa,T,rfl,bh,O⟩:=hP.dd v;obtain⟨az,K,Y,t⟩:=BP (show EL p ⟨b,d⟩ (fs.take (j+1))=true by rw[aG.o];exact ztb v) (R4.C O) ((O.block _ qd).c aA) (D4.thn O);have W5:=Ad (H0.thn t);have bp:=O.size;have q0:=zab O aD;have h0:=zab O g0;have Z:=zab O g1;have t0:=zab O f0;clear hP O aD a7 a9 g0 g1 f0 f1 f2 R4 aA D4 W4 aK;rcases(show p.neg=false∨p.neg=true by cases p.neg<;>simp) with hneg|hneg
    .have U:=Ad (show GM p ⟨b,d⟩ (fs.take (j+1))=GM p ⟨b,d⟩ (fs.take j)++[⟨b++[f.tag],o⟩] by rw[aG.o];exact zrX hneg v);rw[hneg]at q0;clear v hneg;cases g;rotate_left;rotate_left
     all_goals
      obtain⟨J,aP,OO⟩:=AK (show true=EL p ⟨b,d⟩ (fs.take (j+1)) by rw[az.o]) (AZ OT W5) bh;have bT:w0.heap.size<=D.heap.size:=t.size;go_upto_region 14 with(first|(at_builtin;refine Dp qh (.tmp 46) (.tmp 48) 30 qh D.heap.size 3 _ 1 8 underlying30 Rr qh qd _ 0 [] qh (yJ _ _ _ _) ta b.length tc qh (Ay b) (zt1 _) (wC aP) (λad e=>xw aP ad e) (lf _) qj qd Bg ?_;intro a1 c1 w6 aY B bq)|fail);obtain⟨B6,T6⟩:=An (show Bw D w6 from⟨B.os,B.tape,B.output,B.size,λk hk=>B.block k hk (λe=>qo)⟩) (show w6.ownsRow D.heap.size 3 1 (.slice a1 b.length c1) b.length (Ay b) by have:=aY.o;simpa using this);have r0:=zab B6 t0;have bO:=B6.size;have aQ:=Ad (λo'=>Au.alloc Bg o':∀o',Bw w6 (w6.alloc o'));clear aY B bq aP bh;go_wp2_with (first|(at_builtin;refine Dp qh (.tmp 51) (.tmp 54) 30 qh D.heap.size 3 _ 1 8 underlying30 Rr qh qd _ b.length _ qh (AZ T6 (aQ _)) (some ⟨_,0,none⟩) 1 1 qh [.int .i64 f.tag] qh (λe=>qo) (CH _ _ _ _ qf) qP qj qd qe ?_;intro H I w7 aX aW a5;have T7:=Ad (show w7.ownsRow D.heap.size 3 1 (.slice H (b.length+1) I) (b.length+1) (Ay (b++[f.tag])) by have:=aX.o;rw[ZR];simpa using this);have B7:=Ad ((B6.c ((aQ _).j B6.size)).grown aW qe (λg n=>(T6.lt g n).1));have R7:=Ad (K.C B7);have bC:=Ad ((B7.block _ qd).c Y);have D7:=Ad (t.thn B7);have bQ:=B7.size;have bo:=Ad (AZ OO B7);have NX:=Ad (show JO w7 base (⟨b++[f.tag],o⟩,.slice H (b.length+1) I,.slice oa o.length T) from⟨⟨H,I,qf⟩,⟨oa,T,rfl⟩,by simpa using C4 T7 qd,C4 bo qd⟩);have W:=Ad (λo'=>Au.alloc Bg o':∀o',Bw w7 (w7.alloc o'));clear aX aW a5 T6 aQ B6 K Y t)|(at_builtin;refine Dp qh (.tmp 50) (.tmp 58) 118 qh w0.heap.size 183 _ 2 48 underlying118 nT qh qd _ M2.length _ qh (AZ R7.row (W _)) (some ⟨_,0,none⟩) 1 1 qh (Nb (⟨b++[f.tag],o⟩,.slice H (b.length+1) I,.slice oa o.length T)) qh (λe=>qo) (CH _ _ _ _ qf) (sT NX) qj qd qe ?_;intro a3 c3 w8 au m aB)|fail);obtain⟨R8,D8,bw,N8⟩:=BP (MO.snoc (R7.C (W _)) (NX.C (W _)) au m) ((D7.c ((W _).j D7.size)).grown m qe (λg n=>(R7.row.lt g n).1)) ((m.block pb qe (WU Nq)).c (((W _).block pb qd).c bC)) (show(Value.slice a3 (M2++[((⟨b++[f.tag],o⟩,.slice H (b.length+1) I,.slice oa o.length T):Mn)]).length c3).ownBlock≠some pb by rw[yM];rcases aB.o with h|h<;>(rw[show(M2.length+List.length [((⟨b++[f.tag],o⟩,.slice H (b.length+1) I,.slice oa o.length T):Mn)])=M2.length+1 from rfl,h]) ; exact Nq;simp;omega);have bD:=m.size;simp at bD;clear au m aB;go_roundw;exact⟨j+1,a3,c3,_,_,qm,qd,qf,rfl,J,by rw[yz,ar.o,U.o];simp,R8,N8,bw,D8,qd⟩;simp[intOf];omega
    have U:=Ad (show GM p ⟨b,d⟩ (fs.take (j+1))=GM p ⟨b,d⟩ (fs.take j) by rw[Vt hneg,Vt hneg]);rw[hneg]at q0;clear v hneg;cases g;rotate_left;rotate_left
    all_goals
     have J:=Ad (show true=EL p ⟨b,d⟩ (fs.take (j+1)) by rw[az.o]);go_wp2;exact⟨⟨j+1,a,c,M2,_,qm,qd,rfl,rfl,J,by rw[ar.o,U.o],K,Nq,Y,t,qd⟩,qp⟩
  have bA:j=fs.length:=qd;subst bA;have hy:¬(fs.length:Int)<(fs.length:Int):=qd;obtain⟨a6,aJ⟩:=An (show g=EL p ⟨b,d⟩ fs by rw[HG.o,yZ]) (show M2.map Prod.fst=Eo p fs ((L.map Prod.fst).take k)++GM p ⟨b,d⟩ fs by rw[ar.o,yZ]);have ak:=zab Dq a4;have bm:w.heap.size<i.heap.size:=qd;clear HG ar;rcases(show p.neg=false∨p.neg=true by cases p.neg<;>simp) with hneg|hneg
  .have ay:=Ad (show M2.map Prod.fst=Eo p fs ((L.map Prod.fst).take (k+1)) by rw[aJ.o,aM.o,zo1 hneg]);exact sZ
  cases g
  .have ay:=Ad (show M2.map Prod.fst++[⟨b,d⟩]=Eo p fs ((L.map Prod.fst).take (k+1)) by rw[aJ.o,aM.o,oz hneg _ a6.o,Vt hneg];simp);rw[hneg]at ak;clear hneg;have aF:=Ad (λo'=>Au.alloc Bg o':∀o',Bw i (i.alloc o'));have bI:w0.heap.size<=i.heap.size:=Dq.size;have bz:=Ad (PX.C r);go_wp2_with (first|(at_builtin;refine Dp qh (.tmp 67) (.tmp 69) 118 qh w0.heap.size 183 _ 2 48 underlying118 nT qh qd _ M2.length _ qh (AZ Rq.row (aF _)) (some ⟨_,0,none⟩) 1 1 qh (Nb (⟨b,d⟩,.slice ta b.length tc,.slice ba d.length bc)) qh (λe=>qo) (CH _ _ _ _ qf) (sT PX) qj qd qe ?_;intro a3 c3 w8 au m aB)|fail);obtain⟨R8,D8⟩:=An (MO.snoc (Rq.C (aF _)) (bz.C (aF _)) au m) ((Dq.c ((aF _).j Dq.size)).grown m qe (λg n=>(Rq.row.lt g n).1));clear au m aB;go_roundw;exact⟨k+1,a3,c3,_,qm,qd,qf,by rw[yz];exact ay,R8,D8⟩;simp[intOf];omega
  have ay:=Ad (show M2.map Prod.fst=Eo p fs ((L.map Prod.fst).take (k+1)) by rw[aJ.o,aM.o,oz hneg _ a6.o,Vt hneg];simp);exact sZ
 have bt:k=L.length:=qd;subst bt;have hy:¬(L.length:Int)<(L.length:Int):=qd;have HR:=Ad (show M.map Prod.fst=Eo p fs (L.map Prod.fst) by rw[HM.o,yR qf]);go_wp2;go_ret;exact⟨⟨a,c,M,rfl,⟨C4 ROW.row qd,ROW.all⟩,HR⟩,r⟩
def nA:∀(ts:A3)(vs:AH)(out o:BA),Fr out ts vs=some o->o.length<=out.length+ts.length
 |[],_,out,o,h=>by
  simp only[Fr]at h
  injection h with h
  subst h
  simp
 |_::_,[],out,o,h=>by
  simp only[Fr]at h
  injection h with h
  subst h
  omega
 |t::ts,v::vs,out,o,h=>by
  rw[Vy]at h
  cases O:Er out t v with
  |none=>rw[O]at h;cases h
  |some a=>
   rw[O]at h
   have b:=ww O
   have c:=nA ts vs a o h
   rw[Ya]
   omega
theorem zr5{p f a o}(h:Bu p f a=some o):o.length<=a.length+p.s.length:=by
 unfold Bu at h;split at h
 .exact nA _ _ _ _ h
 cases h
theorem zso(p x):∀(l:Ab)(y:Pm),y∈DB p x l->∃f∈l,∃o,Bu p f x.az=some o/\y=⟨x.G++[f.tag],o⟩:=by intro l;induction l<;>grind[Bu,DB]
def rN{p fs X t b}(h:∀x∈X,x.G.length<=t/\x.az.length<=b):∀y∈Eo p fs X,y.G.length<=t+1/\y.az.length<=b+p.s.length:=by grind[DB,Eo,Bu,I7,-> zso,-> zr5]
def zq2(fs p):∀(a:Bi)(xs:Cr)(n:Nat),BC (a++[p]) fs xs n=(Eo p fs (BC a fs xs n).1,(BC a fs xs n).2+(Eo p fs (BC a fs xs n).1).length):=by intro a;induction a<;>grind[Eo,BC]
def nM(fs)(b:fs.length<=40):∀(a:Bi)(xs:Cr)(n:Nat),(BC a fs xs n).1.length<=xs.length*41^a.length
 |[],xs,n=>by simp[BC]
 |r::a,xs,n=>by
  have d:=nM fs b a (Eo r fs xs) (n+(Eo r fs xs).length)
  have e:=Tp r fs xs
  simp only[BC,Ya,Nat.pow_succ]
  have f:xs.length*(fs.length+1)<=xs.length*41:=KY Bg qd
  have g:(Eo r fs xs).length*41^a.length<=xs.length*41*41^a.length:=KY qd Bg
  have c:xs.length*(41^a.length*41)=xs.length*41*41^a.length:=by rw[Nat.mul_comm (41^a.length),Nat.mul_assoc]
  omega
def Ue{k}(h:k<=5):41^k<=115856201:=by
 have:41^k<=41^5:=KF qd h;simpa using this
def UQ(ps:Bi)(fs:Ab)(w:Aa)(e:Ending)(w':Aa):Prop:=
 (∃a c M,e=.returned (.tuple #[.slice a M.length c,.int .i64 ((BC ps fs [⟨[],[]⟩] 0).2:Nat)])/\MO w' w.heap.size w.heap.size a c M/\M.map Prod.fst=(BC ps fs [⟨[],[]⟩] 0).1)/\Bw w w'
def UQ.mk{b fs w w' a c n M}(e:n=(BC b fs [⟨[],[]⟩] 0).2)(f:MO w' w.heap.size w.heap.size a c M)(d:M.map Prod.fst=(BC b fs [⟨[],[]⟩] 0).1)(g:Bw w w'):UQ b fs w (.returned (.tuple #[.slice a M.length c,I6 (n:Int)])) w':=by
 subst e;exact⟨⟨a,c,M,rfl,f,d⟩,g⟩
def MO.dT(w){b base k}(c:b<=k)(h:Bk w k #[.slice none 0 0,.slice none 0 0] 183):MO w b base (some ⟨k,0,none⟩) 1 [((⟨[],[]⟩,.slice none 0 0,.slice none 0 0):Mn)]:=
 ⟨⟨rfl,.inr ⟨k,1,_,rfl,c,h,yA _,qj,rfl,rfl⟩⟩,λx a=>by
  simp at a
  subst a
  exact⟨⟨none,0,rfl⟩,⟨none,0,rfl⟩,yJ _ _ _ _,yJ _ _ _ _⟩⟩
def oq(r:Ru)(fs D ax aS aG aJ aO fa fc){q}(w)(aE:Gl q w D r.x)(aD:Cs w fa fs)(a6:r.x.length<=6)(Y:∀p∈r.x,p.s.length<=6)(aj:fs.length<=40) :
  Ca 65 #[.agg #[.string r.name,.int .i64 r.aq,.slice D r.x.length ax,.slice aS r.A.length aG,.slice aJ r.K.length aO],.slice fa fs.length fc] w (UQ r.x fs w):=by
 obtain⟨HP,HF,aU⟩:=AK aE aD Y;clear aE aD Y;go_enter func65,ntmps65;go_upto_region 2 with fail;refine Ce ?_;intro w0 I Z g;have aT:At w0 w.heap.size 2 (.slice D r.x.length ax):=by simp[World.cell?,Z]
 obtain⟨H0,M0⟩:=An I (MO.dT (base:=w.heap.size) w0 (Kg w.heap.size) g);have a4:=I.size;have a0:w.heap.size+1<w0.heap.size:=Ap g;clear I Z g;go_wp2_with fail;clear aT
 go_loopw [15,6,7] (λiv pv nv wr=>∃(k:Nat)(a:Af)(c:Nat)(M:List Mn)(n:Nat),iv=.int .i64 (k:Int)/\k<=r.x.length/\pv=.slice a M.length c/\nv=.int .i64 (n:Int)/\n<=k*4750104241/\BC (r.x.take k) fs [⟨[],[]⟩] 0=(M.map Prod.fst,n)/\(∀x∈M,x.1.G.length<=k/\x.1.az.length<=6*k)/\MO wr w.heap.size w.heap.size a c M/\Bw w wr/\w0.heap.size<=wr.heap.size) (λiv _ _ _=>r.x.length-(intOf iv).toNat)
 .exact⟨0,_,1,[((⟨[],[]⟩,.slice none 0 0,.slice none 0 0):Mn)],0,rfl,yn _,rfl,rfl,yn _,rfl,by intro x i;simp at i;subst i;simp,M0,H0,yA _⟩
 obtain⟨k,a,c,M,n,rfl,aR,rfl,rfl,hn,R,aA,au,E,aW⟩:=hrel;obtain⟨H,az,ROW,O⟩:=BP R aA au E;have aY:=E.size;have a5:M.length<=41^k:=by
  have m:=nM fs aj (r.x.take k) [⟨[],[]⟩] 0;rw[R]at m;simp[Nat.min_eq_left aR]at m;exact m
 clear R aA au E M0;by_cases hk:k<r.x.length
 .obtain⟨p,l⟩:=Bq hk;obtain⟨pb,po,aK,aH,rfl,_,d0,d1,d2,aC,_⟩:=HP.dK l;have e0:=zab O d0;have e1:=zab O d1;have e2:=zab O d2;have aQ:=Ad aC;have aN:=aU p (yd l);have aX:=Ue (show k<=5 by omega);have aL:=Ad (show BC (r.x.take (k+1)) fs [⟨[],[]⟩] 0=(Eo p fs (M.map Prod.fst),n+(Eo p fs (M.map Prod.fst)).length) by rw[Yc,l];show BC (r.x.take k++[p]) fs _ 0=_;rw[zq2,H.o]);obtain⟨z0,z1⟩:=CZ hk;clear d0 d1 d2 aC l H;go_upto_region 6 with fail;refine BF ?_;intro w2 u g;obtain⟨b0,b1,b2⟩:=Ax g;obtain⟨R2,N⟩:=An (ROW.C u) (O.thn u);have a7:=u.size;clear u g e0 e1 e2 ROW O;have U:=Ad (zpq p fs M aK aH fa fc a c w2 (aQ.e N) (HF.e N) R2 qd aN aj qd (λx i=>by have:=az x i;omega));go_wp2_with fail;refine U.j ?_;rintro e w3 ⟨⟨a3,W,f,rfl,L,B⟩,J⟩;obtain⟨R3,D3,aI⟩:=AK (show MO w3 w.heap.size w.heap.size a3 W f from⟨C4 L.row qd,L.all⟩) (N.thn J) B;have d:=congrArg List.length B;rw[yu]at d;have aw:=Tp p fs (M.map Prod.fst);rw[yu]at aw;have ar:M.length*(fs.length+1)<=115856201*41:=KY qd qd;have aV:f.length<=4750104241:=qd;have aZ:=J.size;have aF:=Ad (show∀x∈f,x.1.G.length<=k+1/\x.1.az.length<=6*(k+1) by
   intro x i;have m:=rN (p:=p) (fs:=fs) (X:=M.map Prod.fst) (t:=k) (b:=6*k) (λy hy=>by obtain⟨z,hz,rfl⟩:=yv.1 hy;exact az z hz) x.1 (by rw[<-B];exact yS i);omega)
  have w1:(-9223372036854775808:Int)<=(n:Int)+(f.length:Int):=qd;have a8:(n:Int)+(f.length:Int)<=9223372036854775807:=qd;have aP:=Ad d;clear L B J U aw ar d;go_wp2;exact⟨⟨k+1,a3,W,f,n+f.length,qm,qd,rfl,qm,qd,by rw[aL.o,aI.o,aP.o],aF,R3,D3,qd⟩,qp⟩
 have aM:k=r.x.length:=qd;subst aM;have hy:¬(r.x.length:Int)<(r.x.length:Int):=qd;have T:=Ad (show BC r.x fs [⟨[],[]⟩] 0=(M.map Prod.fst,n) by rw[<-H.o,yZ]);go_wp2;refine bodyPost_ret (v:=.tuple #[.slice a M.length c,.int .i64 (n:Int)]) (by simp[results,results65,go_sem]) rfl ?_;exact UQ.mk (by rw[T.o]) ROW (by rw[T.o]) O
def lD{v o}:OV v o=true↔v=o:=by
 unfold OV;constructor
 .intro h;simp only[ym,beq_iff_eq,decide_eq_true_eq]at h;exact V.da h.1 h.2.1 h.2.2
 rintro rfl;simp
def ck(v o):Bv 1 v o=decide (v=o):=by
 have:Bv 1 v o=OV v o:=by simp[Bv]
 rw[this];by_cases h:v=o
 .rw[decide_eq_true h];exact lD.2 h
 rw[decide_eq_false h];cases a:OV v o
 .rfl
 exact absurd (lD.1 a) h
def Fh(T:Ab)(vs:AY)(ts:A3)(f:F)(i:Nat)(t:Tm):Bool:=
 (match FO ts i t with|none=>true|some u=>Ga u f.v)&&(match Dj vs ts i t with|none=>true|some u=>AA T f u)
def sW{ts i t}(h:ts[i]?=some t)(a:t.w≠2)(name):Aq ts (i+1) name=Aq ts i name:=by grind[Aq,Jy,Oz,JY]
def gr{b ts a i t v}(h:ts[i]?=some t)(hv:a[i]?=some v)(c:t.w≠2):Dg b ts a (i+1)=Dg b ts a i:=by
 rw[Vo h hv,if_neg (λe=>c e.1),yO]
def r6{a}{i:Nat}{v b val}(h:a[i]?=some v):Ga ⟨(i:Int),b, -1,val⟩ a=Bv b v val:=by simp_all[IE,V,Ga,Bv]
def rD{a}{i j:Nat}{v u b val}(h:a[i]?=some v)(hj:a[j]?=some u):Ga ⟨(i:Int),b,(j:Int),val⟩ a=Bv b v u:=by simp_all[IE,V,Ga,Bv]
def oY{T f i v a x}(h:f.v[i]?=some v):AA T f ⟨i,a,x.aw,x.aj⟩=Bv a v (IX T x):=by
 unfold AA IX
 grind
theorem Pr{s:ByteArray}:s.toList.isEmpty=true↔s=⟨#[]⟩:=by grind[XE,Gu]
section
variable {T : Ab} {vs : AY} {f : F} {ts : A3} {i : Nat} {t : Tm} {v : V}
def me(hl:ts.length=f.v.length)(a:i<=ts.length)(name:ByteArray):DM (Bc T vs++Dg (Bc T vs) ts f.v i) name=(match DM (Bc T vs) name with|some x=>some x|none=>(Aq ts i name).bind (λj=>f.v[j]?)):=by
 rw[gz];cases h:DM (Bc T vs) name with
 |some x=>rfl
 |none=>exact pp hl h i a
def GE(T:Ab)(vs:AY)(ts:A3)(f:F)(i:Nat):Prop:=∀name x j,DM (Bc T vs) name=some x->Aq ts i name=some j->f.v[j]?=some x
def tX(h:P:=by
 refine⟨?_,λ_ name x j hx hj=>H1 name x j hx (by rwa [sW ht (by omega)]at hj)⟩;unfold Er
 grind
 ):=h
def zqc(hk:t.w=0)(O:t.F=⟨#[]⟩)(ht:ts[i]?=some t)(hv:f.v[i]?=some v)(d:Cv vs ⟨#[]⟩=none)(H1:GE T vs ts f i) :
  Er (Bc T vs++Dg (Bc T vs) ts f.v i) t v=(if Fh T vs ts f i t=true then some (Bc T vs++Dg (Bc T vs) ts f.v (i+1)) else none)/\(Fh T vs ts f i t=true->GE T vs ts f (i+1)):=by
 have a:FO ts i t=none:=by unfold FO;rw[if_pos LV]
 have b:Dj vs ts i t=none:=by unfold Dj;rw[O,d]
 have c:Fh T vs ts f i t=true:=by unfold Fh;rw[a,b];rfl
 rw[if_pos c,gr ht hv qd];exact tX
def zq0(hk:t.w=1)(O:t.F=⟨#[]⟩)(ht:ts[i]?=some t)(hv:f.v[i]?=some v)(d:Cv vs ⟨#[]⟩=none)(H1:GE T vs ts f i) :
  Er (Bc T vs++Dg (Bc T vs) ts f.v i) t v=(if Fh T vs ts f i t=true then some (Bc T vs++Dg (Bc T vs) ts f.v (i+1)) else none)/\(Fh T vs ts f i t=true->GE T vs ts f (i+1)):=by
 have a:FO ts i t=some ⟨(i:Int),1, -1,t.val⟩:=by
  unfold FO Ct;rw[if_neg LV,if_pos (Pr.2 O),if_neg LV]
 have b:Dj vs ts i t=none:=by unfold Dj;rw[O,d]
 have c:Fh T vs ts f i t=decide (v=t.val):=by unfold Fh;rw[a,b];simp only[r6 hv,ck,V_]
 rw[c,gr ht hv qd];exact tX
def tZ(h:P:=by rw[yK hj]at this;injection this with this;simp[this]):=h
def zqp(hk:t.w=3)(hl:ts.length=f.v.length)(k:ts[i]?=some t)(hv:f.v[i]?=some v)(q:Cv vs ⟨#[]⟩=none)(p:t.F≠⟨#[]⟩->Cv vs t.F≠none∨Aq ts i t.F≠none)(l:GE T vs ts f i) :
  Er (Bc T vs++Dg (Bc T vs) ts f.v i) t v=(if Fh T vs ts f i t=true then some (Bc T vs++Dg (Bc T vs) ts f.v (i+1)) else none)/\(Fh T vs ts f i t=true->GE T vs ts f (i+1)):=by
 have o:i<ts.length:=(yf.1 k).1;rw[gr k hv qd];refine⟨?_,λ_ name x j m hj=>l name x j m (by rwa [sW k qd]at hj)⟩;unfold Er;rw[if_neg qd,if_neg qd,if_pos hk];by_cases O:t.F=⟨#[]⟩
 .have b:FO ts i t=some ⟨(i:Int),t.op, -1,t.val⟩:=by
   unfold FO Ct;rw[if_neg LV,if_pos (Pr.2 O),if_pos LV]
  have e:Dj vs ts i t=none:=by unfold Dj;rw[O,q]
  have d:Fh T vs ts f i t=Bv t.op v t.val:=by unfold Fh;rw[b,e];simp only[r6 hv,V_]
  rw[d,if_pos O]
 have c:¬t.F.toList.isEmpty=true:=λh=>O (Pr.1 h);rw[if_neg O,me hl (V7 o),RM];cases a:Aq ts i t.F with
 |some j=>
  have hj:j<f.v.length:=by
   have:=VL a;simp at this;omega
  have b:FO ts i t=some ⟨(i:Int),t.op,(j:Int),K1⟩:=by
   unfold FO Ct;rw[if_neg LV,if_neg c,a];simp[hk]
  have e:Dj vs ts i t=none:=by
   unfold Dj;cases Cv vs t.F with
   |none=>rfl
   |some x=>simp only[a]
  have d:Fh T vs ts f i t=Bv t.op v f.v[j]:=by unfold Fh;rw[b,e];simp only[rD hv (yK hj),V_]
  have n:((match (Cv vs t.F).map (IX T) with|some x=>some x|none=>(some j).bind (λj=>f.v[j]?)).getD P6)=f.v[j]:=by
   cases g:Cv vs t.F with
   |none=>simp[hj]
   |some x=>
    have:=l t.F (IX T x) j (by rw[RM,g];rfl) a;exact tZ
  rw[d,n]
 |none=>
  cases g:Cv vs t.F with
  |none=>rcases p O with h|h;exact absurd g h;exact absurd a h
  |some x=>
   have b:FO ts i t=none:=by
    unfold FO;rw[if_neg LV,if_neg c,a]
   have e:Dj vs ts i t=some ⟨i,t.op,x.aw,x.aj⟩:=by
    unfold Dj Ct;rw[g];simp only[a];simp[hk]
   have d:Fh T vs ts f i t=Bv t.op v (IX T x):=by unfold Fh;rw[b,e];simp only[oY hv,YK]
   rw[d];rfl
def zqq(hk:t.w=2)(G:t.F≠⟨#[]⟩)(hl:ts.length=f.v.length)(p:ts[i]?=some t)(hv:f.v[i]?=some v)(s:GE T vs ts f i) :
  Er (Bc T vs++Dg (Bc T vs) ts f.v i) t v=(if Fh T vs ts f i t=true then some (Bc T vs++Dg (Bc T vs) ts f.v (i+1)) else none)/\(Fh T vs ts f i t=true->GE T vs ts f (i+1)):=by
 have C:i<ts.length:=(yf.1 p).1;have n:¬t.F.toList.isEmpty=true:=λh=>G (Pr.1 h);have A:Ct t=1:=by unfold Ct;rw[if_neg LV]
 have D:∀out,Er out t v=(match DM out t.F with|some old=>if old=v then some out else none|none=>some (out++[⟨t.F,v⟩])):=by
  intro out;unfold Er;rw[if_neg qd,if_pos hk];cases DM out t.F<;>rfl
 rw[D,me hl (V7 C),Vo p hv];cases d:Aq ts i t.F with
 |some j=>
  have hj:j<f.v.length:=by
   have:=VL d;simp at this;omega
  have r:FO ts i t=some ⟨(i:Int),1,(j:Int),K1⟩:=by
   unfold FO;rw[if_neg LV,if_neg n,d,A]
  have l:Dj vs ts i t=none:=by
   unfold Dj;cases Cv vs t.F with
   |none=>rfl
   |some x=>simp only[d]
  have o:Fh T vs ts f i t=decide (v=f.v[j]):=by unfold Fh;rw[r,l];simp only[rD hv (yK hj),ck,V_]
  have E:(match DM (Bc T vs) t.F with|some x=>some x|none=>(some j).bind (λj=>f.v[j]?))=some f.v[j]:=by
   cases g:DM (Bc T vs) t.F with
   |none=>simp[hj]
   |some x=>
    have:=s t.F x j g d;exact tZ
  rw[E,o,if_neg (c:=t.w=2/\_) (λe=>by cases e.2.2),yO];refine⟨?_,λ_ name x B b O=>?_⟩
  .by_cases h:v=f.v[j]
   .simp[h]
   show(if f.v[j]=v then _ else _)=_;rw[if_neg (λe=>h e.z),if_neg qu]
  .rw[Oz p]at O;cases a:Aq ts i name with
   |some m=>rw[a]at O;injection O with O;subst O;exact s name x m b a
   |none=>
    rw[a]at O;simp only at O;split at O
    .rename_i q;rw[(JY.1 q).2]at d;rw[d]at a;cases a
    .cases O
 |none=>
  have r:FO ts i t=none:=by
   unfold FO;rw[if_neg LV,if_neg n,d]
  cases g:Cv vs t.F with
  |none=>
   have k:DM (Bc T vs) t.F=none:=by rw[RM,g];rfl
   have l:Dj vs ts i t=none:=by unfold Dj;rw[g]
   have o:Fh T vs ts f i t=true:=by unfold Fh;rw[r,l];rfl
   rw[k,o,if_pos rfl,if_pos ⟨hk,rfl,rfl⟩];refine⟨qf,λ_ name x B b O=>?_⟩;rw[Oz p]at O;cases a:Aq ts i name with
   |some m=>rw[a]at O;injection O with O;subst O;exact s name x m b a
   |none=>
    rw[a]at O;simp only at O;split at O
    .rename_i q;rw[<-(JY.1 q).2,k]at b;cases b
    .cases O
  |some x=>
   have k:DM (Bc T vs) t.F=some (IX T x):=by rw[RM,g];rfl
   have l:Dj vs ts i t=some ⟨i,1,x.aw,x.aj⟩:=by
    unfold Dj;rw[g];simp only[d,A]
   have o:Fh T vs ts f i t=decide (v=IX T x):=by unfold Fh;rw[r,l];simp only[oY hv,ck,YK]
   rw[k,o,if_neg (c:=t.w=2/\_) (λe=>by cases e.2.1),yO];refine⟨?_,λu name y B b O=>?_⟩
   .by_cases h:v=IX T x
    .simp[h]
    show(if IX T x=v then _ else _)=_;rw[if_neg (λe=>h e.z),if_neg qu]
   rw[Oz p]at O;cases a:Aq ts i name with
   |some m=>rw[a]at O;injection O with O;subst O;exact s name y m b a
   |none=>
    rw[a]at O;simp only at O;split at O
    .rename_i q;injection O with O;subst O;rw[<-(JY.1 q).2,k]at b;injection b with b;rw[hv,of_decide_eq_true u,b]
    cases O
end
section
variable {T : Ab} {vs : AY} {f : F} {ts : A3}
def LN(T:Ab)(vs:AY)(ts:A3)(f:F):Nat->Bool
 |0=>true
 |i+1=>LN T vs ts f i&&(match ts[i]? with|none=>true|some t=>Fh T vs ts f i t)
def pH{i t}(h:ts[i]?=some t):LN T vs ts f (i+1)=(LN T vs ts f i&&Fh T vs ts f i t):=by simp[LN,h]
def pE{i}:∀n,i<=n->LN T vs ts f n=true->LN T vs ts f i=true
 |0,h,hn=>by
  have:i=0:=qd
  subst this
  exact hn
 |n+1,h,hn=>by
  by_cases a:i=n+1
  .subst a;exact hn
  simp only[LN,ym]at hn
  exact pE n qd hn.1
def oB:∀n,LN T vs ts f n=((Cy ts n).all (λt=>Ga t f.v)&&(Dr vs ts n).all (AA T f))
 |0=>rfl
 |n+1=>by
  simp only[LN,Cy,Dr,iZ]
  rw[oB n]
  cases ts[n]? with
  |none=>simp
  |some t=>
   simp only[Fh]
   cases FO ts n t<;>cases Dj vs ts n t<;>simp[Bool.and_assoc,Bool.and_left_comm,Bool.and_comm]
def lW{s:ByteArray}(h:AP s.data.toList=true):s≠⟨#[]⟩:=by
 rintro rfl;revert h
 decide
def zs5{i t v}(a:DC t=true)(hl:ts.length=f.v.length)(b:ts[i]?=some t)(hv:f.v[i]?=some v)(c:Cv vs ⟨#[]⟩=none)(d:t.w=3->t.F≠⟨#[]⟩->Cv vs t.F≠none∨Aq ts i t.F≠none)(O:GE T vs ts f i) :
  Er (Bc T vs++Dg (Bc T vs) ts f.v i) t v=(if Fh T vs ts f i t=true then some (Bc T vs++Dg (Bc T vs) ts f.v (i+1)) else none)/\(Fh T vs ts f i t=true->GE T vs ts f (i+1)):=by
 unfold DC at a;by_cases h0:t.w=0
 .rw[if_pos qK]at a;simp only[ym]at a;exact zqc h0 (Pr.1 a.2.1) b hv c O
 rw[if_neg qK]at a;by_cases h1:t.w=1
 .rw[if_pos qx]at a;simp only[ym]at a;exact zq0 h1 (Pr.1 a.2.1) b hv c O
 rw[if_neg qx]at a;by_cases h2:t.w=2
 .rw[if_pos qw]at a;simp only[ym]at a;exact zqq h2 (lW a.2.1) hl b hv O
 rw[if_neg qw]at a;by_cases h3:t.w=3
 .exact zqp h3 hl b hv c (d h3) O
 rw[if_neg OM]at a;cases a
def mJ(c:∀t∈ts,DC t=true)(hl:ts.length=f.v.length)(g:Cv vs ⟨#[]⟩=none)(e:∀i t,ts[i]?=some t->t.w=3->t.F≠⟨#[]⟩->Cv vs t.F≠none∨Aq ts i t.F≠none):∀(d i:Nat),i+d=ts.length->LN T vs ts f i=true->GE T vs ts f i ->
  Fr (Bc T vs++Dg (Bc T vs) ts f.v i) (ts.drop i) (f.v.drop i)=(if LN T vs ts f ts.length=true then some (Bc T vs++Dg (Bc T vs) ts f.v ts.length) else none)
 |0,i,hi,hok,_=>by
  have:i=ts.length:=qd
  subst this
  rw[if_pos hok,yH Bg]
  rfl
 |d+1,i,hi,hok,hf=>by
  obtain⟨t,a⟩:∃t,ts[i]?=some t:=⟨ts[i],qf⟩
  obtain⟨v,hv⟩:∃v,f.v[i]?=some v:=⟨f.v[i],qf⟩
  obtain⟨k,l⟩:=zs5 (T:=T) (c t (yd a)) hl a hv g (e i t a) hf
  rw[Dx a,Dx hv,Vy,k]
  by_cases b:Fh T vs ts f i t=true
  .rw[if_pos b]
   exact mJ c hl g e d (i+1) qd (by rw[pH a,hok,b];rfl) (l b)
  rw[if_neg b,if_neg (λj=>b (by have:=pE (i:=i+1) ts.length qd j;rw[pH a,hok]at this;simpa using this))]
def zsn{p}(b:Ej p=true)(m:Cv vs ⟨#[]⟩=none)(l:∀i t,p.s[i]?=some t->t.w=3->t.F≠⟨#[]⟩->Cv vs t.F≠none∨Aq p.s i t.F≠none) :
  Bu p f (Bc T vs)=(if(Ah (DW p) f&&(Dr vs p.s p.s.length).all (AA T f))=true then some (Bc T vs++Dg (Bc T vs) p.s f.v p.s.length) else none):=by
 have d:DW p=⟨p.E,(p.s.length:Int),Cy p.s p.s.length⟩:=if_pos b;have O:∀t∈p.s,DC t=true:=by
  unfold Ej at b;simp only[ym]at b;exact Y7.1 b.2.2
 unfold Bu;rw[d];by_cases a:p.E=f.E/\p.s.length=f.v.length
 .have c:Ah ⟨p.E,(p.s.length:Int),Cy p.s p.s.length⟩ f=(Cy p.s p.s.length).all (λt=>Ga t f.v):=by
   unfold Ah;rw[decide_eq_true (by rw[a.1]),decide_eq_true qe];simp
  rw[if_pos a,c,<-oB];have:=mJ (T:=T) O a.2 m l p.s.length 0 qd rfl (λname x j _ h=>by simp[Aq,Iq]at h);simpa[Dg] using this
 rw[if_neg a];have c:Ah ⟨p.E,(p.s.length:Int),Cy p.s p.s.length⟩ f=false:=by
  unfold Ah;by_cases g:p.E=f.E
  .rw[decide_eq_false (p:=(f.v.length:Int)=_) (by simp;intro e;exact a ⟨g,qd⟩)];simp
  rw[decide_eq_false (p:=f.E.toList=_) (by
   intro e;have k:(f.E.toList==p.E.toList)=true:=by simpa using e
   rw[Gu]at k;exact g (by simpa using(Eq.z (by simpa using k:f.E=p.E))))]
  rfl
 rw[c];rfl
end
def zkL(s:ByteArray)(b:AY):∀a:AY,Cv (a++b) s=(match Cv a s with|some x=>some x|none=>Cv b s):=by intro a;induction a<;>grind[Cv]
section
variable {T : Ab} {vs : AY} {f : F} {ts : A3} {n : Nat}
def Tw(name):∀i,i<=ts.length->((Cv (Dw vs ts n i) name=none)↔(Cv vs name=none/\Aq ts i name=none))
 |0,_=>by simp[Dw,Aq,Iq]
 |i+1,hi=>by
  obtain⟨t,g⟩:∃t,ts[i]?=some t:=⟨ts[i],qf⟩
  have ih:=Tw name i qd
  have O:(Cv (Dw vs ts n i) t.F=none)↔(Cv vs t.F=none/\Aq ts i t.F=none):=Tw t.F i qd
  rw[VX g,Oz g]
  by_cases h:t.w=2/\Cv (Dw vs ts n i) t.F=none
  .rw[if_pos h,zkL]
   cases c:Cv (Dw vs ts n i) name with
   |some x=>
    have o:¬(Cv vs name=none/\Aq ts i name=none):=λe=>by rw[ih.2 e]at c;cases c
    constructor
    .intro e;cases e
    .rintro⟨l,f⟩
     exfalso
     apply o
     refine⟨l,?_⟩
     cases d:Aq ts i name with
     |none=>rfl
     |some j=>rw[d]at f;cases f
   |none=>
    obtain⟨b,a⟩:=ih.1 c
    rw[a]
    by_cases hv:t.F=name
    .rw[if_pos (JY.2 ⟨h.1,hv⟩)]
     simp[Cv,hv]
    rw[if_neg (λe=>hv (JY.1 e).2)]
    simp[Cv,hv,b]
  rw[if_neg h,ih]
  constructor
  .rintro⟨b,a⟩
   refine⟨b,?_⟩
   rw[a]
   refine if_neg (λe=>h ?_)
   obtain⟨k,m⟩:=JY.1 e
   subst m
   exact⟨k,O.2 ⟨b,a⟩⟩
  rintro⟨b,a⟩
  refine⟨b,?_⟩
  cases d:Aq ts i name with
  |none=>rfl
  |some j=>rw[d]at a;cases a
def zmC(T a b):Bc T (a++b)=Bc T a++Bc T b:=by simp[Bc]
def oA{name}:(DM (Bc T vs) name=none)↔Cv vs name=none:=by
 rw[RM];cases Cv vs name<;>simp
def zrI{i v}(name)(hv:f.v[i]?=some v):IX (T++[f]) ⟨name,T.length,i⟩=v:=by
 unfold IX;simp[hv]
def zrM{x}(a:x.aw<T.length):IX (T++[f]) x=IX T x:=by
 unfold IX;rw[yr a]
def zsq(h:∀x∈vs,x.aw<T.length):Bc (T++[f]) vs=Bc T vs:=by
 unfold Bc;exact Ym (λx a=>by rw[zrM (h x a)])
def oN(hl:ts.length=f.v.length)(h:∀x∈vs,x.aw<T.length):∀i,i<=ts.length->Bc (T++[f]) (Dw vs ts T.length i)=Bc T vs++Dg (Bc T vs) ts f.v i
 |0,_=>by simp[Dw,Dg,zsq h]
 |i+1,hi=>by
  obtain⟨t,c⟩:∃t,ts[i]?=some t:=⟨ts[i],qf⟩
  obtain⟨v,hv⟩:∃v,f.v[i]?=some v:=⟨f.v[i],qf⟩
  have O:=oN hl h i qd
  have b:=Tw (vs:=vs) (ts:=ts) (n:=T.length) t.F i qd
  rw[VX c,Vo c hv]
  by_cases a:t.w=2/\Cv (Dw vs ts T.length i) t.F=none
  .rw[if_pos a,zmC,O,if_pos ⟨a.1,oA.2 (b.1 a.2).1,(b.1 a.2).2⟩,yY]
   congr 2
   simp[Bc,zrI t.F hv]
  rw[if_neg a,O,if_neg (λe=>a ⟨e.1,b.2 ⟨oA.1 e.2.1,e.2.2⟩⟩),yO]
def VI(h:∀x∈vs,x.aw<n):∀i,∀x∈Dw vs ts n i,x.aw<n+1
 |0,x,a=>by have:=h x a;omega
 |i+1,x,a=>by
  simp only[Dw]at a
  cases b:ts[i]? with
  |none=>rw[b]at a;exact VI h i x a
  |some t=>
   rw[b]at a
   simp only at a
   split at a
   .rcases yp.1 a with a|a
    .exact VI h i x a
    simp at a
    subst a
    simp
   exact VI h i x a
end
structure Cp where
 neg:Bool
 Y:Nat
 H:Al
 y:List Jt
def CO:Bi->AY->Nat->List Cp
 |[],_,_=>[]
 |p::ps,vs,n=>⟨p.neg,n,DW p,Dr vs p.s p.s.length⟩::(if p.neg=true then CO ps vs n else CO ps (Dw vs p.s n p.s.length) (n+1))
def JQ:Bi->AY->Nat->Prop
 |[],_,_=>True
 |p::ps,vs,n=>Ej p=true/\(∀i t,p.s[i]?=some t->t.w=3->t.F≠⟨#[]⟩->Cv vs t.F≠none∨Aq p.s i t.F≠none)/\(if p.neg=true then JQ ps vs n else JQ ps (Dw vs p.s n p.s.length) (n+1))
def lets(c:Cp)(T:Ab)(f:F):Bool:=Ah c.H f&&c.y.all (AA T f)
def EY:List Cp->Ab->Ab->Am
 |[],_,T=>[T]
 |c::cs,fs,T=>if c.neg=true then(if fs.any (lets c T)=true then [] else EY cs fs T) else(fs.filter (lets c T)).flatMap (λf=>EY cs fs (T++[f]))
def nJ(fs):∀(a:Bi)(m:Nat),(BC a fs [] m).1=[]:=by intro a;induction a<;>grind[BC,Eo]
theorem mi(fs):∀(a:Bi)(xs:Cr)(m m':Nat),(BC a fs xs m).1=(BC a fs xs m').1:=by intro a;induction a<;>grind[BC,Eo]
def zlS(fs):∀(a:Bi)(xs ys:Cr)(m:Nat),(BC a fs (xs++ys) m).1=(BC a fs xs m).1++(BC a fs ys m).1:=by intro a;induction a<;>grind[Eo,BC,I7,mi]
def o5(fs a m):∀xs:Cr,(BC a fs xs m).1=xs.flatMap (λx=>(BC a fs [x] 0).1)
 |[]=>by rw[nJ];rfl
 |x::r=>by
  rw[show x::r=[x]++r from rfl,zlS,o5 fs a m r,mi fs a [x] m 0]
  simp
def sE{ts}(a:∀t∈ts,DC t=true):∀i,i<=ts.length->Aq ts i ⟨#[]⟩=none
 |0,_=>rfl
 |i+1,hi=>by
  obtain⟨t,b⟩:∃t,ts[i]?=some t:=⟨ts[i],qf⟩
  rw[Oz b,sE a i qd]
  refine if_neg (λe=>?_)
  obtain⟨k2,O⟩:=JY.1 e
  have:=a t (yd b)
  unfold DC at this
  rw[if_neg JL,if_neg JL,if_pos JL]at this
  simp only[ym]at this
  exact lW this.2.1 O
def zrr{p}(h:Ej p=true):∀t∈p.s,DC t=true:=by grind[DS,Ej,DC]
def lE{p T vs}(d:Ej p=true)(l:Cv vs ⟨#[]⟩=none)(k:∀i t,p.s[i]?=some t->t.w=3->t.F≠⟨#[]⟩->Cv vs t.F≠none∨Aq p.s i t.F≠none)(g:∀x∈vs,x.aw<T.length)(c)(O:c.H=DW p)(e:c.y=Dr vs p.s p.s.length) :
  ∀fs:Ab,DB p ⟨T.map (·.tag),Bc T vs⟩ fs=(fs.filter (lets c T)).map (λf=>⟨(T++[f]).map (·.tag),Bc (T++[f]) (Dw vs p.s T.length p.s.length)⟩)
 |[]=>rfl
 |f::r=>by
  have ih:=lE d l k g c O e r
  have j:=zsn (T:=T) (f:=f) d l k
  have hl:lets c T f=(Ah (DW p) f&&(Dr vs p.s p.s.length).all (AA T f)):=by unfold lets;rw[O,e]
  rw[<-hl]at j
  simp only[DB]
  rw[ih,j]
  by_cases h:lets c T f=true
  .have a:p.s.length=f.v.length:=by
    rw[hl,ym]at h;have b:=h.1;rw[show DW p=⟨p.E,(p.s.length:Int),Cy p.s p.s.length⟩ from if_pos d]at b;unfold Ah at b;simp only[ym,decide_eq_true_eq]at b;omega
   rw[if_pos h,yQ h,yx,oN a g p.s.length Bg];simp
  rw[if_neg h,yT h];rfl
def pM:∀(a:Bi)(vs:AY)(n:Nat),(CO a vs n).length=a.length:=by intro a;induction a<;>grind[CO,Dw]
def zmA(s l x):Co s (l++[x])=(Co s l||decide (x=s)):=by simp[Co]
def zty{t}:El t=true↔t.w=3/\t.F≠⟨#[]⟩:=by grind[DA,El,Pr]
def jk(vs:AY)(ts:A3)(i:Nat)(here:AG):Prop:=∀name,Co name here=true↔(Cv vs name≠none∨Aq ts i name≠none)
def rI{vs ts}:∀(d i:Nat)(b h:AG),i+d=ts.length->jk vs ts i b->Dd (ts.drop i) b=some h ->
  (∀j t,i<=j->ts[j]?=some t->t.w=3->t.F≠⟨#[]⟩->Cv vs t.F≠none∨Aq ts j t.F≠none)/\jk vs ts ts.length h
 |0,i,b,h,hi,hk,f=>by
  have:i=ts.length:=qd
  subst this
  rw[yH Bg]at f
  simp only[Dd]at f
  injection f with f
  subst f
  exact⟨λj t hj g=>by have:=(yf.1 g).1;omega,hk⟩
 |d+1,i,b,h,hi,hk,f=>by
  obtain⟨t,g⟩:∃t,ts[i]?=some t:=⟨ts[i],qf⟩
  rw[Dx g]at f
  simp only[Dd]at f
  split at f
  .cases f
  rename_i O
  have n:jk vs ts (i+1) (if t.w==2 then b++[t.F] else b):=by
   intro name;rw[Oz g];by_cases h2:t.w=2
   .rw[if_pos qw,zmA,iY,hk name];cases p:Aq ts i name with
    |some j=>simp
    |none=>
     by_cases hv:t.F=name
     .rw[if_pos (JY.2 ⟨h2,hv⟩)];simp[hv]
     rw[if_neg (λe=>hv (JY.1 e).2)];simp[hv]
   rw[if_neg qw,hk name,if_neg (λe=>h2 (JY.1 e).1)];cases Aq ts i name<;>simp
  obtain⟨r1,r2⟩:=rI d (i+1) _ h qd n f;refine⟨λj u hj hu k hv=>?_,r2⟩;by_cases af:j=i
  .subst af;rw[g]at hu;injection hu with hu;subst hu;have m:=zty.2 ⟨k,hv⟩;rw[m]at O;simp at O;exact(hk t.F).1 O
  exact r1 j u qd hu k hv
def gu:∀(f:Bi)(vs:AY)(n:Nat)(b out:AG)(k:Nat),(∀p∈f,Ej p=true)->(∀name,Co name b=true↔Cv vs name≠none)->Fw f b k=.inr out->JQ f vs n
 |[],_,_,_,_,_,_,_,_=>trivial
 |p::f,vs,n,b,out,k,hg,hk,h=>by
  simp only[Fw]at h
  cases ht:Dd p.s b with
  |none=>rw[ht]at h;cases h
  |some e=>
   rw[ht]at h
   simp only at h
   obtain⟨r1,r2⟩:=rI (vs:=vs) (ts:=p.s) p.s.length 0 b e qd (λname=>by rw[hk name];simp[Aq,Iq]) OK
   refine⟨hg p Wm,λi t hi r hv=>r1 i t (yn _) hi r hv,?_⟩
   split
   .rename_i d
    rw[if_pos d]at h
    exact gu f vs n b out (k+1) (λq g=>hg q (YP _ g)) hk h
   rename_i d
   rw[if_neg d]at h
   refine gu f _ (n+1) e out (k+1) (λq g=>hg q (YP _ g)) (λname=>?_) h
   rw[r2 name,Ne,Ne,Ne,Tw name _ Bg]
   by_cases m:Cv vs name=none<;>simp[m]
def zmV:∀(rs pre:Az)(k:Nat),(Gj pre rs k).1=0->∀r∈rs,Bp r=none:=by intro rs;induction rs<;>grind[AO,Ag,Gj,Bp,CC,CU]
def Vz{rs}(h:(Cf rs).1=0){r}(d:r∈rs):JQ r.x [] 0:=by
 obtain⟨e,_⟩:=(Tc h).2 r d;have b:Bp r=none:=by
  unfold Cf at h;split at h
  .exact zmV rs [] 0 h r d
  simp at h
 unfold Bp at b;cases c:Fw r.x [] 1 with
 |inl i=>rw[c]at b;cases b
 |inr a=>exact gu r.x [] 0 [] a 1 (p9 e).2 (λname=>by simp[Co,Cv]) c
def oK{s v}:∀{vs:AY},Cv vs s=some v->v∈vs
 |[],h=>by simp[Cv]at h
 |x::r,h=>by
  rw[gQ]at h
  by_cases a:x.name=s
  .rw[if_pos a]at h
   injection h with h
   subst h
   exact Wm
  rw[if_neg a]at h
  exact YP _ (oK h)
def ke{vs ts}:∀k,∀t∈Dr vs ts k,t.aj<k/\∃v∈vs,t.aw=v.aw/\t.Y=v.aj
 |0,t,a=>by simp[Dr]at a
 |k+1,t,a=>by
  simp only[Dr,yp]at a
  rcases a with a|a
  .obtain⟨e,d⟩:=ke k t a
   exact⟨qd,d⟩
  cases c:ts[k]? with
  |none=>rw[c]at a;simp at a
  |some u=>
   rw[c]at a
   simp only[Dj]at a
   cases hl:Cv vs u.F with
   |none=>rw[hl]at a;simp at a
   |some v=>
    rw[hl]at a
    simp only at a
    have hv:v∈vs:=oK hl
    cases b:Aq ts k u.F with
    |some j=>rw[b]at a;simp at a
    |none=>
     rw[b]at a
     simp at a
     subst a
     exact⟨qf,v,hv,rfl,rfl⟩
def rr{p f}(a:Ej p=true)(h:Ah (DW p) f=true):f.v.length=p.s.length:=by
 rw[show DW p=⟨p.E,(p.s.length:Int),Cy p.s p.s.length⟩ from if_pos a]at h;unfold Ah at h;simp only[ym,decide_eq_true_eq]at h;omega
def QH(U:Ab)(vs:AY):Prop:=∀v∈vs,∃g,U[v.aw]?=some g/\v.aj<g.v.length
def Zp{U vs ts n g}(h:QH U vs)(a:U[n]?=some g)(hl:g.v.length=ts.length):∀i,i<=ts.length->QH U (Dw vs ts n i)
 |0,_=>h
 |i+1,hi=>by
  intro v hv
  obtain⟨t,b⟩:∃t,ts[i]?=some t:=⟨ts[i],qf⟩
  rw[VX b]at hv
  split at hv
  .rcases yp.1 hv with hv|hv
   .exact Zp h a hl i qd v hv
   simp at hv
   subst hv
   exact⟨g,a,by simp only;omega⟩
  exact Zp h a hl i qd v hv
def zr2{U vs p f}(h:QH U vs)(j:Ej p=true)(b:Ah (DW p) f=true):∀t∈Dr vs p.s p.s.length,t.ah U f:=by
 intro t e;obtain⟨d,v,hv,a,i⟩:=ke _ t e;obtain⟨g,O,c⟩:=h v hv;exact⟨by rw[rr j b];exact d,g,by rw[a];exact O,by rw[i];exact c⟩
def wu{last f}(h:Jl last f=true):last<f.tag:=by
 unfold Jl at h;simp only[ym,decide_eq_true_eq]at h;omega
def nD:∀{fs:Ab}{last:Int},CL last fs=true->∀f∈fs,last<f.tag
 |[],_,_,f,a=>by simp at a
 |g::r,last,h,f,a=>by
  simp only[CL,ym]at h
  have b:=wu h.1
  rcases yW.1 a with rfl|a
  .exact b
  have:=nD h.2 f a
  omega
def Ln(fs:Ab)(c:Cn)(d:Cp):Prop:=c.neg=d.neg/\c.Y=d.Y/\c.y=d.y/\c.H=d.H/\c.J=fs.filter (Ah d.H)
def zmx{α:Type}{p q}:∀l:List α,(l.filter p).any q=l.any (λx=>p x&&q x):=qf
section
open Go.Maps
def Bb(tag:Int):Ab->AD
 |[]=>none
 |f::r=>if f.tag=tag then some 0 else(Bb tag r).map (·+1)
def Do(f:F):Prop:=(Lit.int .i64 f.tag).wf=true/\∀v∈f.v,ER v
def iO{P:Program}{t k e:TypeId}(a:P.underlying t=some (.map k e))(n:Int)(w:Aa):(Instr.makeMap t (some (I6 n))).run P w=.ok (.map (some w.heap.size)) (w.alloc (.map #[] 0)):=by
 simp[Instr.makeMap,run_underlying a,asInt,asIntOf]
def zrk(tag:Int)(f:F):∀(l:Ab),Bb tag (l++[f])=match Bb tag l with|some i=>some i|none=>if f.tag=tag then some l.length else none:=by intro l;induction l<;>grind[Bb]
def gn{f:F}:∀{fs:Ab}{last:Int}{k:Nat},CL last fs=true->fs[k]?=some f->Bb f.tag (fs.take k)=none
 |[],_,_,_,h=>by simp at h
 |_::_,_,0,_,_=>rfl
 |g::r,last,k+1,hg,h=>by
  have O:CL g.tag r=true:=by simp only[CL,ym]at hg;exact hg.2
  have a:r[k]?=some f:=qu
  have:=nD O f (yd a)
  rw[We,Bb,if_neg qd,gn O a]
  rfl
structure FK(fs:Ab) (k:Nat) (D:DataW Unit):Prop where
 dA:∀tag,Bb tag (fs.take k)=none->Maps.has D (.int .i64 tag)=false
 de:∀tag i,Bb tag (fs.take k)=some i->Maps.has D (.int .i64 tag)=true/\∀z,D.atKey (.int .i64 tag) z=.lit (.int .i64 i)
def FK.start(fs:Ab):FK fs 0 (.map []):=⟨λ_ _=>rfl,λtag i h=>by simp[Bb]at h⟩
def FK.step{fs:Ab}{k:Nat}{D:DataW Unit}{f:F}(h:FK fs k D)(g:IsMap D)(m:CL 0 fs=true)(d:fs[k]?=some f):FK fs (k+1) (D.put (.int .i64 f.tag) (.lit (.int .i64 k))):=by
 have o:k<fs.length:=(yf.1 d).1;have j:=gn m d;have hl:(fs.take k).length=k:=by simp;omega
 have key:∀tag,Bb tag (fs.take (k+1))=if f.tag=tag then some k else Bb tag (fs.take k):=by
  intro tag;rw[OA fs k f d,zrk,hl];by_cases a:f.tag=tag
  .subst a;rw[j]
  rw[if_neg a,if_neg a];cases Bb tag (fs.take k)<;>rfl
 constructor
 .intro tag b;rw[key]at b;by_cases a:f.tag=tag
  .rw[if_pos a]at b;cases b
  rw[if_neg a]at b;rw[has_put_other (λe=>a (by cases e;rfl))];exact h.dA tag b
 intro tag i b;rw[key]at b;by_cases a:f.tag=tag
 .rw[if_pos a]at b;cases b;subst a;have O:WideAt.IsKeyLit (.int .i64 f.tag):=trivial;exact⟨has_put_same g O _,λz=>atKey_put_same g O _ z⟩
 rw[if_neg a]at b;obtain⟨l,n⟩:=h.de tag i b;have c:Lit.int .i64 tag≠Lit.int .i64 f.tag:=λe=>a (by cases e;rfl);exact⟨by rw[has_put_other c];exact l,λz=>by rw[atKey_put_other c];exact n z⟩
def zA{k:Nat}(h:k<=1048576):(Lit.int .i64 (k:Int)).wf=true:=by
 exact uT
def IC:Keyed prog 3:=int_keyed underlying3
def VF(a:Af)(c:Nat)(fs:Ab)(nx cp:Int)(sg:Bool)(w:Aa)(hv:Cs w a fs)(hl:fs.length<=1048576)(l:CL 0 fs=true)(p:∀f∈fs,Do f) :
  Ca 96 #[.agg #[.slice a fs.length c,.int .i64 nx,.int .i64 cp,.bool sg]] w λe w'=>
   ∃b D,e=.returned (.map (some b))/\w'.ownsMap prog 3 (plainElem prog 3) b fs.length D/\FK fs fs.length D/\Bw w w':=by
 have A:=iO (P:=prog) (t:=172) underlying172;go_enter func96,ntmps96;go_wp2
 go_loopw [13] (λi wr=>∃(k:Nat)(D:DataW Unit),k<=fs.length/\i=.int .i64 k/\wr.ownsMap prog 3 (plainElem prog 3) (w.heap.size+1) k D/\FK fs k D/\Bw w wr) (mz fs.length)
 .exact⟨0,.map [],qd,rfl,by have:=Wl (H:=Unit) (w.alloc (.cells #[.slice a fs.length c,.int .i64 nx,.int .i64 cp,.bool sg] 27)) prog 3 (plainElem prog 3);simpa using this,FK.start fs,Ar.alloc qf _⟩
 obtain⟨k,D,r,rfl,hown,d,hb⟩:=hrel;by_cases g:k<fs.length
 .obtain⟨f,O⟩:=Bq g;obtain⟨b,o,rfl,q,z,s,cs,x,m⟩:=hv.e hb k f O;have n:=(p f (yd O)).1;have am:=d.step hown.isMap l O;obtain⟨y,u,ai,ah⟩:=(hown.alloc (.cells #[.int .i64 f.tag,.string f.E,.slice s f.v.length cs] 145)).update IC (t:=172) underlying172 qj (keyOf_int_mk underlying3 n) (plainElem_int underlying3 (zA (k:=k) qd));exact uI
 go_wp2;go_ret;obtain rfl:k=fs.length:=qd;exact⟨_,D,rfl,hown,d,hb⟩
def Og(w:Aa):(zeroValue 3).run prog w=.ok (I6 0) w:=qg
def Up:AD->Int
 |some i=>i
 |none=>0
def Vk{fs:Ab}{w:Aa}{b:Nat}{D:DataW Unit}(h:w.ownsMap prog 3 (plainElem prog 3) b fs.length D)(f:FK fs fs.length D){tag:Int}(k:(Lit.int .i64 tag).wf=true) :
  (Instr.lookup 172 (.map (some b)) (.int .i64 tag) true).run prog w=.ok (.tuple #[.int .i64 (Up (Bb tag fs)),.bool (Bb tag fs).isSome]) w:=by
 obtain⟨v,l,O,hv⟩:=h.look_ok IC (t:=172) underlying172 (Og w) (plainElem_int underlying3 qi) (keyOf_int_mk underlying3 k);obtain⟨c,rfl,a,_⟩:=plainElem_int_inv underlying3 hv;simp only[YF]at a;have g:fs.take fs.length=fs:=yR Bg;rw[O];cases j:Bb tag fs with
 |none=>
  have d:=f.dA tag (by rw[g];exact j);have e:=atKey_of_not_has d (.lit (.int .i64 0));rw[e]at a;rw[d];have:=a.1;cases this;rfl
 |some i=>
  obtain⟨d,e⟩:=f.de tag i (by rw[g];exact j);rw[e]at a;rw[d];have:=a.1;cases this;rfl
end
theorem Bf{w:Aa}{b t}{L:Aj}{j v}(h:Bk w b (L.toArray) t)(hj:L[j]?=some v):At w b j v:=by
 simp[World.cell?,h];simpa using hj
def tys:XI prog 111 106 145:=⟨qg,qg,λ_=>qg,⟨3,qi,λ_=>qg⟩⟩
def Lu:prog.underlying 261=some (.map 111 3):=qg
def Gc:prog.underlying 260=some (.map 111 308):=qg
def AC(x:Kt)(M:B_):Int:=((M.find? (λy=>decide (y.1=x))).map Prod.snd).getD 0
def iv(M:B_):Cc:=M.map (λy=>(y.1,.int .i64 y.2))
def Ph(x):∀M:B_,(CW x (iv M)).getD (I6 0)=I6 (AC x M)
 |[]=>rfl
 |y::r=>by
  have O:=Ph x r
  unfold CW AC iv at *
  by_cases h:y.1=x
  .simp[h]
  simpa[h] using O
def U3(x v L):CW x (Cz x v L)=some v:=by
 unfold Cz;split
 .rename_i h;unfold CW at h⊢
  induction L with
  |nil=>simp at h
  |cons y r ih=>
   by_cases hy:y.1=x
   .simp[hy]
   simp only[yx,if_neg hy];rw[Wf T0];rw[Wf T0]at h;exact ih h
 rename_i h;have O:CW x L=none:=qu;unfold CW at O⊢;rw[List.find?_append,Option.map_eq_none_iff.1 O];simp
def ws(x u v L):Cz x u (Cz x v L)=Cz x u L:=by
 have h:(CW x (Cz x v L)).isSome=true:=by rw[U3];rfl
 have e:Cz x u (Cz x v L)=(Cz x v L).map (λy=>if y.1=x then(x,u) else y):=if_pos h;rw[e];unfold Cz;split
 .rw[Yl];refine Ym λy _=>?_;simp only[Function.comp];split
  .simp
  rfl
 rename_i b;rw[yz];congr 1
 .have:L.map (λy=>if y.1=x then(x,u) else y)=L.map id:=Ym λy a=>by
   rw[if_neg (λe=>b (PH.2 (yv.2 ⟨y,a,e⟩)))];rfl
  rw[this,KE]
 simp
def Fa(x:Kt)(v:Int)(M:B_):B_:=if x∈M.map Prod.fst then M.map (λy=>if y.1=x then(x,v) else y) else M++[(x,v)]
def Gd(x:Kt)(M:B_):B_:=M.filter (λy=>decide (y.1≠x))
def Gr(x:Kt)(s:Int)(M:B_):B_:=if AC x M+s=0 then Gd x M else Fa x (AC x M+s) M
def U6(M):(iv M).map Prod.fst=M.map Prod.fst:=by
 unfold iv;rw[Yl];rfl
def Rj(x v M):Cz x (I6 v) (iv M)=iv (Fa x v M):=by
 unfold Cz Fa;by_cases h:x∈M.map Prod.fst
 .rw[if_pos h,if_pos (PH.2 (by rw[U6];exact h))];unfold iv;rw[Yl,Yl];refine Ym λy _=>?_;simp only[Function.comp];split<;>rfl
 rw[if_neg h,if_neg (λO=>h (by rw[<-U6];exact PH.1 O))];unfold iv;rw[yz];rfl
def kX(x M):Ez x (iv M)=iv (Gd x M):=by
 unfold Ez Gd iv;rw[YV];rfl
def zB(x v M):Gd x (Fa x v M)=Gd x M:=by
 unfold Fa Gd;split
 .rw[YV];have:M.filter ((λy=>decide (y.1≠x))∘λy=>if y.1=x then(x,v) else y)=M.filter (λy=>decide (y.1≠x)):=YS λy _=>by
   simp only[Function.comp];split
   .rename_i h;simp[h]
   rfl
  rw[this];have b:(M.filter (λy=>decide (y.1≠x))).map (λy=>if y.1=x then(x,v) else y)=(M.filter (λy=>decide (y.1≠x))).map id:=Ym λy a=>by
   rw[if_neg (by simpa using(yh.1 a).2)];rfl
  rw[b,KE]
 rw[yV];simp
def Ao.put{w b L c}(h:Ao w b L){es a}(j:FY es.toList c)(O:(es.toList.map (·.born)).Nodup)(g:∀e∈es.toList,e.born<a)(i:(c.map Prod.fst).Nodup)(d:∀y∈c,A_ w y.1):Ao { w with heap:=w.heap.setIfInBounds b (.map es a) } b c:=by
 refine⟨⟨es,a,?_,j,O,g⟩,i,λy f=>(d y f).aA (BU.put _) h.nc⟩;exact Xh
def mg(cb nb wb M x s w)(hc:Bk w cb #[.map (some nb),.map (some wb)] 263)(hM:Ao w wb (iv M))(hx:A_ w x)(hs:-1<=s/\s<=1)(hk:-9<=AC x M/\AC x M<=9) :
  Ca 254 #[Pn cb,Bh x,I6 s] w λe w'=>e=.returned (.tuple #[])/\Ao w' wb (iv (Gr x s M))/\BU (some wb) w w':=by
 obtain⟨HM,HX⟩:=An hM hx;have E:cb<w.heap.size:=Ap hc;have HC:=Ad hc;obtain⟨x0,x1,n⟩:=x;clear hM hx hc;go_enter func254,ntmps254;unfold Bh;go_upto_region 1 with fail;refine BF ?_;intro g Z af;have hd:Bw w g.drew:=Z.drew;have W:At g cb 1 (.map (some wb)):=zab Z (Bf (L:=[_,_]) HC (j:=1) rfl);have t0:=Bf (L:=[_,_,_]) af (j:=0) rfl;have t1:=Bf (L:=[_,_,_]) af (j:=1) rfl;have t2:=Bf (L:=[_,_,_]) af (j:=2) rfl;have m:=HM.e hd;have t:=HX.e hd;have J:=PE tys Lu (Og g.drew) m t false;rw[Ph]at J;simp only[if_false,Yx]at J;obtain⟨es,b,i,e,H,G,N,ax,hi,aB⟩:=zz tys Lu (Og g.drew) m t;rw[Ph]at H G;have B:=m.put G N ax (gI m.nd) (λy hy=>by
  rcases Zf hy with O|hy
  .rw[O];exact t
  exact m.ok y hy)
 have aE:(0:Int)<=0:=Wh 0;obtain⟨k,Y⟩:=AF (AC (x0,x1,n) M);rw[<-Y]at hk J H G B;have aA:cb≠wb:=λO=>HM.nc _ _ (by rw[<-O];exact HC);have az:w.heap.size≠wb:=λO=>by have:=HM.lt;omega
 obtain⟨f,U⟩:=AF ({ g.drew with heap:=g.drew.heap.setIfInBounds wb (.map es b) });have r:BU (some wb) g.drew f:=by rw[U];exact BU.put _
 have B1:f.heap[wb]?=some (.map es b):=by
  rw[U];show(g.drew.heap.setIfInBounds wb _)[wb]?=_;rw[Y8 m.lt]
 rw[<-U]at H B;have L1:=PE tys Lu (Og f) B (t.aA r m.nc) false;rw[U3]at L1;simp only[if_false,Yx,YE]at L1;obtain⟨aD,hS,aq,aw⟩:=zv (P:=prog) (mt:=261) B1 G B.nd N hi aB (I6 (k+s));obtain⟨p,I⟩:=AF ({ f with heap:=f.heap.setIfInBounds wb (.map aD b) });have T:BU (some wb) f p:=by rw[I];exact BU.put _
 rw[<-I]at hS;have ao:FY aD.toList (iv (Fa (x0,x1,n) (k+s) M)):=by rw[<-Rj,<-ws (x0,x1,n) _ (I6 k)];exact aq
 have ar:Hid (Ao p wb (iv (Fa (x0,x1,n) (k+s) M))):=show Ao _ _ _ from by
  rw[I];refine B.put ao (by rw[aw];exact N) (λO aG=>?_) (by rw[<-Rj];exact gI m.nd) (λy hy=>?_)
  .have:O.born∈es.toList.map (·.born):=by rw[<-aw];exact yS aG
   obtain⟨aF,h1,h2⟩:=yv.1 this;rw[<-h2];exact ax aF h1
  rw[<-Rj]at hy;rcases Zf hy with q|q
  .rw[q];exact t.aA r m.nc
  exact(m.ok y q).aA r m.nc
 obtain⟨aC,HO⟩:=An ((t.aA r m.nc).aA T B.nc) (((BU.u hd:BU (some wb) w g.drew).c r).c T);have C:At f cb 1 (.map (some wb))/\At f w.heap.size 0 (.pointer x0)/\At f w.heap.size 1 (.pointer x1)/\At f w.heap.size 2 (.pointer n):=by
  have e1:=r.block cb (yg E hd.size) (λO=>aA Xv);have A:=r.block w.heap.size (Ap af) (λO=>az Xv);exact⟨(yP (w:=g.drew) e1).c W,(yP (w:=g.drew) A).c t0,(yP (w:=g.drew) A).c t1,(yP (w:=g.drew) A).c t2⟩
 have D:At p cb 1 (.map (some wb))/\At p w.heap.size 0 (.pointer x0)/\At p w.heap.size 1 (.pointer x1)/\At p w.heap.size 2 (.pointer n):=by
  have e1:=T.block cb (yg E (yi hd.size r.rest.size)) (λO=>aA Xv);have A:=T.block w.heap.size (yg (Ap af) r.rest.size) (λO=>az Xv);exact⟨(yP (w:=f) e1).c C.1,(yP (w:=f) A).c C.2.1,(yP (w:=f) A).c C.2.2.1,(yP (w:=f) A).c C.2.2.2⟩
 have aI:IntKind.i64.wrap (k+s)=k+s:=by
  rw[Yh];omega
 simp only[Bh]at J L1 H;simp only[goInt]at H hS;have HK:=Ad Y;clear U I aE Y B m t G aq ao N ax hi aB aw r B1 af Z hd;refine wp_region_noPanic ?_;refine wp_region_held_drew (S:=(λu=>At u cb 1 (.map (some wb))/\At u w.heap.size 0 (.pointer x0)/\At u w.heap.size 1 (.pointer x1)/\At u w.heap.size 2 (.pointer n))) qg ?_ (λhHeld=>?_)
 .exact⟨W,t0,t1,t2⟩
 refine sr 0 5 ?_;refine sr 6 7 ?_;refine r2 5 8 (λK d=>?_) λK d=>?_
 focus
  go_simp;refine d _ _ (by exact⟨W,t0,t1,t2⟩) λhQ=>?_;replace hHeld:=hQ;clear d K hQ;(try simp only[pQ]);refine sr 7 8 ?_;refine r1 8 λK d=>?_;go_simp;refine d _ _ (by exact C) λhQ=>?_;replace hHeld:=hQ;clear d K hQ;(try simp only[pQ]);refine sr 9 10 ?_;refine r1 10 λK d=>?_;go_simp;refine d _ _ (by exact D) λhQ=>?_;replace hHeld:=hQ;clear d K hQ;(try simp only[pQ]);refine wpAnyH_done qg ?_ _;refine Yb ?_
 rotate_left
 focus
  go_simp;refine d _ _ (by exact C) λhQ=>?_;replace hHeld:=hQ;(try simp only[pQ]);refine sr 9 10 ?_;refine r1 5 λK d=>?_;go_simp;refine d _ _ (by exact C) λhQ=>?_;replace hHeld:=hQ;(try simp only[pQ]);refine sr 7 8 ?_;refine r1 10 λK d=>?_;go_simp;refine d _ _ (by exact D) λhQ=>?_;replace hHeld:=hQ;(try simp only[pQ]);refine wpAnyH_done qg ?_ _;refine Yb ?_
 all_goals
  have q2:=D.1;have u0:=D.2.1;have u1:=D.2.2.1;have u2:=D.2.2.2;have R:Bw p p.drew:=Au.drew;have ah:Bw p p.drew.drew:=Au.drew.drew;have L2:=PE tys Lu (Og p.drew) (ar.e R) (aC.e R) false;rw[<-Rj,U3]at L2;simp only[if_false,Yx,YE,Bh]at L2;by_cases hz:k+s=0
  .obtain⟨W3,hD,M3,O3⟩:=U8 tys (ty:=0) (t2:=111) Lu (ar.e ah) (aC.e ah);simp only[Bh]at hD;have aH:(k+s==0)=true:=qX;go_wp2;go_region;go_wp2;go_region;go_wp2_with fail;refine bodyPost_end (v:=.tuple #[]) (by simp[results,results254,go_sem]) rfl ⟨rfl,?_,HO.c ((BU.u ah).c O3)⟩;have e:Gr (x0,x1,n) s M=Gd (x0,x1,n) (Fa (x0,x1,n) (k+s) M):=by
    rw[zB];unfold Gr;rw[<-HK.o,if_pos hz]
   rw[e,<-kX];exact M3
  have aH:(k+s==0)=false:=qX;go_wp2;go_region;go_wp2_with fail;refine bodyPost_end (v:=.tuple #[]) (by simp[results,results254,go_sem]) rfl ⟨rfl,?_,HO.c (BU.u R)⟩;have e:Gr (x0,x1,n) s M=Fa (x0,x1,n) (k+s) M:=by
   unfold Gr;rw[<-HK.o,if_neg hz]
  rw[e];exact ar.e R
structure AM(S:Nat->Prop) (w w':Aa):Prop where
 rest:Below 0 w w'
 block:∀g,g<w.heap.size->¬S g->w'.heap[g]?=w.heap[g]?
def AM.refl(S w):AM S w w:=⟨Au,λ_ _ _=>rfl⟩
def AM.c{S u v w}(h:AM S u v)(k:AM S v w):AM S u w:=
 ⟨h.rest.c k.rest,λg b a=>(k.block g (yg b h.rest.size) a).c (h.block g b a)⟩
def AM.j{S R w w'}(h:AM S w w')(a:∀g,S g->R g):AM R w w':=⟨h.rest,λg c b=>h.block g c λq=>b (a g q)⟩
def AM.u{S w w'}(h:Bw w w'):AM S w w':=⟨h.j (yn _),λg a _=>h.block g a⟩
def AM.of{S b w w'}(h:BU (some b) w w')(a:S b):AM S w w':=⟨h.rest,λg d c=>h.block g d λe=>c (by injection e with e;rw[<-e];exact a)⟩
def uv(T:Av):Cc:=T.map (λx=>(x,.agg #[]))
def S1(T):(uv T).map Prod.fst=T:=by
 unfold uv;rw[Yl];exact(Ym λ_ _=>rfl).c (KE T)
def lA{x T}(h:x ∉ T):Cz x (.agg #[]) (uv T)=uv (T++[x]):=by simp_all[CW,Cz,uv,Kt]
def X2(x T):Ez x (uv T)=uv (T.filter (λy=>decide (y≠x))):=by
 unfold Ez uv;rw[YV];rfl
structure CS(w:Aa) (cb nb wb:Nat) (T:Av) (M:B_):Prop where
 q:Bk w cb #[.map (some nb),.map (some wb)] 263
 now:Ao w nb (uv T)
 ak:Ao w wb (iv M)
 ne:nb≠wb
theorem CS.e{w w' cb nb wb T M}(h:CS w cb nb wb T M)(a:Bw w w'):CS w' cb nb wb T M:=
 ⟨(a.block cb (Ap h.q)).c h.q,h.now.e a,h.ak.e a,h.ne⟩
def CS.cn{w cb nb wb T M}(h:CS w cb nb wb T M):cb≠nb:=λe=>h.now.nc _ _ (by rw[<-e];exact h.q)
def CS.cw{w cb nb wb T M}(h:CS w cb nb wb T M):cb≠wb:=λe=>h.ak.nc _ _ (by rw[<-e];exact h.q)
def Ea{w w':Aa}{b x0 x1 a t}(h:Bk w b #[x0,x1,a] t)(c:w'.heap[b]?=w.heap[b]?):At w' b 0 x0/\At w' b 1 x1/\At w' b 2 a:=by grind[Bf]
def lz(cb nb wb T M x w)(h:CS w cb nb wb T M)(s:A_ w x)(E:x ∉ T)(A:-9<=AC x M/\AC x M<=9) :
  Ca 210 #[Pn cb,Bh x] w λe w'=>e=.returned (.tuple #[])/\CS w' cb nb wb (T++[x]) (Gr x 1 M)/\AM (λg=>g=nb∨g=wb) w w':=by
 obtain⟨p,B⟩:=An h s;have k:cb<w.heap.size:=Ap h.q;obtain⟨x0,x1,o⟩:=x;go_enter func210,ntmps210;unfold Bh;go_upto_region 1 with fail;refine BF ?_;intro d C f;have hd:Bw w d.drew:=C.drew;have a:=p.e hd;have H:At d cb 0 (.map (some nb)):=Bf (L:=[_,_]) a.q (j:=0) rfl;obtain⟨K,I,t2⟩:=Ea f rfl;have l:=B.e hd;obtain⟨m,r,n,b⟩:=Zh tys Gc a.now l (.agg #[]);rw[lA E]at n;simp only[Bh]at r;have v:w.heap.size≠nb:=λe'=>by have:=p.now.lt;omega
 have D:=b.block w.heap.size (Ap f) (λe'=>v qQ);obtain⟨u0,u1,u2⟩:=Ea (w:=d.drew) f D;have O:Hid (CS m cb nb wb (T++[(x0,x1,o)]) M):=⟨(b.block cb (yg k hd.size) (λe'=>a.cn qQ)).c a.q,n,a.ak.aA b a.ne a.now.nc,a.ne⟩
 obtain⟨G,y⟩:=An (l.aA b a.now.nc) ((AM.u hd:AM (λg=>g=nb∨g=wb) w d.drew).c (AM.of b (.inl rfl)));go_region;go_wp2_with fail;refine(mg cb nb wb M (x0,x1,o) 1 m O.q O.ak G qd A).rtn λJ⟨t,i⟩=>?_;go_wp2_with fail;refine bodyPost_end (results_none rfl _ _ _) rfl ⟨rfl,⟨?_,O.now.aA i O.ne.z O.ak.nc,t,O.ne⟩,y.c (AM.of i (.inr rfl))⟩;exact(i.block cb (Ap O.q) (λe'=>O.cw qQ)).c O.q
def vA(h:P:=by
 obtain⟨HS,HX⟩:=An h hx
 first
  |(have _:=tP)
  |(have HR:=Ad hR)
 have hcl:cb<w.heap.size:=Ap h.q;obtain⟨x0,x1,x2⟩:=x
 first
  | (have _:=tP
     clear h hx)
  |(clear h hx hR)
 go_enter func211,ntmps211;unfold Bh;go_upto_region 1 with fail;refine BF ?_;intro w1 ah af;have hd:Bw w w1.drew:=ah.drew;have C1:=HS.e hd;have q1:At w1 cb 0 (.map (some nb)):=Bf (L:=[_,_]) C1.q (j:=0) rfl;obtain⟨t0,t1,t2⟩:=Ea af rfl;have X1:=HX.e hd
 first
  | (have _:=tP
     obtain⟨W1,hU,M1,O1⟩:=U8 tys (ty:=0) (t2:=111) Gc C1.now X1)
  |(obtain⟨W1,hU,M1,O1,R1⟩:=zM tys (ty:=0) (t2:=111) Gc C1.now X1)
 rw[X2]at M1
 first
  |(have _:=tP)
  | (have R2:=Ad (R1 r todo (HR.e hd))
     rw[X2]at R2)
 simp only[Bh]at hU;have aj:w.heap.size≠nb:=λe'=>by have:=HS.now.lt;omega
 have eb:=O1.block w.heap.size (Ap af) (λe'=>aj (by injection e' with e';exact e'.z));obtain⟨u0,u1,u2⟩:=Ea (w:=w1.drew) af eb;have O:Hid (CS W1 cb nb wb (T.filter (λy=>decide (y≠(x0,x1,x2)))) M):=⟨(O1.block cb (yg hcl hd.size) (λe'=>C1.cn (by injection e' with e';exact e'.z))).c C1.q,M1,C1.ak.aA O1 C1.ne C1.now.nc,C1.ne⟩
 obtain⟨ai,HO⟩:=An (X1.aA O1 C1.now.nc) ((AM.u hd:AM (λg=>g=nb∨g=wb) w w1.drew).c (AM.of O1 (.inl rfl)))
 first
  | (have _:=tP
     clear C1 X1 M1 O1 eb hd ah af)
  |(clear C1 X1 M1 O1 eb hd ah af R1)
 go_region;go_wp2_with fail;refine(mg cb nb wb M (x0,x1,x2) (-1) W1 O.q O.ak ai (by omega) hk).rtn λw2⟨hm,ho⟩=>?_;go_wp2_with fail
 first
  | (have _:=tP
     refine bodyPost_end (results_none rfl _ _ _) rfl ⟨rfl,⟨?_,O.now.aA ho O.ne.z O.ak.nc,hm,O.ne⟩,HO.c (AM.of ho (.inr rfl))⟩)
  |(refine bodyPost_end (results_none rfl _ _ _) rfl ⟨rfl,⟨?_,O.now.aA ho O.ne.z O.ak.nc,hm,O.ne⟩,R2.aA ho (ho.W O.ak.aN) O.ne.z (WU hr),HO.c (AM.of ho (.inr rfl))⟩)
 exact(ho.block cb (Ap O.q) (λe'=>O.cw (by injection e' with e';exact e'.z))).c O.q
 ):=h
def zsD(cb nb wb T M x w)(h:CS w cb nb wb T M)(hx:A_ w x)(hk:-9<=AC x M/\AC x M<=9) :
  Ca 211 #[Pn cb,Bh x] w λe w'=>e=.returned (.tuple #[])/\CS w' cb nb wb (T.filter (λy=>decide (y≠x))) (Gr x (-1) M)/\AM (λg=>g=nb∨g=wb) w w':=by
 have tP:=trivial;exact vA
def Hm(x:Kt)(s:Int)(T:Av):Av:=if s=1 then T++[x] else T.filter (λy=>decide (y≠x))
def zo0(cb nb wb T M x s w)(h:CS w cb nb wb T M)(f:A_ w x)(k:s=1∨s = -1)(p:s=1->x ∉ T)(i:-9<=AC x M/\AC x M<=9) :
  Ca 155 #[Pn cb,Bh x,I6 s] w λe w'=>e=.returned (.tuple #[])/\CS w' cb nb wb (Hm x s T) (Gr x s M)/\AM (λg=>g=nb∨g=wb) w w':=by
 obtain⟨j,d,O⟩:=AK (λ(u:Aa)(hu:Bw w u)(m:x ∉ T)=>lz cb nb wb T M x u (h.e hu) (f.e hu) m i) (λ(u:Aa)(hu:Bw w u)=>zsD cb nb wb T M x u (h.e hu) (f.e hu) i) (λo=>Au.alloc Bg o:∀o,Bw w (w.alloc o));rcases k with rfl|rfl
 .have l:=p rfl;obtain⟨x0,x1,q⟩:=x;simp only[Bh]at j⊢;go_enter func155,ntmps155;go_wp2_with (first|(go_at_call 210;refine(j _ (O _) l).rtn λn⟨a,b⟩=>?_)|fail);refine bodyPost_end (results_none rfl _ _ _) rfl ⟨rfl,?_,(AM.u (O _)).c b⟩;rw[Hm,if_pos rfl];exact a
 obtain⟨x0,x1,q⟩:=x;simp only[Bh]at d⊢;go_enter func155,ntmps155;go_wp2_with (first|(go_at_call 211;refine(d _ (O _)).rtn λn⟨a,b⟩=>?_)|fail);refine bodyPost_end (results_none rfl _ _ _) rfl ⟨rfl,?_,(AM.u (O _)).c b⟩;rw[Hm,if_neg qi];exact a
def pO(cb nb wb T M w)(h:CS w cb nb wb T M) :
  Ca 94 #[Pn cb] w λe w'=>e=.returned (.tuple #[])/\CS w' cb nb wb T []/\AM (λg=>g=nb∨g=wb) w w':=by
 have O:=Ad h;have l:At w cb 1 (.map (some wb)):=Bf (L:=[_,_]) h.q (j:=1) rfl;obtain⟨a,i⟩:=zqL (P:=prog) (ty:=0) Lu h.ak;obtain⟨f,b⟩:=AF ({ w with heap:=w.heap.setIfInBounds wb (.map #[] a) });have d:BU (some wb) w f:=by rw[b];exact BU.put _
 have k:Hid (Ao f wb (iv [])):=⟨⟨#[],a,by rw[b];show(w.heap.setIfInBounds wb _)[wb]?=_;rw[Y8 h.ak.lt],rfl,qf,qf⟩,by simp[iv],by simp[iv]⟩
 rw[<-b]at i;clear b;go_enter func94,ntmps94;go_wp2_with fail;refine bodyPost_end (results_none rfl _ _ _) rfl ⟨rfl,⟨?_,O.now.aA d O.ne.z O.ak.nc,k,O.ne⟩,AM.of d (.inr rfl)⟩;exact(d.block cb (Ap O.q) (λe'=>O.cw qQ)).c O.q
def iB(f g a T x s w)(n:At w f (g+5) (.map (some a)))(h:Ao w a (uv T))(q:A_ w x)(r:s=1∨s = -1)(A:s=1->x ∉ T) :
  Ca 322 #[.pointer (some ⟨f,g,none⟩),Bh x,I6 s] w λe w'=>e=.returned (.tuple #[])/\Ao w' a (uv (Hm x s T))/\BU (some a) w w':=by
 obtain⟨p,o⟩:=An h q;obtain⟨x0,x1,C⟩:=x;rcases r with rfl|rfl
 .have B:=A rfl;go_enter func322,ntmps322;unfold Bh;go_upto_region 1 with fail;refine BF ?_;intro b O k;have hd:Bw w b.drew:=O.drew;have t:At b f (g+5) (.map (some a)):=zab O n;obtain⟨v,y,t2⟩:=Ea k rfl;obtain⟨z,i,d,l⟩:=Zh tys Gc (p.e hd) (o.e hd) (.agg #[]);rw[lA B]at d;simp only[Bh]at i;obtain⟨m,j⟩:=An ((BU.u hd:BU (some a) w b.drew).c l) d;go_wp2;go_region;go_wp2_with fail;refine bodyPost_end (results_none rfl _ _ _) rfl ⟨rfl,?_,m⟩;rw[Hm,if_pos rfl];exact j
 go_enter func322,ntmps322;unfold Bh;go_upto_region 1 with fail;refine BF ?_;intro b O k;have hd:Bw w b.drew:=O.drew;have t:At b f (g+5) (.map (some a)):=zab O n;obtain⟨v,y,t2⟩:=Ea k rfl;obtain⟨z,i,d,l⟩:=U8 tys (ty:=0) (t2:=111) Gc (p.e hd) (o.e hd);rw[X2]at d;simp only[Bh]at i;obtain⟨m,j⟩:=An ((BU.u hd:BU (some a) w b.drew).c l) d;go_wp2;go_region;go_wp2_with fail;refine bodyPost_end (results_none rfl _ _ _) rfl ⟨rfl,?_,m⟩;rw[Hm,if_neg qi];exact j
def Im(x:Kt)(k:Int)(M:B_):B_:=if k=0 then Gd x M else Fa x k M
def Vc(nb a M x k w)(m:At w nb 7 (.map (some a)))(h:Ao w a (iv M))(p:A_ w x) :
  Ca 321 #[Pn nb,Bh x,I6 k] w λe w'=>e=.returned (.tuple #[])/\Ao w' a (iv (Im x k M))/\BU (some a) w w':=by
 obtain⟨o,n⟩:=An h p;obtain⟨x0,x1,y⟩:=x;by_cases hk:k=0
 .have v:(k==0)=true:=T9;go_enter func321,ntmps321;unfold Bh;go_upto_region 1 with fail;refine BF ?_;intro b O g;have hd:Bw w b.drew:=O.drew;have q:At b nb 7 (.map (some a)):=zab O m;obtain⟨r,s,t2⟩:=Ea g rfl;obtain⟨t,f,d,j⟩:=U8 tys (ty:=0) (t2:=111) Lu (o.e hd) (n.e hd);rw[kX]at d;simp only[Bh]at f;obtain⟨l,i⟩:=An ((BU.u hd:BU (some a) w b.drew).c j) d;go_wp2;go_region;go_wp2_with fail;refine bodyPost_end (results_none rfl _ _ _) rfl ⟨rfl,?_,l⟩;rw[Im,if_pos hk];exact i
 have v:(k==0)=false:=T9;go_enter func321,ntmps321;unfold Bh;go_upto_region 1 with fail;refine BF ?_;intro b O g;have hd:Bw w b.drew:=O.drew;have q:At b nb 7 (.map (some a)):=zab O m;obtain⟨r,s,t2⟩:=Ea g rfl;obtain⟨t,f,d,j⟩:=Zh tys Lu (o.e hd) (n.e hd) (I6 k);rw[Rj]at d;simp only[Bh]at f;obtain⟨l,i⟩:=An ((BU.u hd:BU (some a) w b.drew).c j) d;go_wp2;go_region;go_wp2_with fail;refine bodyPost_end (results_none rfl _ _ _) rfl ⟨rfl,?_,l⟩;rw[Im,if_neg hk];exact i
def Ti (nb w):Sem.run prog (method 525 337 (Pn nb) "loop.example/s01311/impl.take") w=.ok (325,Pn nb) w:=by kernel_rfl
def Tj (nb w):Sem.run prog (method 525 334 (Pn nb) "loop.example/s01311/impl.take") w=.ok (320,Pn nb) w:=by kernel_rfl
def JA(hv:Value)(f:Nat)(r:Nat):Prop:=
 (hv=.func (.method "loop.example/s01311/impl.take") #[.iface 337 (.pointer (some ⟨r,0,none⟩))] #[]∧f=325) ∨
 (hv=.func (.method "loop.example/s01311/impl.take") #[.iface 334 (.pointer (some ⟨r,0,none⟩))] #[]∧f=320) ∨
 (hv=.func (.func 155) #[.pointer (some ⟨r,0,none⟩)] #[]/\f=155)
def CK(u w:Aa):Prop:=∀(g:Nat)c t fr,u.heap[g]?=some (.cells c t fr)->w.heap[g]?=some (.cells c t fr)
theorem CK.cell{u w}(h:CK u w){b o v}(d:u.cell? ⟨b,o,none⟩=some v):w.cell? ⟨b,o,none⟩=some v:=by
 cases a:u.heap[b]? with
 |none=>simp[World.cell?,a]at d
 |some e=>
  cases e with
  |cells c t f=>rw[<-d];exact yP (w:=u) ((h b c t f a).c a.z)
  |_=>simp[World.cell?,a]at d
def CK.c{u v w}(h:CK u v)(k:CK v w):CK u w:=λg c t a b=>k g c t a (h g c t a b)
def CK.u{u w}(h:Bw u w):CK u w:=λg _ _ _ a=>(h.block g (Ap a)).c a
def JN(w:Aa)(nb:Nat)(ng nd up hv:Value)(at_:Nat)(ta:Af)(n tc tb:Nat):Prop:=Bk w nb #[ng,.int .i64 (at_:Int),nd,.slice ta n tc,up,.map (some tb),hv] 339
def mN(nb ng nd up hv at_ ta tc tb ts p0 p1 p2 pf T f s w)(hq:JN w nb ng nd up hv at_ ta ts.length tc tb)(hJ:EJ w ta ts)(hT:E_ w (.pointer p0) (.pointer p1) (.pointer p2) T)(hF:DJ w (.pointer pf) f)(hl:ts.length<=1048576)(hfit:∀t∈ts,t.ah T f)(am:at_<3)(fn r)(hH:JA hv fn r)(Q:Aa->Aa->Prop)(hQ:∀u u',Q u u'->CK u u')(ar:ts.all (AA T f)=true->∀u,Bw w u->Ca fn #[Pn r,.agg (Iv at_ (.pointer pf) (.pointer p0) (.pointer p1) (.pointer p2)),I6 s] u λe w'=>e=.returned (.tuple #[])/\Q u w') :
  Ca 326 #[Pn nb,.agg #[.pointer p0,.pointer p1,.pointer p2],.pointer pf,I6 s] w λe w'=>e=.returned (.tuple #[])/\((ts.all (AA T f)=false/\Bw w w')∨(ts.all (AA T f)=true/\∃u,Bw w u/\Q u w')):=by
 obtain⟨HA,HY,ao,HQ⟩:=BP (λu(hu:Bw w u)=>PQ ng (I6 (at_:Int)) nd (.pointer p0) (.pointer p1) (.pointer p2) (.pointer pf) ts ta tc T f u (hJ.e hu) (hT.e hu) (hF.e hu) hl hfit) ar hQ hq;go_enter func326,ntmps326;go_upto_region 1 with fail;refine BF ?_;intro w1 aq au;have q1:=(aq.block nb (Ap HQ)).c HQ;have n0:=Bf (L:=[_,_,_,_,_,_,_]) q1 (j:=0) rfl;have n1:=Bf (L:=[_,_,_,_,_,_,_]) q1 (j:=1) rfl;have n2:=Bf (L:=[_,_,_,_,_,_,_]) q1 (j:=2) rfl;have n3:=Bf (L:=[_,_,_,_,_,_,_]) q1 (j:=3) rfl;have n6:=Bf (L:=[_,_,_,_,_,_,_]) q1 (j:=6) rfl;obtain⟨t0,t1,t2⟩:=Ea au rfl;have HW:=Ad aq
 cases ha:ts.all (AA T f)
 .rw[ha]at HA
  go_region_held3 (λu=>At u nb 0 ng/\At u nb 1 (I6 (at_:Int))/\At u nb 2 nd/\At u nb 3 (.slice ta ts.length tc)/\At u nb 6 hv/\At u w.heap.size 0 (.pointer p0)/\At u w.heap.size 1 (.pointer p1)/\At u w.heap.size 2 (.pointer p2))
   ((go_split_ands;first|done|(refine⟨?_,?_,?_,?_,?_,?_,?_,?_⟩<;>first|assumption|with_reducible exact zab O qk|with_reducible exact zab aj qk|exact zab Au.drew qk)))
   (first|(go_at_call 113;refine(HA _ HW.drew).rtn λw2 aj=>?_)|fail)
  go_wp2;exact bodyPost_end (results_none rfl _ _ _) rfl ⟨rfl,.inl ⟨ha,HW.drew.thn aj⟩⟩
 rw[ha]at HA
 go_region_held3 (λu=>At u nb 0 ng/\At u nb 1 (I6 (at_:Int))/\At u nb 2 nd/\At u nb 3 (.slice ta ts.length tc)/\At u nb 6 hv/\At u w.heap.size 0 (.pointer p0)/\At u w.heap.size 1 (.pointer p1)/\At u w.heap.size 2 (.pointer p2))
  ((go_split_ands;first|done|(refine⟨?_,?_,?_,?_,?_,?_,?_,?_⟩<;>first|assumption|with_reducible exact zab O qk|with_reducible exact zab aj qk|exact zab Au.drew qk)))
  (first|(go_at_call 113;refine(HA _ HW.drew).rtn λw2 aj=>?_)|fail)
 rename_i hh;obtain⟨_,m1,_,_,m6,v0,v1,v2⟩:=hh;have ak:=Ad (HW.drew.thn aj);go_wp2_with fail;rcases hH with⟨rfl,rfl⟩|⟨rfl,rfl⟩|⟨rfl,rfl⟩
 focus
  have hm:=λu=>Ti r u
  go_region_held3 (λu=>At u nb 1 (I6 (at_:Int))∧At u nb 6 (.func (.method "loop.example/s01311/impl.take") #[.iface 337 (Pn r)] #[])∧At u w.heap.size 0 (.pointer p0)∧At u w.heap.size 1 (.pointer p1)∧At u w.heap.size 2 (.pointer p2))
   ((go_split_ands;first|done|(refine⟨?_,?_,?_,?_,?_⟩<;>first|assumption|with_reducible exact CK.cell af qk|with_reducible exact zab O qk|exact zab Au.drew qk)))
   (first|(go_at_call 114;refine(VM p0 p1 p2 pf at_ _ am).rtn λw3 O=>?_;have ai:=Ad (ak.drew.thn O))|(go_at_call 325;refine(HY ha w3 ai).rtn λw4 ah=>?_;have af:=ao _ _ ah)|fail)
 rotate_left
 focus
  have hm:=λu=>Tj r u
  go_region_held3 (λu=>At u nb 1 (I6 (at_:Int))∧At u nb 6 (.func (.method "loop.example/s01311/impl.take") #[.iface 334 (Pn r)] #[])∧At u w.heap.size 0 (.pointer p0)∧At u w.heap.size 1 (.pointer p1)∧At u w.heap.size 2 (.pointer p2))
   ((go_split_ands;first|done|(refine⟨?_,?_,?_,?_,?_⟩<;>first|assumption|with_reducible exact CK.cell af qk|with_reducible exact zab O qk|exact zab Au.drew qk)))
   (first|(go_at_call 114;refine(VM p0 p1 p2 pf at_ _ am).rtn λw3 O=>?_;have ai:=Ad (ak.drew.thn O))|(go_at_call 320;refine(HY ha w3 ai).rtn λw4 ah=>?_;have af:=ao _ _ ah)|fail)
 rotate_left
 focus
  go_region_held3 (λu=>At u nb 1 (I6 (at_:Int))/\At u nb 6 (.func (.func 155) #[Pn r] #[])/\At u w.heap.size 0 (.pointer p0)/\At u w.heap.size 1 (.pointer p1)/\At u w.heap.size 2 (.pointer p2))
   ((go_split_ands;first|done|(refine⟨?_,?_,?_,?_,?_⟩<;>first|assumption|with_reducible exact CK.cell af qk|with_reducible exact zab O qk|exact zab Au.drew qk)))
   (first|(go_at_call 114;refine(VM p0 p1 p2 pf at_ _ am).rtn λw3 O=>?_;have ai:=Ad (ak.drew.thn O))|(go_at_call 155;refine(HY ha w3 ai).rtn λw4 ah=>?_;have af:=ao _ _ ah)|fail)
 rotate_left
 all_goals
  go_wp2;exact bodyPost_end (results_none rfl _ _ _) rfl ⟨rfl,.inr ⟨ha,w3,ai,ah⟩⟩
end Go.Proofs.YtikojfajahnhgaaGreat
