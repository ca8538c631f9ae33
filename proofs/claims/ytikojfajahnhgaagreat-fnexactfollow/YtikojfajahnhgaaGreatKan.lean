import Derived.Test.YtikojfajahnhgaaGreatKam
set_option linter.all false
set_option maxRecDepth 100000
namespace Go.Proofs.YtikojfajahnhgaaGreat
attribute [local simp] At I6 Pn mzI
attribute [local go_sem] At I6 Pn
open Go.RowKit Go.Proofs.Tryz
def Gp.da{p f a w w' e}(h:Gp p f a w e w')(b:Bk p f a=none):e=.returned (.tuple #[.slice none 0 0,.bool false])/\Bw w w':=by
 unfold Gp at h;rw[b]at h;exact h
def Gp.cL{p f b o w w' e}(h:Gp p f b w e w')(d:Bk p f b=some o):∃a c,e=.returned (.tuple #[.slice a o.length c,.bool true])/\w'.ownsRow w.heap.size 367 4 (.slice a o.length c) o.length (o.flatMap ER)/\Bw w w':=by
 unfold Gp at h;rw[d]at h;obtain⟨⟨a,c,g,j⟩,i⟩:=h;exact⟨a,c,g,j,i⟩
abbrev JF:=Pm × Value × Value
def Ld(x:JF):List Value:=[x.2.1,x.2.2]
structure H8(w:World) (base:Nat) (x:JF):Prop where
 ts:∃a c,x.2.1=.slice a x.1.al.length c
 bs:∃a c,x.2.2=.slice a x.1.binds.length c
 ot:w.ownsRow base 3 1 x.2.1 x.1.al.length (Am x.1.al)
 ob:w.ownsRow base 367 4 x.2.2 x.1.binds.length (x.1.binds.flatMap ER)
structure MO(w:World) (b1 base:Nat) (a:Option Addr) (c:Nat) (L:List JF):Prop where
 row:w.ownsRow b1 183 2 (.slice a L.length c) L.length (L.flatMap Ld)
 all:∀x∈L,H8 w base x
def MO.nil(w a base):MO w a base none 0 []:=⟨y9 _ _ _ _,λx hx=>qN⟩
def H8.ar{w w' base x}(h:H8 w base x)(a:Bw w w'):H8 w' base x:=⟨h.ts,h.bs,Bg h.ot a,Bg h.ob a⟩
def MO.ar{w w' b base a c L}(h:MO w b base a c L)(d:Bw w w'):MO w' b base a c L:=⟨Bg h.row d,λx e=>(h.all x e).ar d⟩
def H8.lower{w base base' x}(h:H8 w base x)(a:base'<=base):H8 w base' x:=⟨h.ts,h.bs,DT h.ot a,DT h.ob a⟩
def H8.grown{w w' base t x row}(h:H8 w base x)(a:w.grownBy w' row)(b:∀k,row=some k->∃c,w.heap[k]?=some (.cells c t (0,0)))(e:t≠3)(d:t≠367):H8 w' base x:=⟨h.ts,h.bs,MJ h.ot a b e,MJ h.ob a b d⟩
def MO.snoc{w w' b base a d c e L x}(h:MO w b base a c L)(hx:H8 w base x)(ho:w'.ownsRow b 183 2 (.slice d (L.length+1) e) (L.length+1) (L.flatMap Ld++Ld x))(f:w.grownBy w' (Value.slice a L.length c).ownBlock):MO w' b base d e (L++[x]):=by
 refine⟨Qz,λy hy=>?_⟩;have O:H8 w base y:=by
  exact my
 exact O.grown f (λk g=>A8 h.row g) qh qh
def MO.get{w e base a c L}(h:MO w e base a c L){i x}(b:L[i]?=some x) :
  ∃k,a=some ⟨k,0,none⟩/\k<w.heap.size/\At w k (i*2) x.2.1/\At w k (i*2+1) x.2.2:=by
 have key:=λj u(hj:(Ld x)[j]?=some u)=>CC h.row (Ig (cells:=Ld) (m:=2) (λ_=>rfl) L i x j u b hj);obtain⟨k,rfl,_,O,_⟩:=key 0 _ rfl;obtain⟨g,d,_,f,_⟩:=key 1 _ rfl;cases d;exact⟨k,rfl,yZ w ⟨k,_,none⟩ O,O,f⟩
def mJ{w base x}(h:H8 w base x):∀u∈Ld x,u.oneCell'=true:=by
 obtain⟨⟨a,c,d⟩,⟨e,f,b⟩,_,_⟩:=h;intro u hu;simp[Ld]at hu;rcases hu with rfl|rfl
 .rw[d];rfl
 rw[b];rfl
def jN:(prog.info? 183).map (λi=>(i.zero,i.size,i.bytes))=some (some (.agg #[.slice none 0 0,.slice none 0 0]),2,48):=qf
def MB:(prog.info? 3).map (λi=>(i.zero,i.size,i.bytes))=some (some (I6 0),1,8):=qf
def t_{w:World}{base xs a c}(h:w.ownsRow base 3 1 (.slice a xs.length c) xs.length (Am xs))(e:a=none):xs.length=0:=by
 subst e;rcases h.2 with⟨_,O⟩|⟨g,cap,Y,hv,_⟩
 .exact O
 cases hv
def r9{w:World}{base xs a c}(h:w.ownsRow base 3 1 (.slice a xs.length c) xs.length (Am xs))(d)(e:a=some d)(j u)(hu:(Am xs)[j]?=some u):w.cell? (d.add j)=some u:=by
 obtain⟨g,b,_,f,_⟩:=CC h hu;rw[e]at b;cases b;rw[YZ,Yt];exact f
def ge(xs):∀u∈Am xs,u.oneCell'=true:=by
 intro u hu;simp[Am]at hu;obtain⟨x,_,rfl⟩:=hu;rfl
def td(xs):(Am xs).length=xs.length*1:=by simp[Am]
def U_(xs x):Am (xs++[x])=Am xs++[I6 x]:=by simp[Am]
def BC.getM{w a fs}(h:BC w a fs){i f}(m:fs[i]?=some f):∃b o,a=some ⟨b,o,none⟩/\b<w.heap.size/\At w b (o+i*3) (I6 f.tag)/\At w b (o+i*3+1) (.string f.ak)/\∃d c,At w b (o+i*3+2) (.slice d f.ad.length c)/\Bj w d f.ad:=by
 obtain⟨b,o,e,g,j,d,c,l,k⟩:=h i f m;exact⟨b,o,e,ES g,g,j,d,c,l,k⟩
def Dv(p:Pt)(x:Pm)(l:List F):Bool:=decide (0<(Db p x l).length)
def Fv(p:Pt)(x:Pm)(l:List F):List Pm:=if p.neg=true then [] else Db p x l
def sj{p x l f}(h:Bk p f x.binds=none):Dv p x (l++[f])=Dv p x l:=by unfold Dv;rw[PM,h];simp
def xZ{p x l f o}(h:Bk p f x.binds=some o):Dv p x (l++[f])=true:=by unfold Dv;rw[PM,h];simp
def xH{p x l f}(h:Bk p f x.binds=none):Fv p x (l++[f])=Fv p x l:=by unfold Fv;rw[PM,h];simp
def Sk{p x l}(h:p.neg=true):Fv p x l=[]:=if_pos h
def zH{p x l f o}(a:p.neg=false)(h:Bk p f x.binds=some o):Fv p x (l++[f])=Fv p x l++[⟨x.al++[f.tag],o⟩]:=by
 unfold Fv;rw[if_neg (by rw[a];simp),if_neg (by rw[a];simp),PM,h]
def y_(p x l):(Fv p x l).length<=l.length:=by
 unfold Fv;split
 .simp
 exact Se p x l
def zoD{p fs x}(h:p.neg=false):Gy p fs x=Fv p x fs:=by
 unfold Gy Fv;rw[if_neg (by rw[h];simp),if_neg (by rw[h];simp)]
def km{p fs x}(h:p.neg=true)(b)(a:b=Dv p x fs):Gy p fs x=if b=true then [] else [x]:=by
 unfold Gy;rw[if_pos h];unfold Dv at a;by_cases O:(Db p x fs).length=0
 .rw[if_pos O,a,if_neg (by simp;exact YR O)]
 rw[if_neg O,a,if_pos (decide_eq_true qd)]
def zoN(p fs)(X:List Pm)(k x)(h:X[k]?=some x):Ci p fs (X.take (k+1))=Ci p fs (X.take k)++Gy p fs x:=by
 unfold Ci;rw[yY,h,Yu];simp
def OI(p fs):∀X:List Pm,(Ci p fs X).length<=X.length*(fs.length+1)
 |[]=>by simp[Ci]
 |x::r=>by
  have c:=OI p fs r
  have b:=wl p fs x
  have a:Ci p fs (x::r)=Gy p fs x++Ci p fs r:=by unfold Ci;rw[yE]
  rw[a,yR,yH,Qp]
  omega
section
attribute [local go_sem ↓] wp_at_zero wp_at_succ
def rG{a n c k}{w:World}{base e m xs}(h:w.ownsRow base e m (.slice a n c) n xs)(b:w.heap.size<=k):(Value.slice a n c).ownBlock≠some k:=λO=>by
 have:=(h.lt k O).2;omega
def nY{P:Prop}(h:P:=by have h3:min k L.length*(fs.length+1)<=k*41:=Wd (Nat.min_le_left _ _) (by omega);omega):P:=h
def nF{P:Prop}(h:P:=by
 rw[hneg]at ak;clear hneg;go_wp2_with fail;go_roundw
 case rel=>exact⟨k+1,a,c,M2,by go_num,by omega,rfl,ay.o,Rq.o,Dq.o⟩
 case measure=>(simp[intOf];omega)
 ):P:=h
set_option maxHeartbeats 12800000 in
def zo5(p fs L aP a6 fa fc pa pc){q b1 base}(w)(bi:CJ q w aP p.aa)(a5:BC w fa fs)(bf:MO w b1 base pa pc L)(bW:base<=w.heap.size)(bp:p.aa.length<=6)(bF:fs.length<=40)(hL:L.length<=200000000)(hX:∀x∈L,x.1.al.length<=900/\x.1.binds.length<=900) :
  Ca 125 #[.agg #[.bool p.neg,.string p.ak,.slice aP p.aa.length a6],.slice fa fs.length fc,.slice pa L.length pc] w λe w'=>(∃a c M,e=.returned (.slice a M.length c)/\MO w' w.heap.size base a c M/\M.map Prod.fst=Ci p fs (L.map Prod.fst))/\Bw w w':=by
 obtain⟨HT,HF,HP,HX⟩:=BE bi a5 bf hX;clear bi a5 bf hX;go_enter func125,ntmps125;go_upto_region 1 with fail;refine Bt ?_;intro w0 aJ aI;obtain⟨aW,bl,bo⟩:=Ao aI;have H:=Aa aJ;have bT:=aJ.size;have bK:w.heap.size<w0.heap.size:=As aI;clear aJ aI;go_wp2_with fail
 go_loopw [18,7] (λiv ov wr=>∃(k:Nat)(a:Option Addr)(c:Nat)(M:List JF),iv=.int .i64 (k:Int)/\k<=L.length/\ov=.slice a M.length c/\M.map Prod.fst=Ci p fs ((L.map Prod.fst).take k)/\MO wr w0.heap.size base a c M/\Bw w0 wr) (λiv _ _=>L.length-(intOf iv).toNat)
 case atStart=>exact⟨0,none,0,[],rfl,yA _,rfl,rfl,MO.nil _ _ _,Aj⟩
 case round=>
  obtain⟨k,a,c,M,rfl,bS,rfl,hM,ar,t⟩:=hrel;obtain⟨HM,ROW,aX,r⟩:=BE hM ar t (H.o.aj t);have bE:=t.size;have bY:M.length<=k*41:=by
   have W:=OI p fs ((L.map Prod.fst).take k);have h2:=congrArg List.length hM;simp at W h2;exact nY
  clear hM ar t;by_cases hk:k<L.length
  .obtain⟨x,R⟩:=AJ hk;obtain⟨⟨b,Y⟩,tv,bv⟩:=x;obtain⟨lb,rfl,bL,y0,y1⟩:=HP.o.get R;have a8:=HX.o _ (yd R);have PX:=Aa (HP.o.all _ (yd R));obtain⟨⟨ta,tc,e1⟩,⟨ba,bc,e2⟩,aQ,aH⟩:=PX.o;simp only at e1 e2 aQ aH y0 y1 a8;subst e1 e2;obtain⟨bX,bP⟩:=a8;obtain⟨OT,OB,aN⟩:=AQ aQ aH (zoN p fs (L.map Prod.fst) k ⟨b,Y⟩ (by rw[yx,R];rfl));have x0:=zab r.o y0;have x1:=zab r.o y1;have z0:(0:Int)<=(k:Int):=qd;have z1:(k:Int)<(L.length:Int):=qd;have bq:lb<wr.heap.size:=qd;clear R y0 y1 aQ aH;go_upto_region 5 with fail;refine Bt ?_;intro w2 aF aA;obtain⟨pb,y⟩:∃pb,pb=wr.heap.size:=⟨_,rfl⟩
   rw[<-y]at aA⊢;obtain⟨a4,R2,D2,N2⟩:=BE aA (ROW.o.ar aF) (aX.o.aj aF) (rG ROW.o.row (W0 y.ai));have bJ:=aF.size;have bg:pb<w2.heap.size:=As aA;have bI:w0.heap.size<=pb:=qd;clear aF aA x0 x1 ROW aX r bq bE y;go_wp2_with fail
   go_loopw [24,7,10] (λjv ov av d=>∃(j:Nat)(a:Option Addr)(c:Nat)(M2:List JF)(g:Bool),jv=.int .i64 (j:Int)/\j<=fs.length/\ov=.slice a M2.length c/\av=.bool g/\g=Dv p ⟨b,Y⟩ (fs.take j)/\M2.map Prod.fst=Ci p fs ((L.map Prod.fst).take k)++Fv p ⟨b,Y⟩ (fs.take j)/\MO d w0.heap.size base a c M2/\(Value.slice a M2.length c).ownBlock≠some pb/\d.heap[pb]?=some (.cells #[.slice ta b.length tc,.slice ba Y.length bc] 183 (0,0))/\Bw w0 d/\w2.heap.size<=d.heap.size) (λjv _ _ _=>fs.length-(intOf jv).toNat)
   case atStart=>exact⟨0,a,c,M,false,rfl,yA _,rfl,rfl,by simp[Dv,Db],by rw[HM.o,show Fv p ⟨b,Y⟩ (fs.take 0)=[] by unfold Fv;simp[Db]];simp,R2.o,N2.o,a4.o,D2.o,yX _⟩
   case round=>
    obtain⟨j,a,c,M2,g,rfl,bN,rfl,rfl,s,aT,ar,ab,bh,t,bU⟩:=hrel;obtain⟨d,rfl⟩:∃v,v=wr:=⟨wr,rfl⟩
    obtain⟨aw,HG,Rq,Nq,aL,Dq,r⟩:=H5 aT s ar ab bh t (H.o.aj t);have bG:M2.length<=k*41+40:=by
     have W:=OI p fs ((L.map Prod.fst).take k);have h2:=congrArg List.length aT;have h4:=y_ p ⟨b,Y⟩ (fs.take j);simp at W h2 h4;exact nY
    obtain⟨v0,v1⟩:=Ay aL.o;clear aT ar ab bh t R2 N2 a4 D2 s;by_cases hj:j<fs.length
    .obtain⟨f,hf⟩:=AJ hj;obtain⟨fb,fo,rfl,bO,s0,s1,sa,sc,s2,G⟩:=(HF.o.J r.o).getM hf;obtain⟨aE,SL⟩:=Ak (show fs.take (j+1)=fs.take j++[f] by rw[yY,hf];rfl) G;have ak:=zab Dq.o aW;have bk:=zab Dq.o bl;have aU:=zab Dq.o bo;have u0:(0:Int)<=(j:Int):=qd;have u1:(j:Int)<(fs.length:Int):=qd;have bD:w.heap.size<d.heap.size:=qd;have bt:pb<d.heap.size:=qd;clear hf G;go_upto_region 9 with fail;refine Bt ?_;intro w4 i aO;obtain⟨f0,f1,f2⟩:=Ao aO;obtain⟨R4,aD,D4⟩:=AQ (Rq.o.ar i) ((i.block _ bt).j aL.o) (Dq.o.aj i);have W4:=Aa (H.o.aj D4.o);have aC:=zab i ak;have a7:=zab i bk;have a9:=zab i aU;have g0:=zab i v0;have g1:=zab i v1;have aR:=Aa (SL.o.J i);have bV:=i.size;have bM:d.heap.size<w4.heap.size:=As aO;clear i aO ak bk aU v0 v1 s0 s1 s2 SL Rq aL Dq r;have HA:=Aa (zmB p f Y aP a6 sa sc ba bc w4 (HT.o.J W4.o) aR.o (Fw.owns (Bg OB.o W4.o)) bp qd);go_wp2_with fail;refine HA.o.ac ?_;intro e A hP;clear HA
     cases n:Bk p f Y with
     |none=>
      obtain⟨rfl,O⟩:=hP.da n;obtain⟨E,U,Z,T,m⟩:=DU (show Fv p ⟨b,Y⟩ (fs.take (j+1))=Fv p ⟨b,Y⟩ (fs.take j) by rw[aE.o];exact xH n) (show Dv p ⟨b,Y⟩ (fs.take (j+1))=Dv p ⟨b,Y⟩ (fs.take j) by rw[aE.o];exact sj n) (R4.o.ar O) ((O.block _ qd).j aD.o) (D4.o.aj O);have W5:=Aa (H.o.aj m.o);have bA:=O.size;have q0:=zab O aC;have h0:=zab O g0;have W:=zab O g1;have t0:=zab O f0;clear hP O aC a7 a9 g0 g1 f0 f1 f2 R4 aD D4 W4 aR;cases g
      focus
       have C:=Aa (show false=Dv p ⟨b,Y⟩ (fs.take (j+1)) by rw[U.o];exact HG.o)
      rotate_left
      focus
       have C:=Aa (show true=Dv p ⟨b,Y⟩ (fs.take (j+1)) by rw[U.o];exact HG.o)
      rotate_left
      all_goals
       go_wp2_with fail;go_roundw
       case rel=>exact⟨j+1,a,c,M2,_,ql,qd,rfl,rfl,C.o,by rw[aw.o,E.o],Z.o,Nq.o,T.o,m.o,qd⟩
       case measure=>(simp[intOf];omega)
     |some o=>
      obtain⟨oa,I,rfl,aY,O⟩:=hP.cL n;obtain⟨U,Z,T,m⟩:=BE (show Dv p ⟨b,Y⟩ (fs.take (j+1))=true by rw[aE.o];exact xZ n) (R4.o.ar O) ((O.block _ qd).j aD.o) (D4.o.aj O);have W5:=Aa (H.o.aj m.o);have bA:=O.size;have q0:=zab O aC;have h0:=zab O g0;have W:=zab O g1;have t0:=zab O f0;clear hP O aC a7 a9 g0 g1 f0 f1 f2 R4 aD D4 W4 aR;rcases(show p.neg=false∨p.neg=true by cases p.neg<;>simp) with hneg|hneg
      .have E:=Aa (show Fv p ⟨b,Y⟩ (fs.take (j+1))=Fv p ⟨b,Y⟩ (fs.take j)++[⟨b++[f.tag],o⟩] by rw[aE.o];exact zH hneg n);rw[hneg]at q0;clear n hneg;cases g;rotate_left;rotate_left
       all_goals
        obtain⟨C,aM,OO⟩:=AQ (show true=Dv p ⟨b,Y⟩ (fs.take (j+1)) by rw[U.o]) (Bg OT.o W5.o) aY;have bR:w0.heap.size<=A.heap.size:=m.o.size;go_upto_region 14 with(first|(at_builtin;refine EU qi (.tmp 46) (.tmp 48) 30 qi A.heap.size 3 _ 1 8 underlying30 MB qi qd _ 0 [] qi (y9 _ _ _ _) ta b.length tc qi (Am b) (td _) (t_ aM.o) (λad e=>r9 aM.o ad e) (ge _) qm qd AA ?_;intro a1 c1 w6 aZ D bu)|fail);obtain⟨B6,T6⟩:=Ak (show Bw A w6 from⟨D.o.os,D.o.tape,D.o.output,D.o.size,λk hk=>D.o.block k hk (λe=>qp)⟩) (show w6.ownsRow A.heap.size 3 1 (.slice a1 b.length c1) b.length (Am b) by have:=aZ.o;simpa using this);have r0:=zab B6.o t0;have bZ:=B6.o.size;have aS:=Aa (λo'=>Aj.alloc AA o':∀o',Bw w6 (w6.alloc o'));clear aZ D bu aM aY;go_wp2_with (first|(at_builtin;refine EU qi (.tmp 51) (.tmp 54) 30 qi A.heap.size 3 _ 1 8 underlying30 MB qi qd _ b.length _ qi (Bg T6.o (aS.o _)) (some ⟨_,0,none⟩) 1 1 qi [.int .i64 f.tag] qi (λe=>qp) (Et _ _ _ _ qe) Zt qm qd qg ?_;intro z B w7 bj a0 bg;have T7:=Aa (show w7.ownsRow A.heap.size 3 1 (.slice z (b.length+1) B) (b.length+1) (Am (b++[f.tag])) by have:=bj.o;rw[U_];simpa using this);have N:=Aa ((B6.o.j ((aS.o _).ac B6.o.size)).grown a0.o qg (λg s=>(T6.o.lt g s).1));have R7:=Aa (Z.o.ar N.o);have bB:=Aa ((N.o.block _ qd).j T.o);have D7:=Aa (m.o.aj N.o);have bQ:=N.o.size;have bC:=Aa (Bg OO.o N.o);have NX:=Aa (show H8 w7 base (⟨b++[f.tag],o⟩,.slice z (b.length+1) B,.slice oa o.length I) from⟨⟨z,B,qe⟩,⟨oa,I,rfl⟩,by simpa using DT T7.o qd,DT bC.o qd⟩);have az:=Aa (λo'=>Aj.alloc AA o':∀o',Bw w7 (w7.alloc o'));clear bj a0 bg T6 aS B6 Z T m)|(at_builtin;refine EU qi (.tmp 50) (.tmp 58) 118 qi w0.heap.size 183 _ 2 48 underlying118 jN qi qd _ M2.length _ qi (Bg R7.o.row (az.o _)) (some ⟨_,0,none⟩) 1 1 qi (Ld (⟨b++[f.tag],o⟩,.slice z (b.length+1) B,.slice oa o.length I)) qi (λe=>qp) (Et _ _ _ _ qe) (mJ NX.o) qm qd qg ?_;intro a3 c3 w8 K l aG)|fail);obtain⟨R8,D8,bw,N8⟩:=BE (MO.snoc (R7.o.ar (az.o _)) (NX.o.ar (az.o _)) K.o l.o) ((D7.o.j ((az.o _).ac D7.o.size)).grown l.o qg (λg s=>(R7.o.row.lt g s).1)) ((l.o.block pb qg (K7 Nq.o)).j (((az.o _).block pb qd).j bB.o)) (show(Value.slice a3 (M2++[((⟨b++[f.tag],o⟩,.slice z (b.length+1) B,.slice oa o.length I):JF)]).length c3).ownBlock≠some pb by rw[yR];rcases aG.o with h|h<;>(rw[show(M2.length+List.length [((⟨b++[f.tag],o⟩,.slice z (b.length+1) B,.slice oa o.length I):JF)])=M2.length+1 from rfl,h]) ; exact Nq.o;simp;omega);have bm:=l.o.size;simp at bm;clear K l aG;go_roundw
        case rel=>exact⟨j+1,a3,c3,_,_,ql,qd,qe,rfl,C.o,by rw[yJ,aw.o,E.o];simp,R8.o,N8.o,bw.o,D8.o,qd⟩
        case measure=>(simp[intOf];omega)
      have E:=Aa (show Fv p ⟨b,Y⟩ (fs.take (j+1))=Fv p ⟨b,Y⟩ (fs.take j) by rw[Sk hneg,Sk hneg]);rw[hneg]at q0;clear n hneg;cases g;rotate_left;rotate_left
      all_goals
       have C:=Aa (show true=Dv p ⟨b,Y⟩ (fs.take (j+1)) by rw[U.o]);go_wp2_with fail;go_roundw
       case rel=>exact⟨j+1,a,c,M2,_,ql,qd,rfl,rfl,C.o,by rw[aw.o,E.o],Z.o,Nq.o,T.o,m.o,qd⟩
       case measure=>(simp[intOf];omega)
    have br:j=fs.length:=qd;subst br;have hy:¬(fs.length:Int)<(fs.length:Int):=qd;obtain⟨aV,aK⟩:=Ak (show g=Dv p ⟨b,Y⟩ fs by rw[HG.o,yW]) (show M2.map Prod.fst=Ci p fs ((L.map Prod.fst).take k)++Fv p ⟨b,Y⟩ fs by rw[aw.o,yW]);have ak:=zab Dq.o aW;have bD:w.heap.size<d.heap.size:=qd;clear HG aw;rcases(show p.neg=false∨p.neg=true by cases p.neg<;>simp) with hneg|hneg
    .have ay:=Aa (show M2.map Prod.fst=Ci p fs ((L.map Prod.fst).take (k+1)) by rw[aK.o,aN.o,zoD hneg]);exact nF
    cases g
    .have ay:=Aa (show M2.map Prod.fst++[⟨b,Y⟩]=Ci p fs ((L.map Prod.fst).take (k+1)) by rw[aK.o,aN.o,km hneg _ aV.o,Sk hneg];simp);rw[hneg]at ak;clear hneg;have aB:=Aa (λo'=>Aj.alloc AA o':∀o',Bw d (d.alloc o'));have bH:w0.heap.size<=d.heap.size:=Dq.o.size;have bz:=Aa (PX.o.ar r.o);go_wp2_with (first|(at_builtin;refine EU qi (.tmp 67) (.tmp 69) 118 qi w0.heap.size 183 _ 2 48 underlying118 jN qi qd _ M2.length _ qi (Bg Rq.o.row (aB.o _)) (some ⟨_,0,none⟩) 1 1 qi (Ld (⟨b,Y⟩,.slice ta b.length tc,.slice ba Y.length bc)) qi (λe=>qp) (Et _ _ _ _ qe) (mJ PX.o) qm qd qg ?_;intro a3 c3 w8 K l aG)|fail);obtain⟨R8,D8⟩:=Ak (MO.snoc (Rq.o.ar (aB.o _)) (bz.o.ar (aB.o _)) K.o l.o) ((Dq.o.j ((aB.o _).ac Dq.o.size)).grown l.o qg (λg s=>(Rq.o.row.lt g s).1));clear K l aG;go_roundw
     case rel=>exact⟨k+1,a3,c3,_,ql,qd,qe,by rw[yJ];exact ay.o,R8.o,D8.o⟩
     case measure=>(simp[intOf];omega)
    have ay:=Aa (show M2.map Prod.fst=Ci p fs ((L.map Prod.fst).take (k+1)) by rw[aK.o,aN.o,km hneg _ aV.o,Sk hneg];simp);exact nF
  have bn:k=L.length:=qd;subst bn;have hy:¬(L.length:Int)<(L.length:Int):=qd;have HR:=Aa (show M.map Prod.fst=Ci p fs (L.map Prod.fst) by rw[HM.o,yu qe]);go_wp2_with fail;go_ret;exact⟨⟨a,c,M,rfl,⟨DT ROW.o.row qd,ROW.o.all⟩,HR.o⟩,r.o⟩
end
end Go.Proofs.YtikojfajahnhgaaGreat
