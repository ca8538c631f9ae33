import Derived.Test.YtikojfajahnhgaaGreatKbc
import Derived.Test.YtikojfajahnhgaaGreatKap
import Derived.Test.YtikojfajahnhgaaGreatKaa
set_option linter.all false
set_option maxHeartbeats 51200000
set_option maxRecDepth 100000
namespace Go.Proofs.YtikojfajahnhgaaGreat
open Go.RowKit Go.Proofs.Tryz
attribute [local go_sem ↓] wp_at_zero wp_at_succ
attribute [local simp] At I6 Pn mzI Bk
attribute [local go_sem] At I6 Pn Bk
theorem DN.lt{Z w a fs}(h:DN Z w a fs):DN (λb=>Z b/\b<w.heap.size) w a fs:=λi f t=>by
 obtain⟨b,o,q,m,g,r,s,c,u,k⟩:=h i f t;refine⟨b,o,⟨q,yI w ⟨b,_,none⟩ g⟩,m,g,r,s,c,u,λj v hv=>?_⟩;obtain⟨e,o',O,p,d,l,n⟩:=k j v hv;exact⟨e,o',⟨O,yI w ⟨e,_,none⟩ d⟩,p,d,l,n⟩
def LK.grow{w0 sg os k stb fa fc sa f i O xs p u w' o r n q z}(h:LK w0 sg os k (k+1) stb fa fc sa i xs p)(l:Bw p u)(t:w'.ownsRow w0.heap.size 42 5 (.slice f (k+1) O) (k+1) (xs++[I6 r.ab,I6 r.tag,n,q,z]))(m:u.grownBy w' (Value.slice sa k i).ownBlock)(hl:(Value.slice f (k+1) O).ownBlock=(Value.slice sa k i).ownBlock∨(Value.slice f (k+1) O).ownBlock=some u.heap.size)(s:os[k]?=some o)(w:r=Bn (AV 10 sg (os.take k)).1 (AV 10 sg (os.take k)).2 10 sg o):LK w0 sg os (k+1) (k+1) stb fa fc f O (xs++[I6 r.ab,I6 r.tag,n,q,z]) w':=by
 have a:=h.e l;have A:=l.size;refine⟨?_,?_,h.ch,t,by rw[w];exact h.eq.snoc s,?_⟩
 .refine(m.block stb (Ap a.box) λe=>?_).c a.box;obtain⟨y,v⟩:=A7 a.st e.z;exact Cw v a.box qi
 .refine DN.j (h.cz.lt.kept (w':=w') λb d hlt=>?_) λb d=>⟨d.1.1,λe=>?_⟩
  .exact(m.block b qd (WU d.1.2)).c (l.block b hlt)
  rcases hl with hl|hl
  .exact d.1.2 (hl.z.c e)
  rw[hl]at e;injection e with e;have:=d.2;omega
 exact a.C.grown m a.C.size (λg x=>(a.st.lt g x).1)
def X0(sg:Bool)(os:BM)(w:Aa)(e:Ending)(w':Aa):Prop:=∃sa sc xs,e=.returned (.slice sa os.length sc)/\w'.ownsRow w.heap.size 42 5 (.slice sa os.length sc) os.length xs/\Uu sg os os.length xs/\Bw w w'
def zmY(rs ms sg os a c am cm ao co){q q'}(w)(hv:Fg q w a rs)(hc:rs.length<=c)(bS:FD Ru.le 1048576 rs)(aY:∀x∈rs,Jd x.A)(aZ:CJ q' w am ms)(bT:Pe w ao os)(aa:∀o∈os,Hy o)(aC:(Cf rs).1=0)(bq:ms.length=rs.length)(bM:∀m∈ms,m=0)(cI:os.length<=60) :
  Ca 11 #[.slice a rs.length c,.slice am ms.length cm,I6 10,.bool sg,.slice ao os.length co] w (X0 sg os w):=by
 have HC:=Ad (iM rs a c w hv hc bS aY aC);have cG:ms.length<=16:=by have:=Rm aC;omega
 obtain⟨bD,bv,b0,cn,cr,cv,bl,aT,cA⟩:=L_ (λ(u:Aa)(h:Bw w u)(fs:Ab)(nx:Int)(cg:VS fs nx 10 sg)(fa:Af)(fc:Nat)(hf:Cs u fa fs)=>sO rs fs a c fa fc u (hv.e h) hf (cg.dv aC)) (λ(u:Aa)(h:Bw w u)(fs:Ab)(fa:Af)(fc:Nat)(hf:Cs u fa fs)(hl:fs.length<=40)=>zos rs ms fs a c am cm fa fc u (hv.e h) (aZ.e h) hf aC bq hl) aZ bM bT aa aC (λk=>Nf (cp:=10) (sg:=sg) qi qi os k) (λk=>U9 (cp:=10) (sg:=sg) qi qi aa k);have k1:((ms.length:Int) != (rs.length:Int))=false:=by simp;omega
 have cL:¬(60:Int)<(os.length:Int):=qd;clear hv hc bS aY aZ bT aa aC bq bM;go_enter func11,ntmps11;go_wp2_with (first|(go_at_call 49;refine HC.rtn λw1 bh=>?_;have B1:=Ad bh;clear bh HC)|fail)
 go_loopw [45] (λiv wr=>∃(k:Nat),iv=I6 (k:Int)/\k<=ms.length/\Bw w wr) (λiv _=>ms.length-(intOf iv).toNat)
 .exact⟨0,rfl,yn _,B1⟩
 obtain⟨k,rfl,cy,hb⟩:=hrel;have BR:=Ad hb;clear hb B1;have z0:(0:Int)<=(k:Int):=qd;by_cases y:k<ms.length
 .obtain⟨x,hx⟩:=Bq y;obtain⟨mb,mo,rfl,_,m0⟩:=(b0.e BR).get hx;have z1:=Hk y;have cC:=cn x (yd hx);subst cC;clear hx;go_wp2;exact⟨⟨k+1,qm,qd,BR⟩,qp⟩
 have hy:=FN y;go_upto_region 10 with fail;refine BF ?_;intro w2 bC a5;have B2:=Ad (BR.thn bC);obtain⟨stb,aA⟩:=AF wr.heap.size;rw[<-aA]at a5;(try rw[<-aA]);have cz:w.heap.size<=stb:=by rw[aA];exact BR.size
 have bF:=Ad (show LK w sg os 0 0 stb none 0 none 0 [] w2 from⟨a5,λi f hf=>(by simp[AV]at hf),yA _,yJ _ _ _ _,⟨rfl,λi o h=>absurd h (Nat.not_lt_zero i)⟩,B2⟩);clear bC a5 aA BR;go_wp2_with fail;refine(bD w2 B2 [] 1 (aT 0) none 0 (λi f hf=>Qh)).j ?_;rintro e w3 ⟨⟨M,J,O,rfl,aM,hO⟩,bn⟩;obtain⟨I3,E3,bQ⟩:=AK (aM.lower B2.size B2.size) (show Sw (O.map Prod.fst) by rw[hO];exact(aT 0).dJ bl) (bF.e bn);clear aM hO bn bF B2;go_wp2
 go_loopw [63,14,15] (λiv ov sv wr=>∃(k:Nat)(fa:Af)(fc:Nat)(sa:Af)(E:Nat)(xs:Aj)(M:Af)(J:Nat)(O:Bj),iv=I6 (k:Int)/\k<=os.length/\ov=.slice M O.length J/\sv=.slice sa k E/\LK w sg os k k stb fa fc sa E xs wr/\Iw wr w.heap.size w.heap.size M J O/\Sw (O.map Prod.fst)) (λiv _ _ _=>os.length-(intOf iv).toNat)
 .exact⟨0,none,0,none,0,[],M,J,O,rfl,yn _,rfl,rfl,bQ,I3,E3⟩
 obtain⟨k,fa,fc,sa,E,xs,M,J,O,rfl,cy,rfl,rfl,bz,aM,hO⟩:=hrel;obtain⟨D,bJ,EO⟩:=AK bz aM hO;clear bz aM hO bQ I3 E3;by_cases y:k<os.length
 .obtain⟨o,ho⟩:=Bq y;have bp:=yd ho;obtain⟨ob,op,bY,cq,cj,o0,o1,o2,o3,br⟩:=cr k o ho;subst cj;have B:=D.C;have x0:=zab B o0;have x1:=zab B o1;have x2:=zab B o2;have x3:=zab B o3;have bW:=Ad (br.e B);obtain⟨fs,aD⟩:=AF ((AV 10 sg (os.take k)).1);obtain⟨nx,G⟩:=AF ((AV 10 sg (os.take k)).2);have aO:VS fs nx 10 sg:=by rw[aD,G];exact aT k
  have ai:=D.box;have aG:=D.ch;have I:=D.cz.at;rw[<-aD,<-G]at ai;rw[<-aD]at aG I;have cJ:fs.length<=40:=by have:=aO.len;have:=aO.aQ;omega
  have bu:∀f∈fs,Do f/\A6 f:=by rw[aD];exact cA k
  obtain⟨bG,ar,aQ,aU,bV,HO⟩:=Ma (λ(u:Aa)(hb:Bw wr u)=>zs0 o (cv o bp) fa fc fs nx 10 sg bY cq u (I.e hb) aG (bW.e hb) qd bu) ai aD G aO ho;obtain⟨z0,z1⟩:=CZ y;have cK:=Ad B;clear bp o0 o1 o2 o3 br B ho aD G aO aG I bu ai;go_upto_region 15 with fail;refine BF ?_;intro w5 a0 bR;have aN:=Ad a0;obtain⟨y0,y1,y2,y3⟩:=AX bR;have aV:=(a0.block _ (Ap ar)).c ar;obtain⟨s0,s1,s2,s3⟩:=AX aV;clear a0 bR x0 x1 x2 x3;go_upto_region 16 with(first|(go_at_call 51;refine(bG w5 aN).j ?_;rintro e w6 ⟨⟨ga,gc,rfl,bm,bo⟩,bt⟩;have a7:=Ad bm;have bf:=Ad bt;clear bm bt;dsimp only[C6.val])|fail);refine BF ?_;intro w7 a4 s;obtain⟨r,hr⟩:=AF (Bn fs nx 10 sg o);rw[<-hr]at s a7 bo⊢;obtain⟨HR,bd,aJ⟩:=AK hr s (show Bw wr w7 from(aN.thn bf).c (a4.j (yi aN.size bf.size)));obtain⟨cb,ay⟩:=AF w6.heap.size;rw[<-ay]at s bd;(try rw[<-ay]);have c0:=Bf (L:=[_,_,_,_,_,_]) s (j:=0) rfl;have c1:=Bf (L:=[_,_,_,_,_,_]) s (j:=1) rfl;have c2:=Bf (L:=[_,_,_,_,_,_]) s (j:=2) rfl;have c3:=Bf (L:=[_,_,_,_,_,_]) s (j:=3) rfl;have c4:=Bf (L:=[_,_,_,_,_,_]) s (j:=4) rfl;have bU:=Ad (show DN (λb=>w5.heap.size<=b) w7 ga r.fs from a7.kept λb _ hl=>a4.block b hl);have ah:=(aJ.block _ (Ap ar)).c ar;have aX:=Ad ah;have aK:∀j,w7.frozen? ⟨stb,j,none⟩=false:=λj=>by simp[World.frozen?,ah]
  have e0:=Bf (L:=[_,_,_,_]) ah (j:=0) rfl;have e1:=Bf (L:=[_,_,_,_]) ah (j:=1) rfl;have e2:=Bf (L:=[_,_,_,_]) ah (j:=2) rfl;have e3:=Bf (L:=[_,_,_,_]) ah (j:=3) rfl;have cD:=aK 0;have ce:=aK 1;have cB:=aK 2;have ch:=aK 3;have bI:stb≠cb:=λe=>by
   rw[e]at ah;exact Cw s ah qi
  have b4:wr.heap.size<=w5.heap.size:=aN.size;have cF:stb<w5.heap.size:=yg (Ap ar) b4;obtain⟨RK,cH⟩:=An (RJ (cp:=10) (sg:=sg) HO) ay;clear a4 s hr s0 s1 s2 s3 y0 y1 y2 y3 bG a7 bf aN aK aV ah ay;go_upto_if 72 with fail
  go_cut [] (λwx=>∃Y U,LK w sg os k (k+1) stb Y U sa E xs wx/\Iw wx w.heap.size w.heap.size M J O/\Bk wx cb #[.slice ga r.fs.length gc,I6 r.nx,I6 r.cp,.bool r.sg,I6 r.ab,I6 r.tag] 87)
  .by_cases hc:r.ab=1
   .have cw:(r.ab != 1)=false:=NA;have az:AV 10 sg (os.take (k+1))=AV 10 sg (os.take k):=by
     rw[RK.o,<-aQ.o,<-aU.o];unfold JS;rw[<-HR.o,if_neg qd,aQ.o,aU.o]
    have R:=Ad (show LK w sg os k (k+1) stb fa fc sa E xs w7 from by
     have h:=D.e aJ;exact⟨by rw[az];exact h.box,by rw[az];exact h.cz,by rw[az];exact h.ch,h.st,h.eq,h.C⟩)
    clear hc az;go_wp2;go_meet;exact⟨_,_,R,bJ.C aJ,bd⟩
   have cw:(r.ab != 1)=true:=NA;have ht:=Tl o bV;rw[<-HR.o]at ht;obtain⟨t0,t1,bA,bO,t4⟩:=ht.resolve_left hc;have az:AV 10 sg (os.take (k+1))=(r.fs,r.nx):=by
    rw[RK.o,<-aQ.o,<-aU.o];unfold JS;rw[<-HR.o];split
    .rfl
    rename_i hn;rw[(t4 hn).1,(t4 hn).2]
   obtain⟨a6,ci,b7⟩:=AK az bA bO;clear hc ht t0 t1 bA bO t4 az;go_upto_region 18 with fail;refine Vv aX ?_;intro w8 bP n;have bg:∀(k:Nat)cs t,(t=42∨t=45∨t=3)->Bk w7 k cs t->w8.heap[k]?=w7.heap[k]?:=λk cs t a9 y=>n.block k (λe=>by
    subst e;exact Cw y aX (by rcases a9 with rfl|rfl|rfl<;>decide))
   have R:=Ad (show LK w sg os k (k+1) stb ga gc sa E xs w8 from by
    have h:=D.e aJ;refine⟨by rw[a6.o,<-ci.o,<-b7.o];exact bP,?_,by rw[a6.o];exact bo,Ci h.st (λg hg=>by
     obtain⟨c2,aL⟩:=A7 h.st hg;exact bg g c2 _ (.inl rfl) aL),h.eq,h.C.c (n.e cz)⟩
    rw[a6.o];refine DN.j (bU.kept (w':=w8) λb hz _=>n.block b qd) λb hz=>⟨qd,λe=>?_⟩
    have:=(D.st.lt b e).2;omega)
   obtain⟨I8,cu⟩:=An ((bJ.C aJ).aR λk cs t a9 _ y=>bg k cs t (.inr a9) y) ((n.block _ bI.z).c bd);clear bP n bg;go_wp2;go_meet;exact⟨_,_,R,I8,cu⟩
  obtain⟨Y,U,aF,hI,ay⟩:=hcut;obtain⟨R,bc⟩:=An aF ay;obtain⟨p,ak⟩:=AF ((AV 10 sg (os.take (k+1))).1);obtain⟨ac,aI⟩:=AF ((AV 10 sg (os.take (k+1))).2);have aH:VS p ac 10 sg:=by rw[ak,aI];exact aT (k+1)
  have ai:=aF.box;have I:=aF.cz.at;rw[<-ak,<-aI]at ai;rw[<-ak]at I;have bE:=Ad (bD wc aF.C p ac aH Y U I);have g0:=Bf (L:=[_,_,_,_]) ai (j:=0) rfl;obtain⟨II,bL,a8,cE⟩:=BP hI I aH ak;clear aF hI ay ak aI aH ai I e0 e1 e2 e3 cD ce cB ch c0 c1 c2 c3 c4;go_wp2_with fail;refine bE.j ?_;rintro e wd ⟨⟨na,nc,M2,rfl,bH,bw⟩,aE⟩;obtain⟨H,I2,E2,bj⟩:=BP (R.e aE) (bH.lower R.C.size R.C.size) bw (II.C aE);have aS:=(aE.block _ (Ap bc)).c bc;have bB:p.length<=40:=by have:=a8.len;have:=a8.aQ;omega
  have b5:=Ad H.C;have bZ:w.heap.size<=wd.heap.size:=H.C.size;have EM:=Ad (show Sw (M2.map Prod.fst) by rw[E2.o];exact a8.dJ bl);have b6:=Ad (λ(u:Aa)(h:Bw wd u)=>by
   have hh:=rT (M2.map Prod.fst) (O.map Prod.fst) na M nc J u (I2.C h).at (bj.C h).at EM EO;rwa [yu,yu]at hh)
  have b8:=Ad (λ(u:Aa)(h:Bw wd u)=>by
   have hh:=rT (O.map Prod.fst) (M2.map Prod.fst) M na J nc u (bj.C h).at (I2.C h).at EO EM;rwa [yu,yu]at hh)
  have cd:=Ad (λ(u:Aa)(h:Bw wd u)=>bv u (b5.thn h) p Y U ((bL.e aE).e h) bB);have g4:=Bf (L:=[_,_,_,_,_,_]) aS (j:=4) rfl;have T:=Bf (L:=[_,_,_,_,_,_]) aS (j:=5) rfl;have g6:=zab aE g0;have bK:some cb≠(Value.slice sa k E).ownBlock:=λe=>by
   obtain⟨c2,aL⟩:=A7 H.st e.z;exact Cw aL aS qi
  have bX:some stb≠(Value.slice sa k E).ownBlock:=λe=>by
   obtain⟨c2,aL⟩:=A7 H.st e.z;exact Cw aL H.box qi
  clear bH bw aS aE g0 bE II R bc bL bv;go_upto_region 19 with fail
  go_cut [15] (λsv wx=>∃(aR:Af)(aP:Nat)(W:Aj),sv=.slice aR (k+1) aP/\LK w sg os (k+1) (k+1) stb Y U aR aP W wx/\Iw wx w.heap.size w.heap.size na nc M2)
  .have af:Bw wd wd.drew:=Au.drew;refine wp_region_noPanic ?_;refine wp_region_held_drew (S:=(λu=>At u cb 4 (I6 r.ab)/\At u cb 5 (I6 r.tag)/\At u stb 0 (.slice Y p.length U))) qg ?_ (λhHeld=>?_)
   ·(try dsimp only);exact⟨g4,T,g6⟩
   refine sr 0 7 ?_;refine sr 8 10 ?_;refine sr 11 15 ?_;refine wpAnyH_ready (rs:=[7]) qg qf ?_;refine y9 (yj.c rfl) (λK d=>?_) Yd;go_simp
   go_at_call 52;refine(b6 _ af).j ?_;rintro e _ ⟨⟨pa,pn,pc,rfl⟩,N⟩;have af:=af.thn N;clear N
   (try go_wp2_with fail);refine d _ _ ?hS1 (λhHeld=>?_)
   case hS1=>((try dsimp only);exact⟨zab af g4,zab af T,zab af g6⟩)
   clear d K;(try simp only[pQ]);refine wpAnyH_ready (rs:=[10]) qg qf ?_;refine y9 (yj.c rfl) (λK d=>?_) Yd;go_simp
   go_at_call 52;refine(b8 _ af).j ?_;rintro e _ ⟨⟨qa,qn,qc,rfl⟩,N⟩;have af:=af.thn N;clear N
   (try go_wp2_with fail);refine d _ _ ?hS2 (λhHeld=>?_)
   case hS2=>((try dsimp only);exact⟨zab af g4,zab af T,zab af g6⟩)
   clear d K;(try simp only[pQ]);refine wpAnyH_ready (rs:=[15]) qg qf ?_;refine y9 (yj.c rfl) (λK d=>?_) Yd;go_simp
   go_at_call 53;refine(cd _ af).j ?_;rintro e _ ⟨⟨Z,rfl⟩,N⟩;have af:=af.thn N;clear N
   (try go_wp2_with fail);refine d _ _ ?hS3 (λhHeld=>?_)
   case hS3=>((try dsimp only);exact⟨zab af g4,zab af T,zab af g6⟩)
   clear d K;(try simp only[pQ]);refine sr 16 17 ?_;refine wpAnyH_ready (rs:=[17]) qg qf ?_;refine y9 (yj.c rfl) (λK d=>?_) Yd;go_simp;refine d _ _ ?hS4 (λhHeld=>?_)
   case hS4=>((try dsimp only);exact⟨zab (af.alloc af.size _) g4,zab (af.alloc af.size _) T,zab (af.alloc af.size _) g6⟩)
   clear d K;(try simp only[pQ]);refine wpAnyH_ready (rs:=[18]) qg qf ?_;refine y9 (yj.c rfl) (λK d=>?_) Yd;(refine GG qh (.tmp 79) (.tmp 96) 34 qh w.heap.size 42 _ 5 72 underlying34 kV qh qd _ k _ qh (AZ H.st (af.alloc af.size _)) (some ⟨_,0,none⟩) 1 1 qh [I6 r.ab,I6 r.tag,.slice pa pn pc,.slice qa qn qc,I6 Z] qh (λe=>qo) (CH _ _ _ _ qD) Ua qj qd (yi bZ (af.alloc af.size _).size) ?_;intro a3 c3 w3 bk aB bi);refine d _ _ ?hS5 (λhHeld=>?_)
   case hS5=>((try dsimp only);exact⟨aB.cell (zab (af.alloc af.size _) g4) bK,aB.cell (zab (af.alloc af.size _) T) bK,aB.cell (zab (af.alloc af.size _) g6) bX⟩)
   clear d K;(try simp only[pQ]);refine sr 19 20 ?_;refine wpAnyH_done qg ?_ _;refine Yb ?_;obtain⟨FG,I4⟩:=An (H.grow (af.alloc af.size _) bk aB bi HO (by rw[HR.o,aQ.o,aU.o])) ((I2.C (af.alloc af.size _)).cE (IU.an (AZ H.st (af.alloc af.size _)) aB));clear bk aB bi;go_wp2;go_meet;exact⟨a3,c3,_,rfl,FG,I4⟩
  obtain⟨aR,aP,W,rfl,aW,bN⟩:=hcut;obtain⟨cf,I'⟩:=An aW bN;clear aW bN g4 T g6;go_wp2;exact⟨⟨k+1,Y,U,aR,aP,W,na,nc,M2,qm,qd,rfl,rfl,cf,I',EM⟩,qp⟩
 obtain rfl:k=os.length:=qd;have hy:¬(os.length:Int)<(os.length:Int):=qd;go_wp2;go_ret;exact⟨sa,E,xs,rfl,D.st,D.eq,D.C⟩
def Vl{x L}:D_ x L=true↔x∈L:=by
 unfold D_;rw[WM];constructor
 .rintro⟨y,c,h⟩;obtain⟨a,b⟩:=of_decide_eq_true h;have e:x=y:=by
   cases x
   cases y
   simp only at a b;rw[a,b]
  rw[e];exact c
 exactλh=>⟨x,h,qf⟩
def wV{x L}(h:x ∉ L):D_ x L=false:=by
 rw[<-i5,Vl];exact h
def LZ(A B:BN):BN:=A.filter (λx=>!D_ x (JD A B))++JD B A
def mF{A B x}:x∈LZ A B↔x∈B:=by
 unfold LZ;rw[yp,yh,Kj,<-i5,Vl,Ow,Ow]
 grind
def zt{A B}(d:A.Nodup)(c:B.Nodup):(LZ A B).length=B.length:=by
 have g:(LZ A B).Nodup:=by
  refine yL.2 ⟨d.sublist Yt,c.sublist Yt,λa O b f e=>?_⟩;subst e;exact(Ow.1 f).2 (yh.1 O).1
 exact((Wn g c).2 λx=>mF).length_eq
def mR{rs ms cp sg}{os:BM}:∀n,n<=os.length->(MB rs ms cp sg os n).length=n/\∀(i:Nat)o,i<n->os[i]?=some o->(MB rs ms cp sg os n)[i]?=some (SJ rs ms cp sg (AV cp sg (os.take i)) o)
 |0,_=>⟨rfl,λi _ h=>absurd h (Nat.not_lt_zero i)⟩
 |n+1,h=>by
  obtain⟨o',O⟩:=Bq (show n<os.length by omega)
  obtain⟨b,c⟩:=mR (rs:=rs) (ms:=ms) (cp:=cp) (sg:=sg) (os:=os) n qd
  rw[rJ O]
  refine⟨by simp[b],λi o f a=>?_⟩
  by_cases d:i<n
  .rw[yr qd]
   exact c i o d a
  have e:i=n:=qd
  subst e
  rw[O]at a
  injection a with a
  subst a
  rw[yB qd,b]
  simp
def IJ(rs:Az)(sg:Bool)(os:BM)(k:Nat):BN:=Dy (AV 10 sg (os.take k)).1 0 rs
def X3{rs sg}{os:BM}(a:(Cf rs).1=0)(k):(IJ rs sg os k).length<=1024000/\(∀y∈IJ rs sg os k,y.G.length<=6)/\(IJ rs sg os k).Nodup:=by
 have b:=Nf (cp:=10) (sg:=sg) qi qi os k;exact⟨(b.dJ a).1,(b.dJ a).2,(ZD (Z2 (RF b.aH) (λr c=>Vz a c) 0)).1⟩
structure Pb(rs:Az) (sg:Bool) (os:BM) (i:Nat) (o:Wo) (sa:Af) (g:Nat) (aa:Af) (ac:Nat) (P:Bj) (da:Af) (dc:Nat) (Q:Bj) (z:Int) (w:Aa):Prop where
 ad:sa=some ⟨g,0,none⟩
 c0:At w g (i*5) (I6 (Bn (AV 10 sg (os.take i)).1 (AV 10 sg (os.take i)).2 10 sg o).ab)
 c1:At w g (i*5+1) (I6 (Bn (AV 10 sg (os.take i)).1 (AV 10 sg (os.take i)).2 10 sg o).tag)
 c2:At w g (i*5+2) (.slice aa P.length ac)
 c3:At w g (i*5+3) (.slice da Q.length dc)
 c4:At w g (i*5+4) (I6 z)
 iP:Iw w 0 0 aa ac P
 iQ:Iw w 0 0 da dc Q
 eP:P.map Prod.fst=JD (IJ rs sg os (i+1)) (IJ rs sg os i)
 eQ:Q.map Prod.fst=JD (IJ rs sg os i) (IJ rs sg os (i+1))
theorem Pb.e{rs sg os i o sa g d f P b c Q z w w'}(h:Pb rs sg os i o sa g d f P b c Q z w)(a:Bw w w'):Pb rs sg os i o sa g d f P b c Q z w':=⟨h.ad,zab a h.c0,zab a h.c1,zab a h.c2,zab a h.c3,zab a h.c4,h.iP.C a,h.iQ.C a,h.eP,h.eQ⟩
def SO.stp{w b sa r L}(h:SO w b sa r L){i x}(f:L[i]?=some x):∃g c e d a,sa=some ⟨g,0,none⟩/\At w g (i*5) (I6 x.ab)/\At w g (i*5+1) (I6 x.tag)/\At w g (i*5+2) (.slice c x.P.length e)/\At w g (i*5+3) (.slice d x.Q.length a)/\At w g (i*5+4) (I6 x.size)/\Iw w 0 0 c e x.P/\Iw w 0 0 d a x.Q:=by
 have key:=λj u(hj:(Pv x)[j]?=some u)=>CG h.row (Hf (cells:=Pv) (m:=5) (λ_=>rfl) L i x j u f hj);obtain⟨⟨c,e,y,z⟩,⟨d,a,A,hd⟩⟩:=h.V x (yd f);obtain⟨g,O,_,s,_⟩:=key 0 _ rfl;obtain⟨B,p,_,t,_⟩:=key 1 _ rfl;obtain⟨D,o,_,q,_⟩:=key 2 _ rfl;obtain⟨E,l,_,n,_⟩:=key 3 _ rfl;obtain⟨C,k,_,v,_⟩:=key 4 _ rfl;rw[O]at p o l k;cases p;cases o;cases l;cases k;rw[y]at q;rw[A]at n;exact⟨g,c,e,d,a,O,s,t,q,n,v,z.lower (yn _) (yn _),hd.lower (yn _) (yn _)⟩
def zsy{rs ms sg}{os:BM}(b:(Cf rs).1=0)(a:Jw ms rs.length=true)(O:os.length<=60):NK rs ms 10 sg os=MB rs ms 10 sg os os.length:=if_pos ⟨b,a,qi,qi,O⟩
def Zb.law{rs ms sg os w e w'}(h:Zb (NK rs ms 10 sg os) w e w')(y:(Cf rs).1=0)(A:Jw ms rs.length=true)(O:os.length<=60):∃sa b,e=.returned (.slice sa os.length b)/\(∀i o,os[i]?=some o->∃g j l P k f Q z,Pb rs sg os i o sa g j l P k f Q z w')/\Bw w w':=by
 obtain⟨sa,b,L,rfl,hS,d,s⟩:=h;rw[zsy y A O]at d;obtain⟨G,B⟩:=mR (rs:=rs) (ms:=ms) (cp:=10) (sg:=sg) (os:=os) os.length (yA _);have hl:L.length=os.length:=by rw[<-G,<-d,yu]
 refine⟨sa,b,by rw[hl],λi o c=>?_,s⟩;have v:=(yf.1 c).1;have a:=B i o v c;rw[<-d,yE]at a;obtain⟨x,a,hd⟩:=Ye.1 a;obtain⟨g,j,l,k,f,r,m,p,E,t,u,D,C⟩:=hS.stp a;have J:=RJ (cp:=10) (sg:=sg) c;simp only[TS,SJ,Ss.mk.injEq]at hd;obtain⟨H,I,n,q,_⟩:=hd;rw[<-J]at n q;rw[H]at m;rw[I]at p;exact⟨g,j,l,x.P,k,f,x.Q,x.size,r,m,p,E,t,u,D,C,n,q⟩
def X0.law{sg os w e w'}(h:X0 sg os w e w'):∃sa a,e=.returned (.slice sa os.length a)/\(∀i o,os[i]?=some o->∃g,sa=some ⟨g,0,none⟩/\At w' g (i*5) (I6 (Bn (AV 10 sg (os.take i)).1 (AV 10 sg (os.take i)).2 10 sg o).ab)/\At w' g (i*5+1) (I6 (Bn (AV 10 sg (os.take i)).1 (AV 10 sg (os.take i)).2 10 sg o).tag))/\Bw w w':=by
 obtain⟨sa,a,xs,rfl,f,d,c⟩:=h;refine⟨sa,a,rfl,λi o b=>?_,c⟩;obtain⟨O,j⟩:=d.Y i o (yf.1 b).1 b
 grind[Bn,AV,CG]
def NL(d:Od):Wo:=⟨d.1,d.2.1,d.2.2.1,d.2.2.2⟩
def OO.fK{w base a c N}(h:OO w base a c N):Pe w a ((N.map Il.d).map NL):=λi o n=>by
 rw[Yl,yE]at n;obtain⟨x,b,rfl⟩:=Ye.1 n;have key:=λj u(hj:(FH x)[j]?=some u)=>CG h.1 (Hf (cells:=FH) (m:=4) (λ_=>rfl) N i x j u b hj);obtain⟨k,O,_,r,_⟩:=key 0 _ rfl;obtain⟨z,p,_,s,_⟩:=key 1 _ rfl;obtain⟨v,g,_,t,_⟩:=key 2 _ rfl;obtain⟨y,f,_,l,_⟩:=key 3 _ rfl;rw[O]at p g f;cases p;cases g;cases f;obtain⟨⟨sa,q,e⟩,hv,_⟩:=h.2 x (yd b);rw[e]at l hv;exact⟨k,0,sa,q,O,by simpa[NL,Il.d] using r,by simpa[NL,Il.d] using s,by simpa[NL,Il.d] using t,by simpa[NL,Il.d] using l,Cj.owns hv⟩
def OO.fL{w base a c N}(h:OO w base a c N):∀o∈(N.map Il.d).map NL,Hy o:=λo b=>by
 rw[Yl]at b;obtain⟨x,f,rfl⟩:=yv.1 b;obtain⟨k,l,j,g,e,i,m⟩:=h.2 x f;exact⟨Pz (show(-9223372036854775808:Int)<=x.tag by omega) (show x.tag<=9223372036854775807 by omega),yi e qi,by show x.vs.length<=_;omega,g⟩
def xz{rs l}:1<=(Fc rs 24 0 l).length:=by
 rw[Fc,if_pos (.inl rfl)];simp
def OO.fM{w u base a c N}(h:OO w base a c N)(e:∀g,base<=g->g<w.heap.size->u.heap[g]?=w.heap[g]?):OO u base a c N:=⟨Ci h.1 (λg d=>e g (h.1.lt g d).1 (h.1.lt g d).2),λx b=>⟨(h.2 x b).1,Ci (h.2 x b).2.1 (λg d=>e g ((h.2 x b).2.1.lt g d).1 ((h.2 x b).2.1.lt g d).2),(h.2 x b).2.2⟩⟩
def zoC(a B c f O m w)(h:Js w a B)(s:B.length<=1048576)(r:Js w f O)(n:O.length<=1048576)(os)(t:os=(Fc (LA Fy 3 B).1 24 0 O).map NL):Ca 9 #[.slice a B.length c,.slice f O.length m] w λe w'=>∃b i,e=.returned (.slice b os.length i)/\os.length<=24/\(∀u,(∀g,w.heap.size<=g->g<w'.heap.size->u.heap[g]?=w'.heap[g]?)->Pe u b os)/\(∀o∈os,Hy o)/\Bw w w':=
 (zmw a B c f O m w h s r n).j λe w'⟨b,i,N,q,x,l,hd,p⟩=>by
  have k:os=(N.map Il.d).map NL:=by rw[hd.o,t]
  have v:os.length=N.length:=by rw[k,yu,yu]
  refine⟨b,i,by rw[q,v],qd,?_,?_,p⟩<;>rw[k]
  .exactλu hu=>(l.fM hu).fK
  exact l.fL
def zkQ(a B c w)(h:Js w a B)(n:B.length<=1048576)(rs)(g:rs=(LA Fy 3 B).1):Ca 7 #[.slice a B.length c,.int .i64 0] w λe w'=>∃O b nx cp sg,e=.returned (.tuple #[.slice O (List.length rs) b,K_ nx cp sg])/\rs.length<=b/\Ux rs/\Fg none w' O rs/\Bw w w':=
 (sP a B c w h n).j λe w'⟨O,b,M,nx,cp,sg,k,m,l,q,d,hd,i⟩=>by
  have f:rs=M.map Fi.ru:=by rw[hd.o,g]
  have p:rs.length=M.length:=by rw[f,yu]
  refine⟨O,b,nx,cp,sg,by rw[k,p],by have:=d.ch;omega,?_,?_,i⟩<;>rw[f]
  .exact vq d q m l
  exact d.fw
def vr(a B c w)(h:Js w a B):Ca 6 #[.slice a B.length c,I6 1] w λe w'=>∃u:Nat,u<256/\e=.returned (I6 (u:Int))/\w'=w:=by
 by_cases i:B.length=0
 .rw[i];clear h;go_enter func6,ntmps6;go_wp2;go_ret;exact⟨0,qd,rfl,rfl⟩
 obtain⟨n,O⟩:=AF B.length;rw[<-O]at i⊢;obtain⟨k,d⟩:=AF (1%n);have m:k<n:=by rw[d];exact Wx _ qd
 obtain⟨x,g⟩:=Bq (show k<B.length by omega);obtain⟨b,o,rfl,q,j⟩:=h k x g;have hu:x.toNat<256:=x.toNat_lt;obtain⟨u,f⟩:=AF x.toNat;rw[<-f]at j hu;have l:(1:Int)%(n:Int)=(k:Int):=by rw[d];push_cast;rfl
 have s:(1:Int).tmod (n:Int)=(k:Int):=by rw[WW qd];exact l
 obtain⟨p,t⟩:=CZ m;have r:¬(n:Int)=0:=qd;clear d h g f O;go_enter func6,ntmps6;go_wp2;go_ret;exact⟨u,hu,rfl,rfl⟩
def Iw.dV{w w' d base a f c e L M}(h:Iw w d base a c L)(i:∀x∈M,Hi w base x)(ho:w'.ownsRow d 45 2 (.slice f (L.length+M.length) e) (L.length+M.length) (L.flatMap Ef++M.flatMap Ef))(j:w.grownBy w' (Value.slice a L.length c).ownBlock):Iw w' d base f e (L++M):=by
 refine⟨Qm,λy b=>?_⟩;have O:Hi w base y:=by
  rcases yp.1 b with b|b
  .exact h.all y b
  exact i y b
 exact O.grown j (λk g=>A7 h.row g) qi
def Iw.ak{w f base a c L}(h:Iw w f base a c L):(a=none->L.length=0)/\(∀b,a=some b->∀j u,(L.flatMap Ef)[j]?=some u->w.cell? (b.add j)=some u)/\(∀u∈L.flatMap Ef,u.oneCell'=true)/\(L.flatMap Ef).length=L.length*2:=by
 refine⟨λe=>?_,λb e j u hu=>?_,λu hu=>?_,?_⟩
 .subst e;cases L with
  |nil=>rfl
  |cons x L=>
   obtain⟨k,e,_⟩:=h.get (i:=0) (x:=x) rfl;cases e
 .obtain⟨g,O,_,hc,_⟩:=CG h.row hu;rw[e]at O;cases O;exact ti
 .obtain⟨x,d,hu⟩:=Yq.1 hu;exact iD (h.all x d) u hu
 induction L with
 |nil=>rfl
 |cons x L ih=>simp[Ef,yX]at *;clear h ih;induction L with
  |nil=>rfl
  |cons y L ih=>simp[Ef,yX]at *;omega
def VG(M:Bj){f base i}(n)(g:M.length=n)(x:It)(a b O c w)(j:Iw w f base a b M)(d:Hi w i (x,.slice O x.G.length c))(hl:n<=1048576)(k:x.G.length<=6):Ca 15 #[.slice a n b,.agg #[.int .i64 x.T,.slice O x.G.length c]] w λe w'=>e=.returned (.bool (D_ x (M.map Prod.fst)))/\Bw w w':=by
 subst g;have h:=zl9 (M.map Prod.fst) x a O b c w j.at (CJ.owns d.ot) NB qd
 grind
def zkM(M f:Bj){j base k O}(e:M.map Prod.fst=f.map Prod.fst)(a c b d w)(h:Iw w j base a c M)(i:Iw w k O b d f)(hl:M.length<=1048576)(l:∀x∈M.map Prod.fst,x.G.length<=6):Ca 16 #[.slice a M.length c,.slice b f.length d] w λe w'=>e=.returned (.bool true)/\Bw w w':=by
 have q:=zjQ (M.map Prod.fst) a b c d w h.at (by rw[e];exact i.at) (by rw[yu];omega) (λx g=>by have:=l x g;omega)
 grind
def kU{rs sg i}{os:BM}{M:Bj}(e:M.map Prod.fst=IJ rs sg os i)(a:(Cf rs).1=0):M.length<=1024000/\∀y∈M,y.1.G.length<=6:=by
 obtain⟨b,c,_⟩:=X3 (sg:=sg) (os:=os) a i
 grind
def kr{A B}{M:Bj}(e:M.map Prod.fst=JD A B)(h:A.length<=1024000/\(∀y∈A,y.G.length<=6)/\A.Nodup):M.length<=1024000/\∀y∈M,y.1.G.length<=6:=by
 refine⟨?_,λy b=>?_⟩
 .have a:=congrArg List.length e;rw[yu]at a;have c:(JD A B).length<=A.length:=Yi _ _;have:=h.1;omega
 have a:=yS (f:=Prod.fst) b;rw[e]at a;exact h.2.1 _ (Ow.1 a).1
structure vk(rs:Az) (sg:Bool) (os:BM) (i:Nat) (M P Q:Bj):Prop where
 lM:M.length<=1024000/\∀y∈M,y.1.G.length<=6
 lP:P.length<=1024000/\∀y∈P,y.1.G.length<=6
 lQ:Q.length<=1024000/\∀y∈Q,y.1.G.length<=6
 drop:∀y∈Q,D_ y.1 (M.map Prod.fst)=true
 add:∀y∈P,D_ y.1 (M.map Prod.fst)=false
 next:∀L:Bj,L.map Prod.fst=(M.map Prod.fst).filter (λx=>!D_ x (Q.map Prod.fst))->∀M':Bj,M'.map Prod.fst=IJ rs sg os (i+1)->L.length+P.length=M'.length/\∀y∈M',D_ y.1 ((L++P).map Prod.fst)=true
def Pb.law{rs sg os i o sa g p r P l m Q z w}{M:Bj}(h:Pb rs sg os i o sa g p r P l m Q z w)(e:M.map Prod.fst=IJ rs sg os i)(b:(Cf rs).1=0):vk rs sg os i M P Q:=by
 have c:=X3 (sg:=sg) (os:=os) b i;have d:=X3 (sg:=sg) (os:=os) b (i+1);refine⟨kU e b,kr h.eP d,kr h.eQ c,λy a=>?_,λy a=>?_,λL n s O=>?_⟩
 .have q:=yS (f:=Prod.fst) a;rw[h.eQ]at q;rw[e];exact Vl.2 (Ow.1 q).1
 .have q:=yS (f:=Prod.fst) a;rw[h.eP]at q;rw[e];exact wV (Ow.1 q).2
 have q:(L++P).map Prod.fst=LZ (IJ rs sg os i) (IJ rs sg os (i+1)):=by
  rw[yz,n,e,h.eQ,h.eP];rfl
 constructor
 .have j:=congrArg List.length q;have k:=congrArg List.length O;rw[zt c.2.2 d.2.2,<-k]at j;simpa using j
 intro y a;rw[q];refine Vl.2 (mF.2 ?_);rw[<-O];exact yS a
def zpI{P:Aa->Prop}{w:Aa}(h:∀wt,Bw w wt->P wt):P w.drew:=h _ Au.drew
structure jn(w8 w13:Aa) (sb b9:Nat) (rs:Az) (sg:Bool) (os:BM) (k:Nat) (fa:Af) (fc:Nat) (ma:Af) (mc:Nat) (M:Bj) (wr:Aa):Prop where
 box:Bk wr sb #[.slice fa (AV 10 sg (os.take k)).1.length fc,I6 (AV 10 sg (os.take k)).2,I6 10,.bool sg] 27
 cz:DN (λb=>b≠sb) wr fa (AV 10 sg (os.take k)).1
 ch:(AV 10 sg (os.take k)).1.length<=fc
 set:Iw wr b9 b9 ma mc M
 eq:M.map Prod.fst=IJ rs sg os k
 C:Bw w8 wr
 sz:w13.heap.size<=wr.heap.size
 kp:∀g,g<w13.heap.size->g≠sb->wr.heap[g]?=w13.heap[g]?
def nl{rs fs}(h:DZ rs fs=true):XS rs fs=Dy fs 0 rs:=if_pos h
def zmh{α β:Type}{f:α->β}{p:β->Bool}{M:List α}{j y}(a:M[j]?=some y):((M.map f).take (j+1)).filter p=((M.map f).take j).filter p++(if p (f y) then [f y] else []):=by
 rw[Yc,yE,a,yV];congr 1
 cases b:p (f y)<;>simp[b]
def Xb{P:Prop}(h:P:=by exact⟨0,rfl,yn _,Au⟩):P:=h
def iz{P:Prop}(h:P:=by
 rw[ay.o]at am;have BY:=Ad (BK.thn af);clear k0 k1 af ao aq ay ar;go_wp2_with fail;refine am.rtn λwz ah=>?_;have BZ:=Ad (BY.thn ah);clear b0 b1 ah am;go_wp2;exact⟨⟨j+1,by go_num,by omega,BZ⟩,by simp[intOf];omega⟩
 ):P:=h
def xP(a B c a2 C2 c2 w)(h:Js w a B)(Z:Js w a2 C2) :
  Ca 3 #[.slice a B.length c,.slice a2 C2.length c2] w λe w'=>e=.returned (.bool true)/\Bw w w':=by
 obtain⟨HB,bX⟩:=An h Z;clear h Z;by_cases hn:(1048576:Int)<(B.length:Int)
 .go_enter func3,ntmps3;go_wp2;go_ret;exact⟨rfl,Au⟩
 by_cases en:(1048576:Int)<(C2.length:Int)
 .go_enter func3,ntmps3;go_wp2;go_ret;exact⟨rfl,Au⟩
 have cr:B.length<=1048576:=qd;have bG:C2.length<=1048576:=qd;obtain⟨rs,dK⟩:=AF ((LA Fy 3 B).1);obtain⟨os,bW⟩:=AF ((Fc (LA Fy 3 B).1 24 0 C2).map NL);have eS:1<=os.length:=by rw[bW,yu];exact xz
 obtain⟨HW,HO,dL⟩:=AK (λ(u:Aa)(A:Bw w u)=>zkQ a B c u (HB.e A) cr rs dK) (λ(u:Aa)(A:Bw w u)=>zoC a B c a2 C2 c2 u (HB.e A) cr (bX.e A) bG os bW) (vr a2 C2 c2 w bX);clear dK bW HB bX cr bG;go_enter func3,ntmps3;go_wp2_with fail;refine dL.j ?_;rintro e w0 ⟨u,hu,rfl,rfl⟩;go_upto_region 4 with fail;obtain⟨sg,cS⟩:=AF (((u:Int)%2==1));rw[<-cS];clear cS hu dL;go_wp2
 go_loopw [6] (λkv wr=>∃k:Nat,kv=I6 (k:Int)/\k<=3/\Bw w0 wr) (λkv _=>3-(intOf kv).toNat)
 .exact Xb
 obtain⟨k,rfl,eF,A⟩:=hrel;have BR:=Ad A;clear A;by_cases hk:k<3
 .have ep:(k:Int)<3:=qd;go_wp2_with fail;refine(HW wr BR).j ?_;rintro e w1 ⟨ra,rc,et,al,eJ,rfl,bq,ag,a4,cA⟩;obtain⟨d,aS,B1⟩:=AK ag a4 (BR.thn cA);have h8:rs.length<=8:=ag.len.2;clear ag a4 cA BR;unfold K_;go_upto_region 8 with fail;refine BF ?_;intro w2 ci _;obtain⟨B2,a7⟩:=An (B1.thn ci) (aS.e ci);clear ci B1 aS;have R:=Ad (show(Cf rs).1=0 by rw[d.o.fN])
  go_cut [9] (λmv K=>∃(ms:As)(ma:Af)(mc:Nat),mv=.slice ma ms.length mc/\Jw ms rs.length=true/\CJ none K ma ms/\Bw w2 K)
  .have HM:=Ad (λ(h:Nat)(hh:h=0∨h=1∨h=3)(u:Aa)(A:Bw w2 u)=>zoz h hh rs ra rc u (a7.e A) qd (λv hv=>by
    exact sK ra rc rs v (a7.e (A.thn hv)) bq d.le d.cV d.fN))
   have cJ:k=0∨k=1∨k=2:=qd;rcases cJ with rfl|rfl|rfl
   focus
    go_wp2_with fail;refine(HM 0 (.inl rfl) _ Ar).j ?_
   rotate_left
   focus
    go_wp2_with fail;refine(HM 1 (.inr (.inl rfl)) _ Ar).j ?_
   rotate_left
   focus
    go_wp2_with fail;refine(HM 3 (.inr (.inr rfl)) _ Ar).j ?_
   rotate_left
   all_goals
    rintro e w3 ⟨⟨ms,ma,mc,bl,rfl,dy⟩,cD⟩;obtain⟨B3,ee⟩:=An (Ar.thn cD) (CJ.owns dy);clear dy cD HM;go_wp2;go_meet;exact⟨ms,ma,mc,rfl,bl,ee,B3⟩
  obtain⟨ms,dY,ef,rfl,bl,cQ,cy⟩:=hcut;obtain⟨w3,rfl⟩:=AF wc;obtain⟨dg,cv,b6,B3⟩:=BP cQ bl (a7.e cy) (B2.thn cy);clear cQ bl cy a7 B2;go_wp2_with fail;refine(HO w3 B3).j ?_;rintro e w4 ⟨oa,oc,rfl,eO,ax,aL,a0⟩;obtain⟨cg,dA,dk,B4⟩:=BP aL ((zoK rs ms 10 sg os ra rc dY ef oa oc w4 (b6.e a0) bq d.le d.cV d.bI (dg.e a0) (ax w4 λ_ _ _=>rfl) aL R cv qi qi qd).j λe w' q=>q.law R cv qd) (b6.e a0) (B3.thn a0);clear ax aL a0 b6 B3 dg;go_wp2_with fail;refine dA.j ?_;rintro e w5 ⟨sa,sc,rfl,aM,bT⟩;obtain⟨cX,cR,B5⟩:=AK aM (dk.e bT) (B4.thn bT);clear aM bT dk B4 dA cv;go_wp2_with fail;refine(HW w5 B5).j ?_;rintro e w6 ⟨rb,bm,ap,eM,er,rfl,a5,_,a4,cE⟩;obtain⟨aS,BX⟩:=An a4 cE;clear a4 cE;unfold K_;go_upto_region 12 with fail;refine BF ?_;intro w7 cf _;obtain⟨dw,bw⟩:=An (BX.thn cf) (aS.e cf);clear cf BX aS;go_wp2_with fail;refine(ztG rs rb bm w7 bw qd (λv hv=>iM rs rb bm v (bw.e hv) a5 d.le d.cV R) R).j ?_;rintro e w8 ⟨⟨za,zc,rfl,ds⟩,b4⟩;obtain⟨cI,cu,ce⟩:=AK (CJ.owns ds) (dw.thn b4) (bw.e b4);clear ds b4 dw bw;go_wp2_with fail;refine(HO w8 (B5.thn cu)).j ?_;rintro e w9 ⟨dT,d4,rfl,_,ax,aL,a6⟩;obtain⟨dO,bd,dE⟩:=AK ((zmY rs (Lp rs.length) sg os rb bm za zc dT d4 w9 (ce.e a6) a5 d.le d.cV (cI.e a6) (ax w9 λ_ _ _=>rfl) aL R (by simp[Lp]) (λm hm=>(List.mem_replicate.1 hm).2) qd).j λe w' q=>q.law) (cu.thn a6) (ce.e a6);clear ax aL a6 cu ce cI;go_wp2_with fail;refine dO.j ?_;rintro e aC ⟨ta,tc,rfl,df,aw⟩;have ed:=Ad df;have co:=Ad (λi o ho=>by
   obtain⟨g,aa,ac,P,da,dc,Q,z,hS⟩:=cX i o ho;exact⟨g,aa,ac,P,da,dc,Q,z,hS.e (bd.thn aw)⟩:∀i o,os[i]?=some o->∃g aa ac P da dc Q z,Pb rs sg os i o sa g aa ac P da dc Q z aC)
  obtain⟨bz,dD,cj⟩:=AK (cR.e (bd.thn aw)) (dE.e aw) (B5.thn (bd.thn aw));have dm:((os.length:Int)==0)=false:=beq_eq_false_iff_ne.2 qd;clear df aw cX cR dE B5 bd dO;go_upto_region 16 with fail;refine BF ?_;intro aB bC aI;obtain⟨sb,cP⟩:=AF aC.heap.size;rw[<-cP]at aI⊢;obtain⟨bM,bh⟩:=An aI bC;have b8:aC.heap.size<=sb:=qd;have cm:sb<aB.heap.size:=Ap aI;clear bC aI cP dm;go_wp2_with fail;refine(sB rs [] ra rc none 0 aB (bz.e bh) bq d.le d.cV d.bI (λi f hf=>JK) qf (λf hf=>JK) ((Nf (cp:=10) (sg:=sg) qi qi [] 0).dv R)).j ?_;rintro e dj ⟨⟨ma,mc,M,rfl,hI,hm,dZ⟩,bE⟩;obtain⟨HI,aR,br⟩:=AK hI (show M.map Prod.fst=IJ rs sg os 0 from hm.c (nl (fs:=[]) ((Nf (cp:=10) (sg:=sg) qi qi [] 0).dv R))) bE;clear hI hm bE dZ;go_wp2_with fail;refine(HO dj (cj.thn (bh.thn br))).j ?_;rintro e D ⟨eE,eB,rfl,_,ax,_,aZ⟩;obtain⟨ec,bj⟩:=An ax (br.thn aZ);have bB:=Ad (show jn aC D sb aB.heap.size rs sg os 0 none 0 ma mc M D from⟨(bj.block _ cm).c bM,λi f hf=>JK,yA _,HI.C aZ,aR,bh.thn bj,yA _,λ_ _ _=>rfl⟩);have ei:aB.heap.size<=dj.heap.size:=br.size;have eh:aB.heap.size<=D.heap.size:=bj.size;have eu:=Ad (cj.thn (bh.thn bj));clear ax aZ HI aR br bM;go_wp2
  go_loopw [16,95] (λsv iv wr=>∃(i:Nat)(fa:Af)(fc:Nat)(ma:Af)(mc:Nat)(M:Bj),iv=I6 (i:Int)/\sv=.slice ma M.length mc/\i<=os.length/\jn aC D sb aB.heap.size rs sg os i fa fc ma mc M wr) (λ_ iv _=>os.length-(intOf iv).toNat)
  .exact⟨0,none,0,ma,mc,M,rfl,rfl,yn _,bB⟩
  clear bB;obtain⟨i,fa,fc,ma,mc,M,rfl,rfl,eI,cW⟩:=hrel;have E:=Ad cW;clear cW;by_cases hi:i<os.length
  .obtain⟨o,ho⟩:=Bq hi;have aY:=Nf (cp:=10) (sg:=sg) qi qi os i;have aV:=U9 (cp:=10) (sg:=sg) qi qi cg i;obtain⟨g,aa,ac,P,da,dc,Q,z,hS⟩:=co i o ho;obtain⟨SO,IP,IQ⟩:=AK (hS.law E.eq R) hS.iP hS.iQ;obtain⟨g',eb,d0,d1⟩:=ed i o ho;obtain⟨ob,op,d7,dX,dW,o0,o1,o2,o3,dl⟩:=ec wr (λg h1 Z=>E.kp g Z qd) i o ho;have aA:=hS.e E.C;have p0:=aA.c0;have p1:=aA.c1;have p2:=aA.c2;have p3:=aA.c3;have p4:=aA.c4;have d9:=aA.ad;have q0:=zab E.C d0;have q1:=zab E.C d1;obtain⟨dd,bQ,dC⟩:=AK (cg o (yd ho)) (RJ (cp:=10) (sg:=sg) ho) dl;subst d9 eb dW;obtain⟨cd,dz⟩:=AF ((Bn (AV 10 sg (os.take i)).1 (AV 10 sg (os.take i)).2 10 sg o).ab);obtain⟨tg,cT⟩:=AF ((Bn (AV 10 sg (os.take i)).1 (AV 10 sg (os.take i)).2 10 sg o).tag);rw[<-dz]at p0 q0;rw[<-cT]at p1 q1;obtain⟨fs,bf⟩:=AF ((AV 10 sg (os.take i)).1);obtain⟨nx,ae⟩:=AF ((AV 10 sg (os.take i)).2);have aU:=E.box;have aW:=E.cz;have aT:=E.ch;rw[<-bf,<-ae]at aU aY;rw[<-bf]at aW aT aV;rw[<-bf,<-ae]at bQ;obtain⟨HV,du,HBX,dq,BR,cw,dG⟩:=LG aY (λf hf=>(aV f hf).2) aU aW E.C E.set E.kp;have cZ:=E.sz;have cC:fs.length<=40:=by have:=aY.len;have:=aY.aQ;omega
   obtain⟨z0,z1⟩:=CZ hi;clear aY aV aU aW bf ae E hS aA d0 d1 dl ho dz cT;go_upto_region 20 with fail;refine BF ?_;intro wa aD bP;obtain⟨eK,bI⟩:=AF wr.heap.size;rw[<-bI]at bP⊢;have r0:=zab aD p0;have r1:=zab aD p1;have r2:=zab aD p2;have r3:=zab aD p3;have r4:=zab aD p4;obtain⟨QA,WA⟩:=An bP aD;clear p0 p1 p2 p3 p4 o0 o1 o2 o3 aD bP bI;go_upto_region 21 with fail;refine BF ?_;intro wb ch bt;obtain⟨stb,bH⟩:=AF wa.heap.size;rw[<-bH]at bt⊢;have dV:=WA.size;have bD:=Ap HBX;have ej:sb<stb:=qd;obtain⟨QB,WB⟩:=An bt (WA.thn ch);have u0:=zab WB q0;have u1:=zab WB q1;obtain⟨t0,t1,t2,t3,t4⟩:=Fq bt;have bY:=Ad ((ch.block _ (Ap QA)).c QA);clear r0 r1 r2 r3 r4 q0 q1 ch bt QA WA bH;go_wp2;go_region;refine zpI ?_;intro wd bu;have WD:=Ad (WB.thn bu);have bg:=(WD.block _ bD).c HBX;have dF:=Ad bg;obtain⟨s0,s1,s2,s3⟩:=AX bg;obtain⟨y0,y1,y2,y3⟩:=AX ((bu.block _ (Ap bY)).c bY);have QD:=Ad ((bu.block _ (Ap QB)).c QB);have bA:sb<wd.heap.size:=Ap bg;have bF:stb<wd.heap.size:=Ap QD;clear bu bg t0 t1 t2 t3 t4 u0 u1 bY QB WB;go_wp2_with fail;refine(zrm o dd (λb=>b≠sb) fa fc fs nx 10 sg d7 dX wd (dq.kept λg _ H=>WD.block g H) aT (dC.e WD) qd du).j ?_;rintro e we ⟨bn,bi,r,hr,rfl,dB,cL,bp⟩;have hN:=zth o HV;simp only[<-hr]at hN;obtain⟨c8,dh,dM⟩:=hN;have aM:AV 10 sg (os.take (i+1))=(r.fs,r.nx):=by rw[bQ.o,c8]
   rw[dh,dM];have aN:=Ad aM;have aK:=Nf (cp:=10) (sg:=sg) qi qi os (i+1);have hS1:=U9 (cp:=10) (sg:=sg) qi qi cg (i+1);rw[aM]at aK hS1;dsimp only at aK hS1;obtain⟨dI,bV,bL⟩:=AK aK (λf hf=>(hS1 f hf).2) (DN.j dB (Z':=λb=>b≠sb) λb A=>by rcases A with A|A;exact A;show b≠sb;omega);have d5:r.fs.length<=40:=by have:=aK.len;have:=aK.aQ;omega
   have aH:=(bp.block _ bA).c dF;obtain⟨dS,WE,QE⟩:=AK aH (WD.thn bp) ((bp.block _ bF).c QD);obtain⟨t0,t1,t2,t3⟩:=AX aH;have fz:∀j,we.frozen? ⟨sb,j,none⟩=false:=λj=>by simp[World.frozen?,aH]
   have z4:=fz 0;have z5:=fz 1;have z6:=fz 2;have z7:=fz 3;clear hr c8 dh dM aM aK hS1 dB bp fz aH s0 s1 s2 s3 y0 y1 y2 y3 dF dC dq bQ du HV aT dd WD QD;go_upto_region 24 with fail;refine Vv dS ?_;intro U dQ az;obtain⟨FC,WF,aJ⟩:=AK (bL.kept (w':=U) λg H _=>az.block g H) (show Bw aC U from(BR.thn WE).c (az.e b8)) ((cw.C WE).kept (w':=U) λg H=>az.block g (by have:=(cw.range H).1;omega));obtain⟨b5,bO,QF,aP,ea⟩:=Ei (IP.C WF) (IQ.C WF) ((az.block stb qd).c QE) dQ (λg(h1:g<D.heap.size)(Z:g≠sb)=>(az.block g Z).c ((WE.block g qd).c (dG g h1 Z)));have el:D.heap.size<=U.heap.size:=by have:=WE.size;have:=az.size;omega
   obtain⟨gs,bS⟩:=AF r.fs;obtain⟨eg,bK⟩:=AF r.nx;rw[<-bS,<-bK]at aN dI aP;rw[<-bS]at bV FC d5 cL;have T:=Ad (Fq QF);clear dQ az t0 t1 t2 t3 z4 z5 z6 z7 dS bL WE cw IP IQ QE dG bS bK BR bA bF bD dV cZ cC;obtain⟨eT,eo,eH⟩:M.length<=1024000/\P.length<=1024000/\Q.length<=1024000:=⟨SO.lM.1,SO.lP.1,SO.lQ.1⟩
   go_wp2
   go_loopw [20,127] (λnv iv K=>∃(j:Nat)(na:Af)(nc:Nat)(L:Bj),iv=I6 (j:Int)/\nv=.slice na L.length nc/\j<=M.length/\L.length<=j/\Iw K U.heap.size 0 na nc L/\L.map Prod.fst=((M.map Prod.fst).take j).filter (λx=>!D_ x (Q.map Prod.fst))/\Bw U K) (λ_ iv _=>M.length-(intOf iv).toNat)
   .exact⟨0,none,0,[],rfl,rfl,yn _,yn _,Iw.nil _ _ _,rfl,Au⟩
   obtain⟨j,na,nc,L,rfl,rfl,eU,eL,dJ,cK,t⟩:=hrel;obtain⟨NX,bc,BJ⟩:=AK dJ cK t;have d6:=t.size;clear dJ cK t;by_cases hj:j<M.length
   .obtain⟨⟨x,v⟩,n⟩:=Bq hj;have O:=yd n;have s:=aJ.C BJ;obtain⟨kb,aF,_,cz,k0,k1,_⟩:=s.get n;obtain⟨ya,W,J⟩:=(s.all _ O).ts;simp only at J k0 k1;subst J aF;obtain⟨aq,dx⟩:=An (s.all _ O) (zmh (f:=Prod.fst) (p:=λx=>!D_ x (Q.map Prod.fst)) n);have aE:x.G.length<=6:=SO.lM.2 _ O;obtain⟨v0,v1⟩:=CZ hj;clear n O s;go_upto_region 28 with fail;refine BF ?_;intro wy af ao;obtain⟨xb,ar⟩:=AF wr.heap.size;rw[<-ar]at ao⊢;obtain⟨b0,b1⟩:=AE ao;have BY:=Ad (BJ.thn af);have t3:=zab BY T.2.2.2.1;obtain⟨am,bv,bR⟩:=AK (VG Q Q.length rfl x da dc ya W wy (bO.C BY) (aq.C af) qd aE) (NX.C af) (aq.C af);clear k0 k1 af ao NX aq ar
    cases hd:D_ x (Q.map Prod.fst)
    .rw[hd]at am;go_wp2_with fail;refine am.rtn λwz ah=>?_;have ey:=zab ah b0;have ew:=zab ah b1;obtain⟨BZ,aX,cG,HA⟩:=BP (BY.thn ah) (bv.C ah) (bR.C ah) (λo=>Au.alloc Bg o:∀o,Bw wz (wz.alloc o));have an:=BZ.size;clear b0 b1 ah bv bR am;go_wp2_with (first|(at_builtin;refine Dp qh (.tmp 136) (.tmp 138) 36 qh U.heap.size 45 _ 2 32 underlying36 Nc qh qd _ L.length _ qh (AZ aX.row (HA _)) (some ⟨_,0,none⟩) 1 1 qh (Ef (x,.slice ya x.G.length W)) qh (λe=>qo) (CH _ _ _ _ qf) (iD cG) qj qd qe ?_;intro a9 c9 w9 a8 aO cF)|fail);exact⟨⟨j+1,a9,c9,L++[(x,.slice ya x.G.length W)],qm,qf,qd,qe,(aX.o.C (HA.o _)).snoc ((cG.o.lower (yn _)).C (HA.o _)) a8.o aO.o,by rw[yz,bc.o,dx.o];simp[hd],(BZ.o.thn (HA.o _)).grown aO.o (yi BZ.o.size (HA.o _).size) (λg H=>(aX.o.row.lt g H).1)⟩,qp⟩
    rw[hd]at am;go_wp2_with fail;refine am.rtn λwz ah=>?_;obtain⟨BZ,aX⟩:=An (BY.thn ah) (bv.C ah);clear b0 b1 ah bv bR am;go_wp2;exact⟨⟨j+1,na,nc,L,qm,rfl,qd,qd,aX,by rw[bc.o,dx.o];simp[hd],BZ⟩,qp⟩
   obtain rfl:j=M.length:=qd;have eN:¬(M.length:Int)<(M.length:Int):=qd;obtain⟨wg,dH⟩:=AF wr;rw[<-dH]at NX BJ d6⊢;have cM:=Ad (show L.map Prod.fst=(M.map Prod.fst).filter (λx=>!D_ x (Q.map Prod.fst)) by rw[bc.o,yR qf]);have t3:=zab BJ T.2.2.2.1;clear dH bc;go_wp2
   go_loopw [144] (λiv K=>∃j:Nat,iv=I6 (j:Int)/\j<=Q.length/\Bw wg K) (λiv _=>Q.length-(intOf iv).toNat)
   .exact Xb
   clear t3;obtain⟨j,rfl,ez,t⟩:=hrel;obtain⟨BK,BQ⟩:=An t (BJ.thn t);clear t;by_cases hj:j<Q.length
   .obtain⟨⟨x,v⟩,n⟩:=Bq hj;have O:=yd n;have s:=bO.C BQ;obtain⟨kb,aF,_,cz,k0,k1,_⟩:=s.get n;obtain⟨ya,W,J⟩:=(s.all _ O).ts;simp only at J k0 k1;subst J aF;have aq:=Ad (s.all _ O);have aE:x.G.length<=6:=SO.lQ.2 _ O;have ay:=Ad (SO.drop _ O);obtain⟨v0,v1⟩:=CZ hj;clear n O s;go_upto_region 34 with fail;refine BF ?_;intro wy af ao;obtain⟨xb,ar⟩:=AF wr.heap.size;rw[<-ar]at ao⊢;obtain⟨b0,b1⟩:=AE ao;have am:=Ad (VG M M.length rfl x ma mc ya W wy (aJ.C (BQ.thn af)) (aq.C af) qd aE);exact iz
   obtain rfl:j=Q.length:=qd;have eR:¬(Q.length:Int)<(Q.length:Int):=qd;obtain⟨wh,de⟩:=AF wr;rw[<-de]at BK BQ⊢;have t2:=zab BQ T.2.2.1;have dP:=Ad (NX.C BK);clear de NX BK BJ;go_wp2
   go_loopw [156] (λiv K=>∃j:Nat,iv=I6 (j:Int)/\j<=P.length/\Bw wh K) (λiv _=>P.length-(intOf iv).toNat)
   .exact Xb
   clear t2;obtain⟨j,rfl,eC,t⟩:=hrel;obtain⟨BK,Y⟩:=An t (BQ.thn t);clear t;by_cases hj:j<P.length
   .obtain⟨⟨x,v⟩,n⟩:=Bq hj;have O:=yd n;have s:=b5.C Y;obtain⟨kb,aF,_,cz,k0,k1,_⟩:=s.get n;obtain⟨ya,W,J⟩:=(s.all _ O).ts;simp only at J k0 k1;subst J aF;have aq:=Ad (s.all _ O);have aE:x.G.length<=6:=SO.lP.2 _ O;have ay:=Ad (SO.add _ O);obtain⟨v0,v1⟩:=CZ hj;clear n O s;go_upto_region 40 with fail;refine BF ?_;intro wy af ao;obtain⟨xb,ar⟩:=AF wr.heap.size;rw[<-ar]at ao⊢;obtain⟨b0,b1⟩:=AE ao;have am:=Ad (VG M M.length rfl x ma mc ya W wy (aJ.C (Y.thn af)) (aq.C af) qd aE);exact iz
   obtain rfl:j=P.length:=qd;have eV:¬(P.length:Int)<(P.length:Int):=qd;obtain⟨wi,cY⟩:=AF wr;rw[<-cY]at BK Y⊢;have t2:=zab Y T.2.2.1;obtain⟨bo,b7⟩:=An (dP.C BK) (b5.C Y);have aQ:=Ad b7.ak;have eD:=Y.size;clear cY dP BK BQ;go_upto_region 44 with(first|(at_builtin;refine Dp qh (.tmp 164) (.tmp 166) 36 qh U.heap.size 45 _ 2 32 underlying36 Nc qh qd _ L.length _ qh bo.row aa P.length ac qh (P.flatMap Ef) aQ.2.2.2 aQ.1 aQ.2.1 aQ.2.2.1 qj qd qd ?_;intro a9 c9 w9 a8 aO cF)|fail);obtain⟨W9,d8⟩:=An (show Bw U w9 from Y.grown aO Y.size (λg H=>(bo.row.lt g H).1)) (bo.dV (λx hx=>b7.all x hx) a8 aO);have cN:=(W9.block _ (Ap aP)).c aP;obtain⟨s0,s1,s2,s3⟩:=AX cN;have eG:=W9.size;obtain⟨bU,dr⟩:=An (dI.dv R) ((FC.kept λg _ H=>W9.block g H).at);clear cN t2 bo b7 aQ a8 aO cF Y b5 bO aJ QF T;go_wp2_with fail;refine(sB rs gs ra rc bn bi w9 (bz.e (WF.thn W9)) bq d.le d.cV d.bI dr qd bV bU).j ?_;rintro e wj ⟨⟨cn,cq,I,rfl,dR,cH,_⟩,t⟩;have aG:I.map Prod.fst=IJ rs sg os (i+1):=by rw[cH,nl bU.o,IJ,aN.o]
   obtain⟨N,bJ⟩:=SO.next L cM I aG;rw[N];obtain⟨aR,cB,cO⟩:=AK aG bJ N;obtain⟨eA,cU⟩:=kU aG R;obtain⟨dp,bN,WJ⟩:=AK cU dR t;have e0:=zab t s0;clear dR cH t aG N bJ cU s0 s1 s2 s3 cM SO;go_wp2_with fail;refine(zjH rs gs rb bm bn bi wj (dD.e (WF.thn (W9.thn WJ))) a5 d.le d.cV (dr.e WJ) qd bV bU).j ?_;rintro e wk ⟨⟨qa,qc,M2,rfl,dN,dt⟩,bk⟩;have di:=Ad (zkM I M2 (by rw[aR.o,dt,IJ,aN.o]) cn cq qa qc wk (bN.C bk) dN qd (λx hx=>by
    obtain⟨y,n,rfl⟩:=yv.1 hx;exact dp y n))
   obtain⟨WK,dv⟩:=An (WJ.thn bk) (bN.C bk);clear dN dt bk e0;go_wp2_with fail;refine di.rtn λwl bZ=>?_;obtain⟨WL,cV⟩:=An (WK.thn bZ) (dv.C bZ);clear bZ di dv bN WK WJ;go_wp2
   go_loopw [188] (λiv K=>∃j:Nat,iv=I6 (j:Int)/\j<=I.length/\Bw wl K) (λiv _=>I.length-(intOf iv).toNat)
   .exact Xb
   obtain⟨j,rfl,ek,t⟩:=hrel;have BK:=Ad t;clear t;by_cases hj:j<I.length
   .obtain⟨⟨x,v⟩,n⟩:=Bq hj;have O:=yd n;have s:=cV.C BK;obtain⟨kb,aF,_,cz,k0,k1,_⟩:=s.get n;obtain⟨ya,W,J⟩:=(s.all _ O).ts;simp only at J k0 k1;subst J aF;have aq:=Ad (s.all _ O);have aE:x.G.length<=6:=dp _ O;have ay:=Ad (cB _ O);obtain⟨v0,v1⟩:=CZ hj;clear n O s;go_upto_region 50 with fail;refine BF ?_;intro wy af ao;obtain⟨xb,ar⟩:=AF wr.heap.size;rw[<-ar]at ao⊢;obtain⟨b0,b1⟩:=AE ao;have am:=Ad (VG (L++P) I.length (by rw[yM];exact cO) x a9 c9 ya W wy (d8.C (WL.thn (BK.thn af))) (aq.C af) qd aE);exact iz
   obtain rfl:j=I.length:=qd;have em:¬(I.length:Int)<(I.length:Int):=qd;have BZ:=Ad (W9.thn (WL.thn BK));have dU:=Ad (show jn aC D sb aB.heap.size rs sg os (i+1) bn bi cn cq I wr from⟨by rw[aN.o];exact(BZ.block _ (Ap aP)).c aP,by rw[aN.o];exact FC.kept λg _ H=>BZ.block g H,by rw[aN.o];exact cL,(cV.C BK).lower qd qd,aR,WF.thn BZ,by have:=BZ.size;omega,λg h1 Z=>(BZ.block g qd).c (ea g h1 Z)⟩);go_wp2;exact⟨⟨i+1,bn,bi,cn,cq,I,qm,rfl,qd,dU⟩,qp⟩
  obtain rfl:i=os.length:=qd;have n:¬(os.length:Int)<(os.length:Int):=qd;have BE:=Ad (cj.thn E.C);go_wp2;exact⟨⟨k+1,qm,qd,BE⟩,qp⟩
 obtain rfl:k=3:=qd;go_wp2;go_ret;exact⟨rfl,BR⟩
open Go.ChangeShapes Go.WideShapes Go.ChangeAt Go.Joins
open Go.ChangeMaps (open_string shut_string)
def zri(os:Os)(af:os.Started)(H:Type)(enc:TypeId × Value->H) :
  ReturnsInHanded {} checked os 3 .any (Rows.fnFollowSpec.pre6 enc prog Tryz.f3 Rows.fnFollowRow.domain false) (Rows.fnFollowSpec.post enc prog Tryz.f3 false true false false):=by
 refine returnsInHanded_of_change (C:=checked) j6 af qg func3
  (ChangeSpec.witness6 (enc:=enc) (C:=checked) false ⟨#[],#[.slice none 0 0,.slice none 0 0],[]⟩ 8 qg qg qg qg) ?_
 intro W base args G gs before D d ax _;have O:∀(j:Nat)t v,Tryz.f3.params[j]?=some t->args[j]?=some v->Value.okWide prog W .any base t v:=D;have A:=d;obtain⟨p,q,I,E,rfl,aI,aG⟩:=d;have y:DataW.TrodAll enc prog W 0 (λ_=>true) true Tryz.f3.params.toList args.toList G p:=I;rw[params3]at y O;obtain⟨r,aD,d0,aJ,K,q0,ak,rfl,rfl,f,M⟩:=trodAll_cons y;obtain⟨v1,aE,d1,aF,J,q1,ay,rfl,rfl,g,r1⟩:=trodAll_cons M;obtain⟨rfl,rfl,rfl⟩:=trodAll_nil r1;obtain rfl:args=#[r,v1]:=by cases args;simp_all
 obtain⟨rfl,rfl⟩:=trodVars_none E;have u:=f;have U:∀x∈K,x.block<W.heap.size:=by obtain⟨m,b⟩:=u;exact DataW.trod_lt m _ _ _ b
 have n:=g;have T:∀x∈J,x.block<W.heap.size:=by obtain⟨m,b⟩:=n;exact DataW.trod_lt m _ _ _ b
 obtain⟨sa,sn,Y,rfl⟩:=okWide_slice underlying22 (O 0 22 r rfl rfl);obtain⟨ta,tn,Z,rfl⟩:=okWide_slice underlying22 (O 1 22 v1 rfl rfl);obtain⟨m1,z⟩:=f;obtain⟨aC,aB,aA,k,N⟩:=mM z;simp only[Value.cells,Yv,and_true,Y0]at k;obtain⟨rfl,rfl,rfl⟩:=k;obtain⟨m2,R⟩:=g;obtain⟨az,aK,aH,s,L⟩:=mM R;simp only[Value.cells,Yv,and_true,Y0]at s;obtain⟨rfl,rfl,rfl⟩:=s;refine(xP _ _ _ _ _ _ W N L).j λe W'⟨B,bel⟩=>?_;subst B;exact⟨_,rfl,_,_,_,[],_,[],A,trodAll_mk1 (shut_bool underlying4 _),(trodAll_cons_mk (Below.trod U4 qg (of_decide_eq_true qg) u bel U) (trodAll_cons_mk (Below.trod U4 qg (of_decide_eq_true qg) n bel T) trodAll_mk0)),rfl,bel.frame _,λh=>by cases h⟩
open Go.ChangeShapes Go.WideShapes Go.ChangeAt Go.Joins
theorem fnFollow_holds:Rows.FnFollowSaid:=
 OpenClaim.holds_of_wide 3 Tryz.f3 rfl rfl rfl rfl rfl rfl rfl ⟨rfl,rfl,rfl,rfl,rfl⟩ rfl rfl rfl rfl rfl (by as_aux_lemma=>kernel_rfl) func3 zq8
  (of_decide_eq_true (by as_aux_lemma=>kernel_rfl)) (by unfold Func.isWrapper;first|(rw[if_pos OL];kernel_rfl)|(rw[if_neg OL];exact⟨rfl,rfl⟩))
  (λos O H enc _=>zri os O H enc)
#print axioms fnFollow_holds
end Go.Proofs.YtikojfajahnhgaaGreat
