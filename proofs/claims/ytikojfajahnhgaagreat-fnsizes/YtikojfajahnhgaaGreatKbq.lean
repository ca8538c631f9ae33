import Derived.Test.YtikojfajahnhgaaGreatKbo
set_option linter.all false
set_option maxHeartbeats 3200000
set_option maxRecDepth 100000
namespace Go.Proofs.YtikojfajahnhgaaGreat
attribute [local simp] At I6 Pn mzI
attribute [local go_sem] At I6 Pn
open Go.RowKit Go.Maps Go.Proofs.Tryz
attribute [local go_sem ↓] wp_at_zero wp_at_succ
def zn6(a c fs nx cp sg g tag sa q vs w)(hv:Bz w a fs)(s:Bt w sa vs)(hl:fs.length<=1048576)(r:∀f∈fs,AJ f)(o:∀f∈fs,Db f)(x:vs.length<=1048576)(B:∀v∈vs,v.J.size<=maxLen)(n:(B_ fs nx cp sg&&C4 vs)=false) :
  Ca 159 #[.agg #[.slice a fs.length c,I6 nx,I6 cp,.bool sg],.agg #[.string g,I6 tag,.slice sa vs.length q]] w λe w'=>
   (∃m j xs,e=.returned (C6.ad.val m j)/\Bk w' w.heap.size (.slice m C6.ad.fs.length j) C6.ad.fs.length C6.ad.fs xs)/\Bw w w':=by
 cases u:B_ fs nx cp sg
 focus
  clear n;go_enter func159,ntmps159;go_wp2_with (go_at_call 213;refine(JU a c fs nx cp sg _ (hv.d Bj) hl r o).rtn λb O=>?_;obtain⟨i,y⟩:=Aw O);refine bodyPost_ret (v:=C6.ad.val none 0) (by simp[results,results159,go_sem,i,C6.val,C6.ad]) rfl ⟨⟨none,0,[],rfl,Bk.nil _ _⟩,?_⟩;have k:Bw w b:=Bj.thn O
 rotate_left
 focus
  rw[u,YJ]at n;go_enter func159,ntmps159;go_wp2_with (first|(go_at_call 213;refine(JU a c fs nx cp sg _ (hv.d Bj) hl r o).rtn λb O=>?_;obtain⟨i,y⟩:=Aw O;have l:Bw w b:=(Bj.thn O);have z:w.heap.size+1+1<b.heap.size:=yg qe O.size)|(go_at_call 214;refine(Qz sa q vs _ (s.d l) x B).rtn λt p=>?_;obtain⟨A,C⟩:=Aw p)|fail);refine bodyPost_ret (v:=C6.ad.val none 0) (by simp[results,results159,go_sem,i,A,z,C6.val,C6.ad]) rfl ⟨⟨none,0,[],rfl,Bk.nil _ _⟩,?_⟩;have k:Bw w t:=l.thn p
 rotate_left
 all_goals
  exact(((((k.setCell qf _).setCell qf _).setCell qf _).setCell qf _).setCell qf _).setCell qf _
def pQ{P:Prop}(h:P:=by rw[HM.o,HE.o];exact⟨⟨a4,c4,aA,rfl,(ak.kept (λg hg=>ax.o.block g (by have:=(ak.range hg).1;omega))).lower aj.size⟩,(aj.thn af).c (ax.o.d (by omega))⟩):P:=h
def xS(a c fs nx cp sg E tag sa t vs w)(hv:Bz w a fs)(aP:Bt w sa vs)(hc:fs.length<=c)(hl:fs.length<=1048576)(U:∀f∈fs,AJ f)(I:∀f∈fs,Db f)(bj:(Lit.int .i64 tag).wf=true)(aZ:vs.length<=1048576)(aK:∀v∈vs,DO v)(aE:B_ fs nx cp sg=true)(N:C4 vs=true) :
  Ca 159 #[.agg #[.slice a fs.length c,I6 nx,I6 cp,.bool sg],.agg #[.string E,I6 tag,.slice sa vs.length t]] w λe w'=>
   (∃a' c' xs,e=.returned ((BP fs nx cp sg tag vs).val a' c')/\Bk w' w.heap.size (.slice a' (BP fs nx cp sg tag vs).fs.length c') (BP fs nx cp sg tag vs).fs.length (BP fs nx cp sg tag vs).fs xs)/\Bw w w':=by
 have p:∀f∈fs,f.s.length<=1048576:=λf u=>(U f u).2.1;have aI:∀v∈vs,v.J.size<=maxLen:=λv h=>(aK v h).2.2;obtain⟨n1,n2,n3,n4,n5⟩:=Tk aE;have L:=Qr aE;have aw:=UF U I L;have aV:vs.length<=6:=by simp only[C4,yi,decide_eq_true_eq]at N;exact N.1
 go_enter func159,ntmps159;go_wp2_with (first|(go_at_call 213;refine(JU a c fs nx cp sg _ (hv.d Bj) hl U I).rtn λw0 l=>?_;obtain⟨bi,bc⟩:=Aw l;have a9:Bw w w0:=(Bj.thn l);have aX:w.heap.size+1+1<w0.heap.size:=yg qe l.size)|(go_at_call 214;refine(Qz sa t vs _ (aP.d a9) aZ aI).rtn λr y=>?_)|fail);obtain⟨aN,aM⟩:=Ah (Du (Du (w:=_) (o:=.cells (JX a fs.length c nx cp sg).toArray 27 (0,0)) (b:=w.heap.size) ((yS _ _ _ qf).c ((yS _ _ _ qe).c (EA _ _ _ rfl))) l) y) (Du (Du (w:=_) (o:=.cells (ZP E tag sa vs.length t).toArray 171 (0,0)) (b:=w.heap.size+1) ((yS _ _ _ qe).c (EA _ _ _ qe)) l) y);obtain⟨R,hR,Z⟩:∃R:Array Value,r.heap[w.heap.size+1+1]?=some (.cells R 87 (0,0))/\R.size=6:=⟨_,(y.block _ aX).c ((l.block _ qe).c (EA _ _ _ qe)),rfl⟩
 have aL:=Aa hR;have C:Bw w r:=a9.thn y;have aU:w.heap.size+1+1<r.heap.size:=yg aX y.size;obtain⟨Y,K,q2,M⟩:=IL aN.o;obtain⟨t0,t1,t2⟩:=Vq aM.o;have aO:=hv.d C;have aB:∀(W:World)(b:Nat)(D:DataW Unit),W.ownsMap prog 3 (plainElem prog 3) b fs.length D->Ew fs fs.length D->(Instr.lookup 172 (.map (some b)) (I6 tag) true).run prog W=.ok (.tuple #[I6 (Rl (AD tag fs)),.bool (AD tag fs).isSome]) W:=λ_ _ _ ho hI=>SJ ho hI bj;have HLK:=Aa aB;clear l y bi bc hR aB t0;cases hi:AD tag fs with
 |none=>
  have HE:=Aa (S9 (tag:=tag) aE N hi)
  go_region_held3 (λw'=>At w' w.heap.size 0 (.slice a fs.length c)/\At w' w.heap.size 1 (I6 nx)/\At w' w.heap.size 2 (I6 cp)/\At w' w.heap.size 3 (.bool sg)/\At w' (w.heap.size+1) 1 (I6 tag))
   ((go_split_ands;refine⟨?_,?_,?_,?_,?_⟩<;>first|with_reducible assumption|with_reducible exact zab O qk|with_reducible exact zcN qk))
   (first|(go_at_call 96;refine(Tg a c fs nx cp sg _ (aO.d ?_) hl L I).j ?_;exact An.drew;rintro e k ⟨b2,D,rfl,az,ar,O⟩;have au:(Instr.lookup 172 (.map (some b2)) (I6 tag) true).run prog k=.ok (.tuple #[I6 0,.bool false]) k:=pg)|fail)
  clear au;have m:Bw w k:=C.drew.c (O.j C.size);have B:=hv.d m;have bl:w.heap.size+1+1<k.heap.size:=yg aU O.size;have aH:=Aa (Du (w:=r.drew) aL.o O);clear HLK hi O az ar;go_wp2_with (first|(go_at_call 216;refine(M9 a c fs nx cp sg 5 0 k B hl p).j ?_;rintro e n ⟨⟨a3,c3,bq,rfl,aW⟩,q⟩)|(refine C7 qi 87 (.tmp 4) (.tmp 30) qi (w.heap.size+1+1) (C6.cells ⟨fs,nx,cp,sg,5,0⟩ a3 c3) qi qi R 87 (Du aH.o q) Z GS (C6.one _ _ _) ?_;intro w4 bh a0)|fail)
  try go_frame
  refine bodyPost_ret (v:=C6.val ⟨fs,nx,cp,sg,5,0⟩ a3 c3) (by simp[results,results159,asAddr,C6.load bh.o]) rfl ?_;rw[HE.o];exact⟨⟨a3,c3,bq,rfl,(aW.kept (λg hg=>a0.o.block g (by have:=(aW.range hg).1;omega))).lower m.size⟩,(m.thn q).c (a0.o.d qd)⟩
 |some i=>
  have a8:=Ot hi;obtain⟨f,u⟩:=Ba a8;have HM:=Aa (Ti (tag:=tag) aE N hi u);have bk:f.z.size<=maxLen:=(aw f (yd u)).1;have aY:Gf ⟨nx,f.z,vs⟩:=⟨bk,aV,aK⟩
  have bg:EK sg tag f.z vs fs=0∨0<EK sg tag f.z vs fs:=by
   unfold EK;split
   .exact XV (Y8 0) L
   exact .inl rfl
  go_region_held3 (λw'=>At w' w.heap.size 0 (.slice a fs.length c)/\At w' w.heap.size 1 (I6 nx)/\At w' w.heap.size 2 (I6 cp)/\At w' w.heap.size 3 (.bool sg)/\At w' (w.heap.size+1) 1 (I6 tag))
   ((go_split_ands;refine⟨?_,?_,?_,?_,?_⟩<;>first|with_reducible assumption|with_reducible exact zab O qk|with_reducible exact zcN qk))
   (first|(go_at_call 96;refine(Tg a c fs nx cp sg _ (aO.d ?_) hl L I).j ?_;exact An.drew;rintro e k ⟨b2,D,rfl,az,ar,O⟩;have au:(Instr.lookup 172 (.map (some b2)) (I6 tag) true).run prog k=.ok (.tuple #[I6 i,.bool true]) k:=pg)|fail)
  clear au;have m:Bw w k:=C.drew.c (O.j C.size);have B:=hv.d m;have ay:=aP.d m;have bl:w.heap.size+1+1<k.heap.size:=yg aU O.size;have bt:w.heap.size<k.heap.size:=qd;have br:w.heap.size+1<k.heap.size:=qd;obtain⟨aH,aS,a6⟩:=AA (Du (w:=r.drew) aL.o O) (Du (w:=r.drew) aN.o O) (Du (w:=r.drew) aM.o O);obtain⟨b,o,rfl,c0,c1,_⟩:=B i f u;have bu:b<k.heap.size:=yO k ⟨b,_,none⟩ c1;clear HLK hi O az ar aL aN aM Y K q2 M t1 t2 u c0 U I aK aI hv aP aO;go_split_ands;obtain⟨Y,K,q2,M⟩:=IL aS.o;obtain⟨t0,t1,t2⟩:=Vq a6.o;clear t0;go_wp2_with fail;go_region;go_wp2_with fail;have H:∀o,Bw k (k.alloc o).drew:=λo=>Aj.drew;refine(j_ (some ⟨b,o,none⟩) c fs nx cp sg ⟨nx,f.z,vs⟩ sa t tag _ (B.d (H _)) (ay.d (H _)) hl aw aY).rtn λn q=>?_;have x:Bw k n:=(H _).c (q.j (H _).size);have aj:Bw w n:=m.thn x;obtain⟨bp,aQ⟩:=Ah (Du aS.o x) (Du aH.o x);have g0:At n k.heap.size 0 (I6 nx):=zab q (zcN ql);have g1:At n k.heap.size 1 (.string f.z):=zab q (zcN ql);have g2:At n k.heap.size 2 (.slice sa vs.length t):=zab q (zcN ql);have aR:=B.d x;have a7:=ay.d x;have bv:k.heap.size<n.heap.size:=yg (by show k.heap.size<(k.alloc _).heap.size;simp) q.size;have bo:(fs.eraseIdx i).length<=1048576:=yh (by rw[KA];split<;>omega) hl;clear aS aH a6 q x H B ay aw aY Y K q2 M t1 t2 c1;obtain⟨Y,K,q2,M⟩:=IL bp.o;generalize A:EK sg tag f.z vs fs=T at bg;by_cases ht:0<T
  .have HE:=Aa (lL (nx:=nx) (cp:=cp) (i:=i) A ht);have aa:(T != 0)=true:=by simp;omega
   clear A;go_wp2_with (first|(go_at_call 216;refine(M9 (some ⟨b,o,none⟩) c fs nx cp sg 2 T n aR hl p).j ?_;rintro e w4 ⟨⟨a4,c4,aA,rfl,ak⟩,af⟩)|(refine C7 qi 87 (.tmp 4) (.tmp 51) qi (w.heap.size+1+1) (C6.cells ⟨fs,nx,cp,sg,2,T⟩ a4 c4) qi qi R 87 (Du aQ.o af) Z GS (C6.one _ _ _) ?_;intro w5 aJ ax)|fail)
   try go_frame
   refine bodyPost_ret (v:=C6.val ⟨fs,nx,cp,sg,2,T⟩ a4 c4) (by simp[results,results159,asAddr,C6.load aJ.o]) rfl ?_;exact pQ
  have bd:T=0:=qd;subst bd;by_cases G:1000000<nx
  .have HE:=Aa (lx (cp:=cp) (i:=i) A ht G);clear A;go_wp2_with (first|(go_at_call 216;refine(M9 (some ⟨b,o,none⟩) c fs nx cp sg 4 0 n aR hl p).j ?_;rintro e w4 ⟨⟨a4,c4,aA,rfl,ak⟩,af⟩)|(refine C7 qi 87 (.tmp 4) (.tmp 56) qi (w.heap.size+1+1) (C6.cells ⟨fs,nx,cp,sg,4,0⟩ a4 c4) qi qi R 87 (Du aQ.o af) Z GS (C6.one _ _ _) ?_;intro w5 aJ ax)|fail)
   try go_frame
   refine bodyPost_ret (v:=C6.val ⟨fs,nx,cp,sg,4,0⟩ a4 c4) (by simp[results,results159,asAddr,C6.load aJ.o]) rfl ?_;exact pQ
  have HE:=Aa (kD (cp:=cp) (i:=i) A ht G);clear A;go_wp2_with fail
  go_region_held3 (λw'=>At w' w.heap.size 0 (.slice (some ⟨b,o,none⟩) fs.length c)/\At w' w.heap.size 1 (I6 nx)/\At w' w.heap.size 2 (I6 cp)/\At w' w.heap.size 3 (.bool sg)/\At w' k.heap.size 0 (I6 nx)/\At w' k.heap.size 1 (.string f.z)/\At w' k.heap.size 2 (.slice sa vs.length t))
   ((go_split_ands;refine⟨?_,?_,?_,?_,?_,?_,?_⟩<;>first|((with_reducible refine zaN (zaN (zaN (zaN (zaN (zaN ?_ ?_ _) ?_ _) ?_ _) ?_ _) ?_ _) ?_ _)<;>first|with_reducible assumption|(dsimp only;omega))|(with_reducible refine zvZ aT ?_ qk;show _<n.heap.size;omega)|with_reducible exact zab af qk|with_reducible exact zcN qk))
   (first|(go_at_call 219;refine(mH (some ⟨b,o,none⟩) c fs nx cp sg i _ (aR.d ?_) hc hl p a8).j ?_;exact An.drew;rintro e w4 ⟨⟨a4,c4,aA,rfl,ak⟩,af⟩)|(go_at_call 218;refine(iy a4 c4 (fs.eraseIdx i) aA nx cp sg ⟨nx,f.z,vs⟩ sa t n.heap.size w4 ak (a7.d ?_) bo aZ af.size (by show 0<=nx;omega) (by show nx<=1000000;omega)).j ?_;exact An.drew.c af;rintro e w5 ⟨⟨a5,c5,bn,rfl,bf⟩,aT⟩;dsimp only[C6.val];obtain⟨x0,x1,x2,x3,x4,x5,y0,y1,y2,y3,y4,y5,z0,z1,z2,z3,z4,z5⟩:=Nj (b:=w.heap.size+1+1) ((aT.block _ qd).c (Du (w:=n.drew) aQ.o af)) Z)|fail)
  go_wp2;refine bodyPost_ret (v:=C6.val ⟨fs.eraseIdx i++[⟨nx,f.z,vs⟩],nx+1,cp,sg,0,nx⟩ a5 c5) (by simp[results,results159,go_sem,C6.val, *]) rfl ?_;rw[HM.o,HE.o];refine⟨⟨a5,c5,bn,rfl,?_⟩,?_⟩
  .exact((((((bf.set qf _).set qf _).set qf _).set qf _).set qf _).set qf _).lower aj.size
  have bm:Bw w w5:=(aj.drew.c (af.j aj.size)).c (aT.j aj.size);exact(((((bm.setCell qf _).setCell qf _).setCell qf _).setCell qf _).setCell qf _).setCell qf _
def zoo(a c fs nx cp sg b tag sa d vs w)(hv:Bz w a fs)(m:Bt w sa vs)(n:fs.length<=c)(hl:fs.length<=1048576)(j:∀f∈fs,AJ f)(k:∀f∈fs,Db f)(o:(Lit.int .i64 tag).wf=true)(i:vs.length<=1048576)(O:∀v∈vs,DO v) :
  Ca 159 #[.agg #[.slice a fs.length c,I6 nx,I6 cp,.bool sg],.agg #[.string b,I6 tag,.slice sa vs.length d]] w λe w'=>
   (∃g l xs,e=.returned ((BP fs nx cp sg tag vs).val g l)/\Bk w' w.heap.size (.slice g (BP fs nx cp sg tag vs).fs.length l) (BP fs nx cp sg tag vs).fs.length (BP fs nx cp sg tag vs).fs xs)/\Bw w w':=by
 cases h:(B_ fs nx cp sg&&C4 vs)
 .rw[SD h];exact zn6 a c fs nx cp sg b tag sa d vs w hv m hl j k i (λv h=>(O v h).2.2) h
 simp only[yi]at h;exact xS a c fs nx cp sg b tag sa d vs w hv m n hl j k o i O h.1 h.2
def Zy{P:Prop}(h:P:=by exact((((((ah.thn af).setCell (by simp;omega) _).setCell (by simp;omega) _).setCell (by simp;omega) _).setCell (by simp;omega) _).setCell (by simp;omega) _).setCell (by simp;omega) _):P:=h
def zkv(a c fs nx cp sg g tag sa i vs w)(hv:Bz w a fs)(_hc:fs.length<=c)(_hwt:(Lit.int .i64 tag).wf=true)(s:Bt w sa vs)(hl:fs.length<=1048576)(y:∀f∈fs,AJ f)(u:∀f∈fs,Db f)(x:g.size<=maxLen)(q:vs.length<=1048576)(r:∀v∈vs,DO v) :
  Ca 45 #[.agg #[I6 1,I6 tag,.string g,.slice sa vs.length i],.agg #[.slice a fs.length c,I6 nx,I6 cp,.bool sg]] w λe w'=>
   (∃m l xs,e=.returned ((Dl fs nx cp sg g vs).val m l)/\Bk w' w.heap.size (.slice m (Dl fs nx cp sg g vs).fs.length l) (Dl fs nx cp sg g vs).fs.length (Dl fs nx cp sg g vs).fs xs)/\Bw w w':=by
 go_enter func45,ntmps45;go_wp2_with fail
 go_region_held3 (λw'=>At w' w.heap.size 0 (I6 1)/\At w' w.heap.size 1 (I6 tag)/\At w' w.heap.size 2 (.string g)/\At w' w.heap.size 3 (.slice sa vs.length i)/\At w' (w.heap.size+1) 0 (.slice a fs.length c)/\At w' (w.heap.size+1) 1 (I6 nx)/\At w' (w.heap.size+1) 2 (I6 cp)/\At w' (w.heap.size+1) 3 (.bool sg))
  ((go_split_ands;refine⟨?_,?_,?_,?_,?_,?_,?_,?_⟩<;>first|((with_reducible refine zaN (zaN (zaN (zaN (zaN (zaN ?_ ?_ _) ?_ _) ?_ _) ?_ _) ?_ _) ?_ _)<;>first|with_reducible assumption|(dsimp only;omega))|with_reducible exact zab af qk|with_reducible exact zab O qk|(simp[go_sem];done)))
  (first|(go_at_call 95;refine(XU 1 _ qd rfl _).rtn λo O=>?_)|(go_at_call 157;refine(wm a c fs nx cp sg g tag sa i vs _ (hv.d ?_) (s.d ?_) hl y u x q r).j ?_;exact Bj.drew.c (O.j qf);exact Bj.drew.c (O.j qf);rintro e J ⟨⟨n,k,z,rfl,p⟩,af⟩;dsimp only[C6.val];obtain⟨x0,x1,L,U,T,A,G,K,N,W,I,C,E,H,M,R,D,Y⟩:=Nj (b:=w.heap.size+1+1) (t:=87) ((af.block _ (yg qe O.size)).c ((O.block _ qe).c (EA _ _ _ qe))) rfl)|fail)
 go_wp2;have ah:Bw w o:=Bj.drew.c (O.j qf);have B:w.heap.size+1+1+1<=o.heap.size:=by have:=O.size;simpa using this
 refine bodyPost_ret (v:=(Dl fs nx cp sg g vs).val n k) ZZ rfl ⟨⟨n,k,z,rfl,?_⟩,?_⟩
 .exact((((((p.set qf _).set qf _).set qf _).set qf _).set qf _).set qf _).lower ah.size
 exact Zy
def pP{P:Prop}(h:P:=by exact((((((ai.set (by simp;omega) _).set (by simp;omega) _).set (by simp;omega) _).set (by simp;omega) _).set (by simp;omega) _).set (by simp;omega) _).lower ah.size):P:=h
def zjV(a c fs nx cp sg g tag sa i vs w)(hv:Bz w a fs)(u:fs.length<=c)(p:(Lit.int .i64 tag).wf=true)(_hsv:Bt w sa vs)(hl:fs.length<=1048576)(s:∀f∈fs,AJ f)(r:∀f∈fs,Db f)(_hcs:g.size<=maxLen)(_hvl:vs.length<=1048576)(_hvs:∀v∈vs,DO v) :
  Ca 45 #[.agg #[I6 2,I6 tag,.string g,.slice sa vs.length i],.agg #[.slice a fs.length c,I6 nx,I6 cp,.bool sg]] w λe w'=>
   (∃m l xs,e=.returned ((CV fs nx cp sg tag).val m l)/\Bk w' w.heap.size (.slice m (CV fs nx cp sg tag).fs.length l) (CV fs nx cp sg tag).fs.length (CV fs nx cp sg tag).fs xs)/\Bw w w':=by
 go_enter func45,ntmps45;go_wp2_with fail
 go_region_held3 (λw'=>At w' w.heap.size 0 (I6 2)/\At w' w.heap.size 1 (I6 tag)/\At w' w.heap.size 2 (.string g)/\At w' w.heap.size 3 (.slice sa vs.length i)/\At w' (w.heap.size+1) 0 (.slice a fs.length c)/\At w' (w.heap.size+1) 1 (I6 nx)/\At w' (w.heap.size+1) 2 (I6 cp)/\At w' (w.heap.size+1) 3 (.bool sg))
  ((go_split_ands;refine⟨?_,?_,?_,?_,?_,?_,?_,?_⟩<;>first|((with_reducible refine zaN (zaN (zaN (zaN (zaN (zaN ?_ ?_ _) ?_ _) ?_ _) ?_ _) ?_ _) ?_ _)<;>first|with_reducible assumption|(dsimp only;omega))|with_reducible exact zab af qk|with_reducible exact zab O qk|(simp[go_sem];done)))
  (first|(go_at_call 95;refine(XU 2 _ qd rfl _).rtn λo O=>?_)|(go_at_call 158;refine(zlO a c fs nx cp sg g tag sa vs.length i _ (hv.d ?_) u hl s r p).j ?_;exact Bj.drew.c (O.j qf);rintro e G ⟨⟨n,k,q,rfl,ai⟩,af⟩;dsimp only[C6.val];obtain⟨x0,x1,I,N,M,x,C,H,K,R,E,z,B,D,J,L,A,T⟩:=Nj (b:=w.heap.size+1+1) (t:=87) ((af.block _ (yg qe O.size)).c ((O.block _ qe).c (EA _ _ _ qe))) rfl)|fail)
 go_wp2;have ah:Bw w o:=Bj.drew.c (O.j qf);have y:w.heap.size+1+1+1<=o.heap.size:=by have:=O.size;simpa using this
 refine bodyPost_ret (v:=(CV fs nx cp sg tag).val n k) ZZ rfl ⟨⟨n,k,q,rfl,?_⟩,?_⟩
 .exact pP
 exact Zy
def zlN(a c fs nx cp sg g tag sa i vs w)(hv:Bz w a fs)(y:fs.length<=c)(p:(Lit.int .i64 tag).wf=true)(s:Bt w sa vs)(hl:fs.length<=1048576)(x:∀f∈fs,AJ f)(u:∀f∈fs,Db f)(_hcs:g.size<=maxLen)(q:vs.length<=1048576)(r:∀v∈vs,DO v) :
  Ca 45 #[.agg #[I6 3,I6 tag,.string g,.slice sa vs.length i],.agg #[.slice a fs.length c,I6 nx,I6 cp,.bool sg]] w λe w'=>
   (∃m l xs,e=.returned ((BP fs nx cp sg tag vs).val m l)/\Bk w' w.heap.size (.slice m (BP fs nx cp sg tag vs).fs.length l) (BP fs nx cp sg tag vs).fs.length (BP fs nx cp sg tag vs).fs xs)/\Bw w w':=by
 go_enter func45,ntmps45;go_wp2_with fail
 go_region_held3 (λw'=>At w' w.heap.size 0 (I6 3)/\At w' w.heap.size 1 (I6 tag)/\At w' w.heap.size 2 (.string g)/\At w' w.heap.size 3 (.slice sa vs.length i)/\At w' (w.heap.size+1) 0 (.slice a fs.length c)/\At w' (w.heap.size+1) 1 (I6 nx)/\At w' (w.heap.size+1) 2 (I6 cp)/\At w' (w.heap.size+1) 3 (.bool sg))
  ((go_split_ands;refine⟨?_,?_,?_,?_,?_,?_,?_,?_⟩<;>first|((with_reducible refine zaN (zaN (zaN (zaN (zaN (zaN ?_ ?_ _) ?_ _) ?_ _) ?_ _) ?_ _) ?_ _)<;>first|with_reducible assumption|(dsimp only;omega))|with_reducible exact zab af qk|with_reducible exact zab O qk|(simp[go_sem];done)))
  (first|(go_at_call 95;refine(XU 3 _ qd rfl _).rtn λo O=>?_)|(go_at_call 159;refine(zoo a c fs nx cp sg g tag sa i vs _ (hv.d ?_) (s.d ?_) y hl x u p q r).j ?_;exact Bj.drew.c (O.j qf);exact Bj.drew.c (O.j qf);rintro e J ⟨⟨n,k,z,rfl,ai⟩,af⟩;dsimp only[C6.val];obtain⟨x0,x1,L,U,T,A,G,K,N,W,I,C,E,H,M,R,D,Y⟩:=Nj (b:=w.heap.size+1+1) (t:=87) ((af.block _ (yg qe O.size)).c ((O.block _ qe).c (EA _ _ _ qe))) rfl)|fail)
 go_wp2;have ah:Bw w o:=Bj.drew.c (O.j qf);have B:w.heap.size+1+1+1<=o.heap.size:=by have:=O.size;simpa using this
 refine bodyPost_ret (v:=(BP fs nx cp sg tag vs).val n k) ZZ rfl ⟨⟨n,k,z,rfl,?_⟩,?_⟩
 .exact pP
 exact Zy
end Go.Proofs.YtikojfajahnhgaaGreat
