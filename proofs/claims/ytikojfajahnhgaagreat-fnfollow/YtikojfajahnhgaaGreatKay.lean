import Derived.Test.YtikojfajahnhgaaGreatKax
import Derived.Test.YtikojfajahnhgaaGreatKas
set_option linter.all false
set_option maxHeartbeats 3200000
set_option maxRecDepth 100000
namespace Go.Proofs.YtikojfajahnhgaaGreat
open Go.RowKit Go.Proofs.Tryz
attribute [local go_sem ↓] wp_at_zero wp_at_succ
attribute [local simp] At I6 Pn mzI Bk
attribute [local go_sem] At I6 Pn Bk
variable{P:Prop}
structure VS(fs:Ab) (nx cp:Int) (sg:Bool):Prop where
 dX:0<=cp
 aQ:cp<=40
 len:(fs.length:Int)<=cp
 aH:CL 0 fs=true
 cQ:1<=nx
 dD:nx<=1000001
 low:∀f∈fs,f.tag<nx
 nodup:sg=true->(fs.map Cd).Nodup
theorem VS.iff{fs nx cp sg}:CQ fs nx cp sg=true↔VS fs nx cp sg:=by
 unfold CQ;cases sg with
 |false=>
  rw[gj];simp only[Hn,ET,ym,decide_eq_true_eq,Y7];constructor
  .rintro⟨⟨b,c,f,⟨i,a⟩,e,d⟩,O⟩;exact⟨b,c,f,a,e,d,O,λh=>by cases h⟩
  .intro h;exact⟨⟨h.dX,h.aQ,h.len,⟨by have:=h.len;have:=h.aQ;omega,h.aH⟩,h.cQ,h.dD⟩,h.low⟩
 |true=>
  rw[gY nx fs [] Y4];simp only[Hn,ET,ym,decide_eq_true_eq,Y7,Yg];constructor
  .rintro⟨⟨b,c,f,⟨i,a⟩,e,d⟩,O,g⟩;exact⟨b,c,f,a,e,d,O,λ_=>g⟩
  intro h;exact⟨⟨h.dX,h.aQ,h.len,⟨by have:=h.len;have:=h.aQ;omega,h.aH⟩,h.cQ,h.dD⟩,h.low,h.nodup rfl⟩
def zpm:∀{fs:Ab}{last O:Int},last<=O->CL O fs=true->CL last fs=true
 |[],_,_,_,_=>rfl
 |f::r,last,O,h,hg=>by
  simp only[CL,Jl,ym,decide_eq_true_eq]at hg⊢
  exact⟨⟨by omega,hg.1.2⟩,hg.2⟩
def rM:∀{fs:Ab}{last:Int}(i:Nat),CL last fs=true->CL last (fs.eraseIdx i)=true
 |[],_,_,_=>rfl
 |f::r,last,0,h=>by
  simp only[CL,Jl,ym,decide_eq_true_eq]at h
  exact zpm (by omega) h.2
 |f::r,last,i+1,h=>by
  simp only[CL,ym]at h
  simp only[Y9,CL,ym]
  exact⟨h.1,rM i h.2⟩
def zoQ:∀{fs:Ab}{last:Int}{g:F},CL last fs=true->(∀f∈fs,f.tag<g.tag)->last<g.tag->g.tag<=1000000->AP g.E.data.toList=true->DO g.v=true->CL last (fs++[g])=true:=by intro fs;induction fs<;>grind[CL,Jl,DO,AP]
def gg{but a vs}:∀{fs:Ab}{last:Int},0<=last->CL last fs=true->¬0<Jj but a vs fs->∀f∈fs,Ek but a vs f=false
 |[],_,_,_,_,f,b=>by simp at b
 |g::r,last,hl,h,ht,f,b=>by
  simp only[CL,Jl,ym,decide_eq_true_eq]at h
  unfold Jj at ht
  split at ht
  .omega
  rcases yW.1 b with rfl|b
  .simpa using ‹¬Ek but a vs f=true›
  exact gg (last:=g.tag) (by omega) h.2 ht f b
def oU{but a vs}{fs:Ab}(h:∀f∈fs,Ek but a vs f=false)(b:∀f∈fs,f.tag≠but):(a,vs) ∉ fs.map Cd:=by simp_all[Ek,Lk,V,Cd]
def mq:∀{fs:Ab}{last:Int},CL last fs=true->∀f∈fs,AP f.E.data.toList=true
 |[],_,_,f,a=>by simp at a
 |g::r,last,h,f,a=>by
  simp only[CL,Jl,ym]at h
  rcases yW.1 a with rfl|a
  .exact h.1.2.2.1
  exact mq h.2 f a
def VS.add{fs nx cp sg a vs}(h:VS fs nx cp sg)(k:¬1000000<nx)(hl:(fs.length:Int)<cp)(g:AP a.data.toList=true)(i:DO vs=true)(j:sg=true->(a,vs) ∉ fs.map Cd):VS (fs++[⟨nx,a,vs⟩]) (nx+1) cp sg:=by
 refine⟨h.dX,h.aQ,qe,zoQ h.aH (λf O=>h.low f O) (by have:=h.cQ;show(0:Int)<nx;omega) (by show nx<=1000000;omega) g i,by have:=h.cQ;omega,qd,?_,?_⟩
 .intro f O;rcases yp.1 O with O|O
  .have:=h.low f O;omega
  simp at O;subst O;show nx<nx+1;omega
 intro c;rw[yz,yL];refine⟨h.nodup c,qf,λx b y d e=>?_⟩;simp at d;subst d;rw[e]at b;exact j c b
theorem VS.drop{fs nx cp sg}(h:VS fs nx cp sg)(i):VS (fs.eraseIdx i) nx cp sg:=by
 refine⟨h.dX,h.aQ,?_,rM i h.aH,h.cQ,h.dD,λf b=>h.low f (List.mem_of_mem_eraseIdx b),λa=>?_⟩
 .have c:=h.len;have d:(fs.eraseIdx i).length<=fs.length:=List.length_eraseIdx_le _ _;omega
 exact(h.nodup a).sublist ((Wq _ _).map Cd)
def Fe(fs:Ab)(nx cp:Int)(sg:Bool)(r:C6):Prop:=r.ab=1∨(VS r.fs r.nx r.cp r.sg/\nx<=r.nx/\r.cp=cp/\r.sg=sg/\(r.ab≠0->r.fs=fs/\r.nx=nx))
theorem Fe.same{fs nx cp sg}(h:VS fs nx cp sg)(k t):Fe fs nx cp sg ⟨fs,nx,cp,sg,k,t⟩:=.inr ⟨h,Wh _,rfl,rfl,λ_=>⟨rfl,rfl⟩⟩
def zsN{fs}(h:CL 0 fs=true):∀f∈fs,f.tag≠0:=by grind[CL,-> Tg]
theorem zq3{fs nx cp sg}(a vs)(h:VS fs nx cp sg):Fe fs nx cp sg (DF fs nx cp sg a vs):=by
 cases b:(CQ fs nx cp sg&&(AP a.data.toList&&DO vs))
 .rw[Vg b];exact .inl rfl
 simp only[ym]at b;obtain⟨j,d,c⟩:=b;rw[Vb j d c];unfold CX;split
 .exact Fe.same h _ _
 rename_i e;split
 .exact Fe.same h _ _
 rename_i k;split
 .exact Fe.same h _ _
 rename_i g;refine .inr ⟨h.add g (by have:=h.len;omega) d c (λf=>?_),by show nx<=nx+1;omega,rfl,rfl,λi=>absurd rfl i⟩;subst f;exact oU (but:=0) (gg (Wh 0) h.aH e) (zsN h.aH)
theorem zp7{fs nx cp sg}(tag)(h:VS fs nx cp sg):Fe fs nx cp sg (Df fs nx cp sg tag):=by grind[Df,CQ,Bb,Fe,Fe.same,Vp,VS.drop,Vn,VS.iff]
def oH:∀{fs:Ab}{last:Int}{tag:Int}{i:Nat},CL last fs=true->Bb tag fs=some i->∀f∈fs.eraseIdx i,f.tag≠tag
 |[],_,_,_,_,h,_,_=>by simp[Bb]at h
 |g::r,last,tag,i,hg,h,f,a=>by
  simp only[CL,ym]at hg
  unfold Bb at h
  split at h
  .rename_i O
   injection h with h
   subst h
   have:=Tg hg.2 f a
   omega
  rename_i O
  cases b:Bb tag r with
  |none=>rw[b]at h;simp at h
  |some j=>
   rw[b]at h
   simp at h
   subst h
   simp only[Y9]at a
   rcases yW.1 a with rfl|a
   .exact O
   exact oH hg.2 b f a
theorem zr3{fs nx cp sg}(tag vs)(h:VS fs nx cp sg):Fe fs nx cp sg (CA fs nx cp sg tag vs):=by
 have hv:=VS.iff.2 h;cases a:DO vs
 .rw[Vh (by rw[a,WI])];exact .inl rfl
 cases b:Bb tag fs with
 |none=>
  rw[VB hv a b];exact Fe.same h _ _
 |some i=>
  have hlt:=SS b;obtain⟨f,d⟩:=Bq hlt;rw[VA hv a b d];unfold Mz;split
  .exact Fe.same h _ _
  rename_i k;split
  .exact Fe.same h _ _
  rename_i l;have c:(fs.eraseIdx i).length=fs.length-1:=List.length_eraseIdx_of_lt hlt;refine .inr ⟨(h.drop i).add l (by have:=h.len;omega) (mq h.aH f (yd d)) a (λg=>?_),by show nx<=nx+1;omega,rfl,rfl,λj=>absurd rfl j⟩;subst g;exact oU (but:=tag) (λx e=>gg (Wh 0) h.aH k x (List.mem_of_mem_eraseIdx e)) (oH h.aH b)
def zv9{B w w'}(a:Below B w w'){b o x}(hlt:b<B)(h:At w b o x):At w' b o x:=(a.cell (p:=⟨b,o,none⟩) hlt).c h
def jN(cls:ByteArray)(tag:Int)(sa:Af)(n sc:Nat):Aj:=[.string cls,.int .i64 tag,.slice sa n sc]
def ZU{w:Aa}{b a tag sa n d t e}(h:w.heap[b]?=some (.cells (jN a tag sa n d).toArray t e)):At w b 0 (.string a)/\At w b 1 (I6 tag)/\At w b 2 (.slice sa n d):=by
 have c:=Nh h;exact⟨c 0 _ rfl,c 1 _ rfl,c 2 _ rfl⟩
def zoq(a c fs nx cp sg b tag sa k vs w)(hv:Cs w a fs)(s:Cj w sa vs)(hl:fs.length<=1048576)(g:∀f∈fs,A6 f)(i:∀f∈fs,Do f)(m:b.size<=maxLen)(y:vs.length<=1048576)(u:∀v∈vs,v.O.size<=maxLen)(o:(CQ fs nx cp sg&&(AP b.data.toList&&DO vs))=false) :
  Ca 157 #[.agg #[.slice a fs.length c,I6 nx,I6 cp,.bool sg],.agg #[.string b,I6 tag,.slice sa vs.length k]] w λe w'=>
   (∃p q xs,e=.returned (C6.ai.val p q)/\Cg w' w.heap.size (.slice p C6.ai.fs.length q) C6.ai.fs.length C6.ai.fs xs)/\Bw w w':=by
 cases x:CQ fs nx cp sg
 .go_enter func157,ntmps157;go_wp2_with (go_at_call 213;refine(MM a c fs nx cp sg _ (hv.e Cq) hl g i).rtn λd O=>?_;obtain⟨af,ai⟩:=AU O);refine bodyPost_ret (v:=C6.ai.val none 0) ua rfl ⟨⟨none,0,[],rfl,Cg.nil _ _⟩,?_⟩;have hB:Bw w d:=Cq.thn O;exact uX
 rw[x,YK]at o;cases t:AP b.data.toList
 focus
  go_enter func157,ntmps157;go_wp2_with (first|(go_at_call 213;refine(MM a c fs nx cp sg _ (hv.e Cq) hl g i).rtn λd O=>?_;obtain⟨af,ai⟩:=AU O)|(go_at_call 197;refine(LP b _ m).j ?_;rintro e w' ⟨rfl,rfl⟩)|fail);refine bodyPost_ret (v:=C6.ai.val none 0) ua rfl ⟨⟨none,0,[],rfl,Cg.nil _ _⟩,?_⟩;have hB:Bw w _:=Cq.thn O
 rotate_left
 focus
  rw[t,YK]at o;go_enter func157,ntmps157;go_wp2_with (first|(go_at_call 213;refine(MM a c fs nx cp sg _ (hv.e Cq) hl g i).rtn λd O=>?_;obtain⟨af,ai⟩:=AU O;have l:Bw w d:=(Cq.thn O);have A:w.heap.size+1+1<d.heap.size:=yg qf O.size)|(go_at_call 197;refine(LP b _ m).j ?_;rintro e w' ⟨rfl,rfl⟩)|(go_at_call 214;refine(Tz sa k vs _ (s.e l) y u).rtn λz n=>?_;obtain⟨r,B⟩:=AU n)|fail);refine bodyPost_ret (v:=C6.ai.val none 0) (by simp[results,results157,go_sem,af,r,A,C6.val,C6.ai]) rfl ⟨⟨none,0,[],rfl,Cg.nil _ _⟩,?_⟩;have hB:Bw w z:=l.thn n
 rotate_left
 all_goals
  exact(((((hB.setCell qe _).setCell qe _).setCell qe _).setCell qe _).setCell qe _).setCell qe _
def jK(h:P:=by rw[HE.o];exact⟨⟨a3,c3,aj,rfl,(af.kept (λg hg=>ah.block g (by have:=(af.range hg).1;omega))).lower hB2.size⟩,(hB2.thn O).c (ah.e (by omega))⟩):=h
def zrS(a c fs nx cp sg d tag sa n vs w)(hv:Cs w a fs)(B:Cj w sa vs)(hl:fs.length<=1048576)(E:∀f∈fs,A6 f)(M:∀f∈fs,Do f)(L:d.size<=maxLen)(J:vs.length<=1048576)(W:∀v∈vs,ER v)(I:CQ fs nx cp sg=true)(a6:AP d.data.toList=true)(aN:DO vs=true) :
  Ca 157 #[.agg #[.slice a fs.length c,I6 nx,I6 cp,.bool sg],.agg #[.string d,I6 tag,.slice sa vs.length n]] w λe w'=>
   (∃a' c' xs,e=.returned ((CX fs nx cp sg d vs).val a' c')/\Cg w' w.heap.size (.slice a' (CX fs nx cp sg d vs).fs.length c') (CX fs nx cp sg d vs).fs.length (CX fs nx cp sg d vs).fs xs)/\Bw w w':=by
 have m:∀f∈fs,f.v.length<=1048576:=λf hf=>(E f hf).2.1;have aD:∀v∈vs,v.O.size<=maxLen:=λv h=>(W v h).2.2;obtain⟨n1,n2,n3,n4,n5⟩:=VO I;have U:=Tq I;have aA:=YM E M U;have aF:vs.length<=6:=by simp only[DO,ym,decide_eq_true_eq]at aN;exact aN.1
 have aS:Ib ⟨nx,d,vs⟩:=⟨L,aF,W⟩
 have aW:F_ sg 0 d vs fs=0∨0<F_ sg 0 d vs fs:=by
  unfold F_;split
  .exact gk (Wh 0) U
  exact .inl rfl
 go_enter func157,ntmps157;go_wp2_with (first|(go_at_call 213;refine(MM a c fs nx cp sg _ (hv.e Cq) hl E M).rtn λw0 k=>?_;obtain⟨a0,aZ⟩:=AU k;have Z:Bw w w0:=(Cq.thn k);have Y:w.heap.size+1+1<w0.heap.size:=yg qf k.size)|(go_at_call 197;refine(LP d _ L).j ?_;rintro e w' ⟨rfl,rfl⟩)|(go_at_call 214;refine(Tz sa n vs _ (B.e Z) J aD).rtn λi p=>?_;have N:=Es (Es (w:=_) (o:=.cells (MP a fs.length c nx cp sg).toArray 27 (0,0)) (b:=w.heap.size) ((yN _ _ _ qe).c ((yN _ _ _ qf).c (FP _ _ _ rfl))) k) p;have aO:=Es (Es (w:=_) (o:=.cells (jN d tag sa vs.length n).toArray 171 (0,0)) (b:=w.heap.size+1) ((yN _ _ _ qf).c (FP _ _ _ qf)) k) p;obtain⟨q0,q1,q2,q3⟩:=LB N;obtain⟨t0,t1,t2⟩:=ZU aO;have a4:w.heap.size+1+1<i.heap.size:=yg Y p.size;have aY:w.heap.size<i.heap.size:=qd;have aX:w.heap.size+1<i.heap.size:=qd)|fail);have C:Bw w i:=Z.thn p;obtain⟨R,hR,t⟩:∃R:Bl,Bk i (w.heap.size+1+1) R 87/\R.size=6:=⟨_,(p.block _ Y).c ((k.block _ qf).c (FP _ _ _ qf)),rfl⟩
 obtain⟨aP,aK⟩:=An hR N;refine(nG a c fs nx cp sg ⟨nx,d,vs⟩ sa n 0 _ ((hv.e C).e Ar) ((B.e C).e Ar) hl aA aS).rtn λl q=>?_;have A:Bw i l:=Ar.thn q;have hB2:Bw w l:=C.thn A;obtain⟨aV,y⟩:=An (Es aK A) (Es aP A);have g0:At l i.heap.size 0 (I6 nx):=zab q ql;have g1:At l i.heap.size 1 (.string d):=zab q ql;have g2:At l i.heap.size 2 (.slice sa vs.length n):=zab q ql;obtain⟨q0,q1,q2,q3⟩:=LB aV;have z:=hv.e hB2;have aG:=B.e hB2;have a7:i.heap.size<l.heap.size:=yg qf q.size;generalize x:F_ sg 0 d vs fs=T at aW;by_cases s:0<T
 .have HE:=Ad (show CX fs nx cp sg d vs=⟨fs,nx,cp,sg,2,T⟩ by unfold CX;rw[x,if_pos s]);have aa:(T != 0)=true:=by simp;omega
  go_wp2_with (first|(go_at_call 216;refine(PG a c fs nx cp sg 2 T l z hl m).j ?_;rintro e u ⟨⟨a3,c3,aj,rfl,af⟩,O⟩)|(refine Ec qh 87 (.tmp 4) (.tmp 37) qh (w.heap.size+1+1) (C6.cells ⟨fs,nx,cp,sg,2,T⟩ a3 c3) qh qh R 87 (Es y O) t IW (C6.one _ _ _) ?_;intro w4 aq ah)|fail)
  try go_frame
  refine bodyPost_ret (v:=C6.val ⟨fs,nx,cp,sg,2,T⟩ a3 c3) jX rfl ?_;exact jK
 have aU:T=0:=qd;subst aU;by_cases D:(fs.length:Int)=cp
 .have HE:=Ad (show CX fs nx cp sg d vs=⟨fs,nx,cp,sg,3,0⟩ by unfold CX;rw[x,if_neg s,if_pos D]);have a8:cp<=(fs.length:Int):=qd;go_wp2_with (first|(go_at_call 216;refine(PG a c fs nx cp sg 3 0 l z hl m).j ?_;rintro e u ⟨⟨a3,c3,aj,rfl,af⟩,O⟩)|(refine Ec qh 87 (.tmp 4) (.tmp 45) qh (w.heap.size+1+1) (C6.cells ⟨fs,nx,cp,sg,3,0⟩ a3 c3) qh qh R 87 (Es y O) t IW (C6.one _ _ _) ?_;intro w4 aq ah)|fail)
  try go_frame
  refine bodyPost_ret (v:=C6.val ⟨fs,nx,cp,sg,3,0⟩ a3 c3) jX rfl ?_;exact jK
 have hlt:(fs.length:Int)<cp:=qd;by_cases r:1000000<nx
 .have HE:=Ad (show CX fs nx cp sg d vs=⟨fs,nx,cp,sg,4,0⟩ by unfold CX;rw[x,if_neg s,if_neg D,if_pos r]);go_wp2_with (first|(go_at_call 216;refine(PG a c fs nx cp sg 4 0 l z hl m).j ?_;rintro e u ⟨⟨a3,c3,aj,rfl,af⟩,O⟩)|(refine Ec qh 87 (.tmp 4) (.tmp 50) qh (w.heap.size+1+1) (C6.cells ⟨fs,nx,cp,sg,4,0⟩ a3 c3) qh qh R 87 (Es y O) t IW (C6.one _ _ _) ?_;intro w4 aq ah)|fail)
  try go_frame
  refine bodyPost_ret (v:=C6.val ⟨fs,nx,cp,sg,4,0⟩ a3 c3) jX rfl ?_;exact jK
 have HE:=Ad (show CX fs nx cp sg d vs=⟨fs++[⟨nx,d,vs⟩],nx+1,cp,sg,0,nx⟩ by unfold CX;rw[x,if_neg s,if_neg D,if_neg r]);go_wp2_with fail
 go_region_held3 (λw'=>At w' w.heap.size 0 (.slice a fs.length c)/\At w' w.heap.size 1 (I6 nx)/\At w' w.heap.size 2 (I6 cp)/\At w' w.heap.size 3 (.bool sg)/\At w' i.heap.size 0 (I6 nx)/\At w' i.heap.size 1 (.string d)/\At w' i.heap.size 2 (.slice sa vs.length n))
  ((go_split_ands;refine⟨?_,?_,?_,?_,?_,?_,?_⟩<;>first|((with_reducible refine zaM (zaM (zaM (zaM (zaM (zaM ?_ ?_ _) ?_ _) ?_ _) ?_ _) ?_ _) ?_ _)<;>first|with_reducible assumption|(dsimp only;omega))|(with_reducible refine zv9 G ?_ qk;show _<l.heap.size;omega)|with_reducible exact zab O qk|with_reducible exact zcF qk))
  (first|(go_at_call 217;refine(rh a c fs nx cp sg _ (z.e ?_) hl m).j ?_;exact Au.drew;rintro e u ⟨⟨a3,c3,aj,rfl,af⟩,O⟩)|(go_at_call 218;refine(nQ a3 c3 fs aj nx cp sg ⟨nx,d,vs⟩ sa n l.heap.size u af (aG.e ?_) hl J O.size (by show 0<=nx;omega) (by show nx<=1000000;omega)).j ?_;exact Au.drew.c O;rintro e w5 ⟨⟨H,K,aQ,rfl,aT⟩,G⟩;dsimp only[C6.val];obtain⟨x0,x1,x2,x3,x4,x5,y0,y1,y2,y3,y4,y5,z0,z1,z2,z3,z4,z5⟩:=Qc (b:=w.heap.size+1+1) ((G.block _ qd).c (Es (w:=l.drew) y O)) t)|fail)
 go_wp2;refine bodyPost_ret (v:=C6.val ⟨fs++[⟨nx,d,vs⟩],nx+1,cp,sg,0,nx⟩ H K) (by simp[results,results157,go_sem,C6.val, *]) rfl ?_;rw[HE.o];refine⟨⟨H,K,aQ,rfl,?_⟩,?_⟩
 .exact((((((aT.set qe _).set qe _).set qe _).set qe _).set qe _).set qe _).lower hB2.size
 have aR:Bw w w5:=(hB2.drew.c (O.j hB2.size)).c (G.j hB2.size);exact(((((aR.setCell qe _).setCell qe _).setCell qe _).setCell qe _).setCell qe _).setCell qe _
def zoD(a c fs nx cp sg b tag sa d vs w)(hv:Cs w a fs)(l:Cj w sa vs)(hl:fs.length<=1048576)(j:∀f∈fs,A6 f)(m:∀f∈fs,Do f)(i:b.size<=maxLen)(O:vs.length<=1048576)(n:∀v∈vs,ER v) :
  Ca 157 #[.agg #[.slice a fs.length c,I6 nx,I6 cp,.bool sg],.agg #[.string b,I6 tag,.slice sa vs.length d]] w λe w'=>
   (∃g k xs,e=.returned ((DF fs nx cp sg b vs).val g k)/\Cg w' w.heap.size (.slice g (DF fs nx cp sg b vs).fs.length k) (DF fs nx cp sg b vs).fs.length (DF fs nx cp sg b vs).fs xs)/\Bw w w':=by
 cases h:(CQ fs nx cp sg&&(AP b.data.toList&&DO vs))
 .rw[Vg h];exact zoq a c fs nx cp sg b tag sa d vs w hv l hl j m i O (λv h=>(n v h).2.2) h
 simp only[ym]at h;rw[Vb h.1 h.2.1 h.2.2];exact zrS a c fs nx cp sg b tag sa d vs w hv l hl j m i O n h.1 h.2.1 h.2.2
section
open Go.Maps
def zoN(a c fs nx cp sg g tag sa i vs w)(hv:Cs w a fs)(s:Cj w sa vs)(hl:fs.length<=1048576)(j:∀f∈fs,A6 f)(l:∀f∈fs,Do f)(t:vs.length<=1048576)(A:∀v∈vs,v.O.size<=maxLen)(z:(CQ fs nx cp sg&&DO vs)=false) :
  Ca 159 #[.agg #[.slice a fs.length c,I6 nx,I6 cp,.bool sg],.agg #[.string g,I6 tag,.slice sa vs.length i]] w λe w'=>
   (∃n o xs,e=.returned (C6.ai.val n o)/\Cg w' w.heap.size (.slice n C6.ai.fs.length o) C6.ai.fs.length C6.ai.fs xs)/\Bw w w':=by
 cases r:CQ fs nx cp sg
 focus
  go_enter func159,ntmps159;go_wp2_with (go_at_call 213;refine(MM a c fs nx cp sg _ (hv.e Cq) hl j l).rtn λb O=>?_;obtain⟨d,q⟩:=AU O);refine bodyPost_ret (v:=C6.ai.val none 0) (by simp[results,results159,go_sem,d,C6.val,C6.ai]) rfl ⟨⟨none,0,[],rfl,Cg.nil _ _⟩,?_⟩;have m:Bw w b:=Cq.thn O
 rotate_left
 focus
  rw[r,YK]at z;go_enter func159,ntmps159;go_wp2_with (first|(go_at_call 213;refine(MM a c fs nx cp sg _ (hv.e Cq) hl j l).rtn λb O=>?_;obtain⟨d,q⟩:=AU O;have k:Bw w b:=(Cq.thn O);have x:w.heap.size+1+1<b.heap.size:=yg qf O.size)|(go_at_call 214;refine(Tz sa i vs _ (s.e k) t A).rtn λy p=>?_;obtain⟨u,B⟩:=AU p)|fail);refine bodyPost_ret (v:=C6.ai.val none 0) (by simp[results,results159,go_sem,d,u,x,C6.val,C6.ai]) rfl ⟨⟨none,0,[],rfl,Cg.nil _ _⟩,?_⟩;have m:Bw w y:=k.thn p
 rotate_left
 all_goals
  exact(((((m.setCell qe _).setCell qe _).setCell qe _).setCell qe _).setCell qe _).setCell qe _
def uR(h:P:=by rw[HM.o,HE.o];exact⟨⟨a4,c4,aq,rfl,(ak.kept (λg hg=>ar.block g (by have:=(ak.range hg).1;omega))).lower aj.size⟩,(aj.thn af).c (ar.e (by omega))⟩):=h
def zpT(a c fs nx cp sg y tag sa r vs w)(hv:Cs w a fs)(aP:Cj w sa vs)(hc:fs.length<=c)(hl:fs.length<=1048576)(hs:∀f∈fs,A6 f)(C:∀f∈fs,Do f)(bm:(Lit.int .i64 tag).wf=true)(aR:vs.length<=1048576)(aQ:∀v∈vs,ER v)(I:CQ fs nx cp sg=true)(J:DO vs=true) :
  Ca 159 #[.agg #[.slice a fs.length c,I6 nx,I6 cp,.bool sg],.agg #[.string y,I6 tag,.slice sa vs.length r]] w λe w'=>
   (∃a' c' xs,e=.returned ((CA fs nx cp sg tag vs).val a' c')/\Cg w' w.heap.size (.slice a' (CA fs nx cp sg tag vs).fs.length c') (CA fs nx cp sg tag vs).fs.length (CA fs nx cp sg tag vs).fs xs)/\Bw w w':=by
 have n:∀f∈fs,f.v.length<=1048576:=λf t=>(hs f t).2.1;have aS:∀v∈vs,v.O.size<=maxLen:=λv h=>(aQ v h).2.2;obtain⟨n1,n2,n3,n4,n5⟩:=VO I;have H:=Tq I;have aB:=YM hs C H;have aY:vs.length<=6:=by simp only[DO,ym,decide_eq_true_eq]at J;exact J.1
 go_enter func159,ntmps159;go_wp2_with (first|(go_at_call 213;refine(MM a c fs nx cp sg _ (hv.e Cq) hl hs C).rtn λw0 l=>?_;obtain⟨bu,bt⟩:=AU l;have aU:Bw w w0:=(Cq.thn l);have a7:w.heap.size+1+1<w0.heap.size:=yg qf l.size)|(go_at_call 214;refine(Tz sa r vs _ (aP.e aU) aR aS).rtn λq s=>?_)|fail);obtain⟨aZ,aL⟩:=An (Es (Es (w:=_) (o:=.cells (MP a fs.length c nx cp sg).toArray 27 (0,0)) (b:=w.heap.size) ((yN _ _ _ qe).c ((yN _ _ _ qf).c (FP _ _ _ rfl))) l) s) (Es (Es (w:=_) (o:=.cells (jN y tag sa vs.length r).toArray 171 (0,0)) (b:=w.heap.size+1) ((yN _ _ _ qf).c (FP _ _ _ qf)) l) s);obtain⟨R,hR,G⟩:∃R:Bl,Bk q (w.heap.size+1+1) R 87/\R.size=6:=⟨_,(s.block _ a7).c ((l.block _ qf).c (FP _ _ _ qf)),rfl⟩
 have aM:=Ad hR;have z:Bw w q:=aU.thn s;have aT:w.heap.size+1+1<q.heap.size:=yg a7 s.size;obtain⟨q0,q1,q2,q3⟩:=LB aZ;obtain⟨t0,t1,t2⟩:=ZU aL;have aV:=hv.e z;have aK:∀(W:Aa)(b:Nat)(D:DataW Unit),W.ownsMap prog 3 (plainElem prog 3) b fs.length D->FK fs fs.length D->(Instr.lookup 172 (.map (some b)) (I6 tag) true).run prog W=.ok (.tuple #[I6 (Up (Bb tag fs)),.bool (Bb tag fs).isSome]) W:=λ_ _ _ ho hI=>Vk ho hI bm;have HLK:=Ad aK;cases hi:Bb tag fs with
 |none=>
  have HE:=Ad (VB (tag:=tag) I J hi)
  go_region_held3 (λw'=>At w' w.heap.size 0 (.slice a fs.length c)/\At w' w.heap.size 1 (I6 nx)/\At w' w.heap.size 2 (I6 cp)/\At w' w.heap.size 3 (.bool sg)/\At w' (w.heap.size+1) 1 (I6 tag))
   ((go_split_ands;refine⟨?_,?_,?_,?_,?_⟩<;>first|with_reducible assumption|with_reducible exact zab O qk|with_reducible exact zcF qk))
   (first|(go_at_call 96;refine(VF a c fs nx cp sg _ (aV.e ?_) hl H C).j ?_;exact Au.drew;rintro e d ⟨b2,D,rfl,aE,aJ,O⟩;have a6:(Instr.lookup 172 (.map (some b2)) (I6 tag) true).run prog d=.ok (.tuple #[I6 0,.bool false]) d:=u9)|fail)
  have k:Bw w d:=z.drew.c (O.j z.size);have u:=hv.e k;have bn:w.heap.size+1+1<d.heap.size:=yg aT O.size;have Z:=Ad (Es (w:=q.drew) aM O);go_wp2_with (first|(go_at_call 216;refine(PG a c fs nx cp sg 5 0 d u hl n).j ?_;rintro e m ⟨⟨U,L,bk,rfl,aN⟩,p⟩)|(refine Ec qh 87 (.tmp 4) (.tmp 30) qh (w.heap.size+1+1) (C6.cells ⟨fs,nx,cp,sg,5,0⟩ U L) qh qh R 87 (Es Z p) G IW (C6.one _ _ _) ?_;intro K bl aO)|fail)
  try go_frame
  refine bodyPost_ret (v:=C6.val ⟨fs,nx,cp,sg,5,0⟩ U L) (by simp[results,results159,asAddr,C6.load bl.o]) rfl ?_;rw[HE.o];exact⟨⟨U,L,bk,rfl,(aN.kept (λg hg=>aO.block g (by have:=(aN.range hg).1;omega))).lower k.size⟩,(k.thn p).c (aO.e qd)⟩
 |some i=>
  have aX:=SS hi;obtain⟨f,t⟩:=Bq aX;have HM:=Ad (VA (tag:=tag) I J hi t);have a8:f.E.size<=maxLen:=(aB f (yd t)).1;have bg:Ib ⟨nx,f.E,vs⟩:=⟨a8,aY,aQ⟩
  have bo:F_ sg tag f.E vs fs=0∨0<F_ sg tag f.E vs fs:=by
   unfold F_;split
   .exact gk (Wh 0) H
   exact .inl rfl
  go_region_held3 (λw'=>At w' w.heap.size 0 (.slice a fs.length c)/\At w' w.heap.size 1 (I6 nx)/\At w' w.heap.size 2 (I6 cp)/\At w' w.heap.size 3 (.bool sg)/\At w' (w.heap.size+1) 1 (I6 tag))
   ((go_split_ands;refine⟨?_,?_,?_,?_,?_⟩<;>first|with_reducible assumption|with_reducible exact zab O qk|with_reducible exact zcF qk))
   (first|(go_at_call 96;refine(VF a c fs nx cp sg _ (aV.e ?_) hl H C).j ?_;exact Au.drew;rintro e d ⟨b2,D,rfl,aE,aJ,O⟩;have a6:(Instr.lookup 172 (.map (some b2)) (I6 tag) true).run prog d=.ok (.tuple #[I6 i,.bool true]) d:=u9)|fail)
  have k:Bw w d:=z.drew.c (O.j z.size);have u:=hv.e k;have aC:=aP.e k;have bn:w.heap.size+1+1<d.heap.size:=yg aT O.size;have bp:w.heap.size<d.heap.size:=qd;have bq:w.heap.size+1<d.heap.size:=qd;obtain⟨Z,a0,bh⟩:=AK (Es (w:=q.drew) aM O) (Es (w:=q.drew) aZ O) (Es (w:=q.drew) aL O);obtain⟨b,o,rfl,c0,c1,_⟩:=u i f t;have bv:b<d.heap.size:=yI d ⟨b,_,none⟩ c1;go_split_ands;obtain⟨q0,q1,q2,q3⟩:=LB a0;obtain⟨t0,t1,t2⟩:=ZU bh;go_wp2;go_region;go_wp2_with fail;have B:∀o,Bw d (d.alloc o).drew:=λo=>Ar.drew;refine(nG (some ⟨b,o,none⟩) c fs nx cp sg ⟨nx,f.E,vs⟩ sa r tag _ (u.e (B _)) (aC.e (B _)) hl aB bg).rtn λm p=>?_;have x:Bw d m:=(B _).c (p.j (B _).size);have aj:Bw w m:=k.thn x;obtain⟨a9,aG⟩:=An (Es a0 x) (Es Z x);have g0:At m d.heap.size 0 (I6 nx):=zab p (zcF ql);have g1:At m d.heap.size 1 (.string f.E):=zab p (zcF ql);have g2:At m d.heap.size 2 (.slice sa vs.length r):=zab p (zcF ql);have N:=u.e x;have aW:=aC.e x;have br:d.heap.size<m.heap.size:=yg (by show d.heap.size<(d.alloc _).heap.size;simp) p.size;have bd:(fs.eraseIdx i).length<=1048576:=yi (by rw[KG];split<;>omega) hl;obtain⟨q0,q1,q2,q3⟩:=LB a9;generalize Y:F_ sg tag f.E vs fs=T at bo;by_cases M:0<T
  .have HE:=Ad (pC (nx:=nx) (cp:=cp) (i:=i) Y M);have aa:(T != 0)=true:=by simp;omega
   go_wp2_with (first|(go_at_call 216;refine(PG (some ⟨b,o,none⟩) c fs nx cp sg 2 T m N hl n).j ?_;rintro e K ⟨⟨a4,c4,aq,rfl,ak⟩,af⟩)|(refine Ec qh 87 (.tmp 4) (.tmp 51) qh (w.heap.size+1+1) (C6.cells ⟨fs,nx,cp,sg,2,T⟩ a4 c4) qh qh R 87 (Es aG af) G IW (C6.one _ _ _) ?_;intro w5 aF ar)|fail)
   try go_frame
   refine bodyPost_ret (v:=C6.val ⟨fs,nx,cp,sg,2,T⟩ a4 c4) (by simp[results,results159,asAddr,C6.load aF.o]) rfl ?_;exact uR
  have bj:T=0:=qd;subst bj;by_cases A:1000000<nx
  .have HE:=Ad (pg (cp:=cp) (i:=i) Y M A);go_wp2_with (first|(go_at_call 216;refine(PG (some ⟨b,o,none⟩) c fs nx cp sg 4 0 m N hl n).j ?_;rintro e K ⟨⟨a4,c4,aq,rfl,ak⟩,af⟩)|(refine Ec qh 87 (.tmp 4) (.tmp 56) qh (w.heap.size+1+1) (C6.cells ⟨fs,nx,cp,sg,4,0⟩ a4 c4) qh qh R 87 (Es aG af) G IW (C6.one _ _ _) ?_;intro w5 aF ar)|fail)
   try go_frame
   refine bodyPost_ret (v:=C6.val ⟨fs,nx,cp,sg,4,0⟩ a4 c4) (by simp[results,results159,asAddr,C6.load aF.o]) rfl ?_;exact uR
  have HE:=Ad (o9 (cp:=cp) (i:=i) Y M A);go_wp2_with fail
  go_region_held3 (λw'=>At w' w.heap.size 0 (.slice (some ⟨b,o,none⟩) fs.length c)/\At w' w.heap.size 1 (I6 nx)/\At w' w.heap.size 2 (I6 cp)/\At w' w.heap.size 3 (.bool sg)/\At w' d.heap.size 0 (I6 nx)/\At w' d.heap.size 1 (.string f.E)/\At w' d.heap.size 2 (.slice sa vs.length r))
   ((go_split_ands;refine⟨?_,?_,?_,?_,?_,?_,?_⟩<;>first|((with_reducible refine zaM (zaM (zaM (zaM (zaM (zaM ?_ ?_ _) ?_ _) ?_ _) ?_ _) ?_ _) ?_ _)<;>first|with_reducible assumption|(dsimp only;omega))|(with_reducible refine zv9 aH ?_ qk;show _<m.heap.size;omega)|with_reducible exact zab af qk|with_reducible exact zcF qk))
   (first|(go_at_call 219;refine(pG (some ⟨b,o,none⟩) c fs nx cp sg i _ (N.e ?_) hc hl n aX).j ?_;exact Au.drew;rintro e K ⟨⟨a4,c4,aq,rfl,ak⟩,af⟩)|(go_at_call 218;refine(nQ a4 c4 (fs.eraseIdx i) aq nx cp sg ⟨nx,f.E,vs⟩ sa r m.heap.size K ak (aW.e ?_) bd aR af.size (by show 0<=nx;omega) (by show nx<=1000000;omega)).j ?_;exact Au.drew.c af;rintro e w5 ⟨⟨a5,c5,bc,rfl,bi⟩,aH⟩;dsimp only[C6.val];obtain⟨x0,x1,x2,x3,x4,x5,y0,y1,y2,y3,y4,y5,z0,z1,z2,z3,z4,z5⟩:=Qc (b:=w.heap.size+1+1) ((aH.block _ qd).c (Es (w:=m.drew) aG af)) G)|fail)
  go_wp2;refine bodyPost_ret (v:=C6.val ⟨fs.eraseIdx i++[⟨nx,f.E,vs⟩],nx+1,cp,sg,0,nx⟩ a5 c5) (by simp[results,results159,go_sem,C6.val, *]) rfl ?_;rw[HM.o,HE.o];refine⟨⟨a5,c5,bc,rfl,?_⟩,?_⟩
  .exact((((((bi.set qe _).set qe _).set qe _).set qe _).set qe _).set qe _).lower aj.size
  have bf:Bw w w5:=(aj.drew.c (af.j aj.size)).c (aH.j aj.size);exact(((((bf.setCell qe _).setCell qe _).setCell qe _).setCell qe _).setCell qe _).setCell qe _
def zoE(a c fs nx cp sg b tag sa d vs w)(hv:Cs w a fs)(i:Cj w sa vs)(n:fs.length<=c)(hl:fs.length<=1048576)(j:∀f∈fs,A6 f)(m:∀f∈fs,Do f)(o:(Lit.int .i64 tag).wf=true)(O:vs.length<=1048576)(l:∀v∈vs,ER v) :
  Ca 159 #[.agg #[.slice a fs.length c,I6 nx,I6 cp,.bool sg],.agg #[.string b,I6 tag,.slice sa vs.length d]] w λe w'=>
   (∃g k xs,e=.returned ((CA fs nx cp sg tag vs).val g k)/\Cg w' w.heap.size (.slice g (CA fs nx cp sg tag vs).fs.length k) (CA fs nx cp sg tag vs).fs.length (CA fs nx cp sg tag vs).fs xs)/\Bw w w':=by
 cases h:(CQ fs nx cp sg&&DO vs)
 .rw[Vh h];exact zoN a c fs nx cp sg b tag sa d vs w hv i hl j m O (λv h=>(l v h).2.2) h
 simp only[ym]at h;exact zpT a c fs nx cp sg b tag sa d vs w hv i n hl j m o O l h.1 h.2
def uU(h:P:=by exact((((((aj.set (by simp;omega) _).set (by simp;omega) _).set (by simp;omega) _).set (by simp;omega) _).set (by simp;omega) _).set (by simp;omega) _).lower ah.size):=h
def iy(h:P:=by exact((((((ah.thn af).setCell (by simp;omega) _).setCell (by simp;omega) _).setCell (by simp;omega) _).setCell (by simp;omega) _).setCell (by simp;omega) _).setCell (by simp;omega) _):=h
def zkA(a c fs nx cp sg d tag sa g vs w)(hv:Cs w a fs)(_hc:fs.length<=c)(_hwt:(Lit.int .i64 tag).wf=true)(u:Cj w sa vs)(hl:fs.length<=1048576)(p:∀f∈fs,A6 f)(s:∀f∈fs,Do f)(r:d.size<=maxLen)(x:vs.length<=1048576)(q:∀v∈vs,ER v) :
  Ca 45 #[.agg #[I6 1,I6 tag,.string d,.slice sa vs.length g],.agg #[.slice a fs.length c,I6 nx,I6 cp,.bool sg]] w λe w'=>
   (∃m n xs,e=.returned ((DF fs nx cp sg d vs).val m n)/\Cg w' w.heap.size (.slice m (DF fs nx cp sg d vs).fs.length n) (DF fs nx cp sg d vs).fs.length (DF fs nx cp sg d vs).fs xs)/\Bw w w':=by
 go_enter func45,ntmps45;go_wp2_with fail
 go_region_held3 (λw'=>At w' w.heap.size 0 (I6 1)/\At w' w.heap.size 1 (I6 tag)/\At w' w.heap.size 2 (.string d)/\At w' w.heap.size 3 (.slice sa vs.length g)/\At w' (w.heap.size+1) 0 (.slice a fs.length c)/\At w' (w.heap.size+1) 1 (I6 nx)/\At w' (w.heap.size+1) 2 (I6 cp)/\At w' (w.heap.size+1) 3 (.bool sg))
  ((go_split_ands;refine⟨?_,?_,?_,?_,?_,?_,?_,?_⟩<;>first|((with_reducible refine zaM (zaM (zaM (zaM (zaM (zaM ?_ ?_ _) ?_ _) ?_ _) ?_ _) ?_ _) ?_ _)<;>first|with_reducible assumption|(dsimp only;omega))|with_reducible exact zab af qk|with_reducible exact zab O qk|(simp[go_sem];done)))
  (first|(go_at_call 95;refine(gv 1 _ qd rfl _).rtn λk O=>?_)|(go_at_call 157;refine(zoD a c fs nx cp sg d tag sa g vs _ (hv.e ?_) (u.e ?_) hl p s r x q).j ?_;exact Cq.drew.c (O.j qe);exact Cq.drew.c (O.j qe);rintro e L ⟨⟨i,l,o,rfl,aj⟩,af⟩;dsimp only[C6.val];obtain⟨x0,x1,J,E,D,N,G,H,I,C,T,z,A,U,M,B,K,y⟩:=Qc (b:=w.heap.size+1+1) (t:=87) ((af.block _ (yg qf O.size)).c ((O.block _ qf).c (FP _ _ _ qf))) rfl)|fail)
 go_wp2;have ah:Bw w k:=Cq.drew.c (O.j qe);have R:w.heap.size+1+1+1<=k.heap.size:=by have:=O.size;simpa using this
 refine bodyPost_ret (v:=(DF fs nx cp sg d vs).val i l) j5 rfl ⟨⟨i,l,o,rfl,?_⟩,?_⟩
 .exact uU
 exact iy
def zjG(a c fs nx cp sg d tag sa g vs w)(hv:Cs w a fs)(p:fs.length<=c)(s:(Lit.int .i64 tag).wf=true)(_hsv:Cj w sa vs)(hl:fs.length<=1048576)(o:∀f∈fs,A6 f)(r:∀f∈fs,Do f)(_hcs:d.size<=maxLen)(_hvl:vs.length<=1048576)(_hvs:∀v∈vs,ER v) :
  Ca 45 #[.agg #[I6 2,I6 tag,.string d,.slice sa vs.length g],.agg #[.slice a fs.length c,I6 nx,I6 cp,.bool sg]] w λe w'=>
   (∃m n xs,e=.returned ((Df fs nx cp sg tag).val m n)/\Cg w' w.heap.size (.slice m (Df fs nx cp sg tag).fs.length n) (Df fs nx cp sg tag).fs.length (Df fs nx cp sg tag).fs xs)/\Bw w w':=by
 go_enter func45,ntmps45;go_wp2_with fail
 go_region_held3 (λw'=>At w' w.heap.size 0 (I6 2)/\At w' w.heap.size 1 (I6 tag)/\At w' w.heap.size 2 (.string d)/\At w' w.heap.size 3 (.slice sa vs.length g)/\At w' (w.heap.size+1) 0 (.slice a fs.length c)/\At w' (w.heap.size+1) 1 (I6 nx)/\At w' (w.heap.size+1) 2 (I6 cp)/\At w' (w.heap.size+1) 3 (.bool sg))
  ((go_split_ands;refine⟨?_,?_,?_,?_,?_,?_,?_,?_⟩<;>first|((with_reducible refine zaM (zaM (zaM (zaM (zaM (zaM ?_ ?_ _) ?_ _) ?_ _) ?_ _) ?_ _) ?_ _)<;>first|with_reducible assumption|(dsimp only;omega))|with_reducible exact zab af qk|with_reducible exact zab O qk|(simp[go_sem];done)))
  (first|(go_at_call 95;refine(gv 2 _ qd rfl _).rtn λk O=>?_)|(go_at_call 158;refine(zmu a c fs nx cp sg d tag sa vs.length g _ (hv.e ?_) p hl o r s).j ?_;exact Cq.drew.c (O.j qe);rintro e J ⟨⟨i,l,q,rfl,aj⟩,af⟩;dsimp only[C6.val];obtain⟨x0,x1,H,C,B,L,D,E,G,A,N,x,y,R,K,z,I,u⟩:=Qc (b:=w.heap.size+1+1) (t:=87) ((af.block _ (yg qf O.size)).c ((O.block _ qf).c (FP _ _ _ qf))) rfl)|fail)
 go_wp2;have ah:Bw w k:=Cq.drew.c (O.j qe);have M:w.heap.size+1+1+1<=k.heap.size:=by have:=O.size;simpa using this
 refine bodyPost_ret (v:=(Df fs nx cp sg tag).val i l) j5 rfl ⟨⟨i,l,q,rfl,?_⟩,?_⟩
 .exact uU
 exact iy
def zlj(a c fs nx cp sg d tag sa g vs w)(hv:Cs w a fs)(q:fs.length<=c)(r:(Lit.int .i64 tag).wf=true)(y:Cj w sa vs)(hl:fs.length<=1048576)(p:∀f∈fs,A6 f)(x:∀f∈fs,Do f)(_hcs:d.size<=maxLen)(z:vs.length<=1048576)(s:∀v∈vs,ER v) :
  Ca 45 #[.agg #[I6 3,I6 tag,.string d,.slice sa vs.length g],.agg #[.slice a fs.length c,I6 nx,I6 cp,.bool sg]] w λe w'=>
   (∃m n xs,e=.returned ((CA fs nx cp sg tag vs).val m n)/\Cg w' w.heap.size (.slice m (CA fs nx cp sg tag vs).fs.length n) (CA fs nx cp sg tag vs).fs.length (CA fs nx cp sg tag vs).fs xs)/\Bw w w':=by
 go_enter func45,ntmps45;go_wp2_with fail
 go_region_held3 (λw'=>At w' w.heap.size 0 (I6 3)/\At w' w.heap.size 1 (I6 tag)/\At w' w.heap.size 2 (.string d)/\At w' w.heap.size 3 (.slice sa vs.length g)/\At w' (w.heap.size+1) 0 (.slice a fs.length c)/\At w' (w.heap.size+1) 1 (I6 nx)/\At w' (w.heap.size+1) 2 (I6 cp)/\At w' (w.heap.size+1) 3 (.bool sg))
  ((go_split_ands;refine⟨?_,?_,?_,?_,?_,?_,?_,?_⟩<;>first|((with_reducible refine zaM (zaM (zaM (zaM (zaM (zaM ?_ ?_ _) ?_ _) ?_ _) ?_ _) ?_ _) ?_ _)<;>first|with_reducible assumption|(dsimp only;omega))|with_reducible exact zab af qk|with_reducible exact zab O qk|(simp[go_sem];done)))
  (first|(go_at_call 95;refine(gv 3 _ qd rfl _).rtn λk O=>?_)|(go_at_call 159;refine(zoE a c fs nx cp sg d tag sa g vs _ (hv.e ?_) (y.e ?_) q hl p x r z s).j ?_;exact Cq.drew.c (O.j qe);exact Cq.drew.c (O.j qe);rintro e N ⟨⟨i,l,o,rfl,u⟩,af⟩;dsimp only[C6.val];obtain⟨x0,x1,L,H,G,T,I,J,K,E,W,B,C,Y,R,D,M,A⟩:=Qc (b:=w.heap.size+1+1) (t:=87) ((af.block _ (yg qf O.size)).c ((O.block _ qf).c (FP _ _ _ qf))) rfl)|fail)
 go_wp2;have ah:Bw w k:=Cq.drew.c (O.j qe);have U:w.heap.size+1+1+1<=k.heap.size:=by have:=O.size;simpa using this
 refine bodyPost_ret (v:=(CA fs nx cp sg tag vs).val i l) j5 rfl ⟨⟨i,l,o,rfl,?_⟩,?_⟩
 .exact((((((u.set qe _).set qe _).set qe _).set qe _).set qe _).set qe _).lower ah.size
 exact iy
end
def IM.kept{Z w w' base v n fs xs}(h:IM Z w base v n fs xs)(d:∀b,(Z b∨v.ownBlock=some b)->w'.heap[b]?=w.heap[b]?):IM Z w' base v n fs xs:=
 ⟨h.num,h.len,Ci h.aa (λg m=>d g (.inr m)),λi f x l j=>by
  obtain⟨a,c,e,hv⟩:=h.V i f x l j
  exact⟨a,c,e,hv.kept (λb k _=>d b (.inl k))⟩,h.apart⟩
def zlY(a c fs nx cp sg tag sa j vs w)(hv:Cs w a fs)(s:Cj w sa vs)(l:fs.length<=c)(hl:fs.length<=1048576)(k:∀f∈fs,A6 f)(t:vs.length<=1048576)(A:∀v∈vs,v.O.size<=maxLen)(z:(CQ fs nx cp sg&&DO vs)=false) :
  Ca 62 #[.agg #[.slice a fs.length c,I6 nx,I6 cp,.bool sg],I6 tag,.slice sa vs.length j] w λe w'=>
   (∃o p,e=.returned (C6.ai.val o p)/\DN (λb=>w.heap.size<=b) w' o C6.ai.fs/\C6.ai.fs.length<=p)/\Bw w w':=by
 cases r:CQ fs nx cp sg
 focus
  go_enter func62,ntmps62;go_wp2_with (go_at_call 115;refine(ML a c fs nx cp sg _ (hv.e Br) l hl k).rtn λd O=>?_;obtain⟨g,q⟩:=AU O);refine bodyPost_ret (v:=C6.ai.val none 0) (by simp[results,results62,go_sem,g,C6.val,C6.ai]) rfl ⟨⟨none,0,rfl,λi f hf=>OH,yn _⟩,?_⟩;have n:Bw w d:=Br.thn O
 rotate_left
 focus
  rw[r,YK]at z;go_enter func62,ntmps62;go_wp2_with (first|(go_at_call 115;refine(ML a c fs nx cp sg _ (hv.e Br) l hl k).rtn λd O=>?_;obtain⟨g,q⟩:=AU O;have m:Bw w d:=(Br.thn O);have x:w.heap.size+1<d.heap.size:=yg qf O.size)|(go_at_call 117;refine(RV sa j vs _ (s.e m) t A).rtn λy ai=>?_;obtain⟨u,B⟩:=AU ai)|fail);refine bodyPost_ret (v:=C6.ai.val none 0) (by simp[results,results62,go_sem,g,u,x,C6.val,C6.ai]) rfl ⟨⟨none,0,rfl,λi f hf=>OH,yn _⟩,?_⟩;have n:Bw w y:=m.thn ai
 rotate_left
 all_goals
  exact(((((n.setCell qf _).setCell qf _).setCell qf _).setCell qf _).setCell qf _).setCell qf _
def sx(h:P:=by rw[HM.o,HE.o];exact⟨⟨a2,c2,rfl,(aI.kept (λb hz _=>af.block b (by omega))).j (λb hz=>by omega),ah⟩,au.c (af.e (by omega))⟩):=h
def zo5(a c fs nx cp sg tag sa J vs w)(hv:Cs w a fs)(W:Cj w sa vs)(hc:fs.length<=c)(hl:fs.length<=1048576)(hs:∀f∈fs,A6 f)(aN:vs.length<=1048576)(a8:∀v∈vs,v.O.size<=maxLen)(K:CQ fs nx cp sg=true)(aZ:DO vs=true) :
  Ca 62 #[.agg #[.slice a fs.length c,I6 nx,I6 cp,.bool sg],I6 tag,.slice sa vs.length J] w λe w'=>
   (∃a' c',e=.returned ((CA fs nx cp sg tag vs).val a' c')/\DN (λb=>w.heap.size<=b) w' a' (CA fs nx cp sg tag vs).fs/\(CA fs nx cp sg tag vs).fs.length<=c')/\Bw w w':=by
 have x:∀f∈fs,f.v.length<=1048576:=λf C=>(hs f C).2.1;obtain⟨n1,n2,n3,n4,n5⟩:=VO K;go_enter func62,ntmps62;go_wp2_with (first|(go_at_call 115;refine(ML a c fs nx cp sg _ (hv.e Br) hc hl hs).rtn λw0 d=>?_;obtain⟨bq,bp⟩:=AU d;have aP:Bw w w0:=(Br.thn d);have aY:w.heap.size+1<w0.heap.size:=yg qf d.size;have aJ:w.heap.size<w0.heap.size:=qd)|(go_at_call 117;refine(RV sa J vs _ (W.e aP) aN a8).rtn λq s=>?_;obtain⟨bt,br⟩:=AU s)|fail);have aV:Bw w q:=aP.thn s;have bu:w.heap.size+1<q.heap.size:=yg aY s.size;obtain⟨R,hR,D⟩:∃R:Bl,Bk q (w.heap.size+1) R 87/\R.size=6:=⟨_,(s.block _ aY).c ((d.block _ qf).c (FP _ _ _ qf)),rfl⟩
 have bl:Bk q (w.heap.size) ((MP a fs.length c nx cp sg).toArray) 27:=(s.block _ aJ).c ((d.block _ qe).c ((yN _ _ _ qf).c (FP _ _ _ rfl)));refine(VH a c fs nx cp sg q (hv.e aV) hl x).j ?_;rintro e g ⟨⟨a2,c2,bw,rfl,aK⟩,B⟩;obtain⟨bm,a0⟩:=An (Es bl B) (Es hR B);have t:Bw w g:=aV.thn B;have bz:=B.size;obtain⟨bk,ah⟩:=An aK.on (PA aK.aa);go_wp2_with (first|(refine Ec qh 27 (.tmp 7) (.tmp 21) qh g.heap.size (MP a2 fs.length c2 nx cp sg) qh qh _ 27 (FP _ _ _ rfl) qh X7 (l_ _ _ _ _ _ _) ?_;intro G aT H;have aC:=Ad (U2 bm H);obtain⟨q0,q1,q2,q3⟩:=LB aC)|fail);have aM:=EQ H;have bn:=ZI H;have I:Bw w G:=t.thn aM;obtain⟨aA,aB⟩:=An (U2 a0 H) (bk.kept (w':=G) (λb _ hlt=>aM.block b hlt));obtain⟨p0,p1,p2,p3⟩:=LB aT;have aE:=hv.e I;have O:=gP a c fs tag G aE hl
 cases n:Bb tag fs with
 |none=>
  have HE:=Ad (VB (tag:=tag) K aZ n);rw[n]at O;refine O.j ?_;rintro e l ⟨rfl,U⟩;have L:=U.z;subst L;go_wp2_with (first|(refine Ec qh 87 (.tmp 6) (.tmp 29) qh (w.heap.size+1) (C6.cells ⟨fs,nx,cp,sg,5,0⟩ a2 c2) qh qh R 87 aA D IW (C6.one _ _ _) ?_;intro A ao af)|fail)
  try go_frame
  refine bodyPost_ret (v:=C6.val ⟨fs,nx,cp,sg,5,0⟩ a2 c2) jV rfl ?_;rw[HE.o];exact⟨⟨a2,c2,rfl,(aB.kept (λb hz _=>af.block b qd)).j (λb hz=>qd),ah⟩,I.c (af.e qd)⟩
 |some i=>
  have bj:=SS n;obtain⟨f,C⟩:=Bq bj;obtain⟨HM,bg⟩:=An (VA (tag:=tag) K aZ n C) (iA (Tq K) n);obtain⟨b,o,rfl,c0,c1,_⟩:=aE i f C;rw[n]at O;refine O.j ?_;rintro e l ⟨rfl,U⟩;have L:=U.z;subst L;dsimp only[SM];go_wp2_with fail;refine(pD (some ⟨b,o,none⟩) c fs nx cp sg tag f.E sa J vs G aE (W.e I) hl x).rtn λl k=>?_;obtain⟨a7,aL,Z,aI⟩:=BP (Es aC k) (Es aT k) (Es aA k) (aB.kept (w':=l) (λb _ hlt=>k.block b hlt));have au:Bw w l:=I.thn k;have bo:=k.size;obtain⟨q0,q1,q2,q3⟩:=LB a7;obtain⟨p0,p1,p2,p3⟩:=LB aL;generalize N:F_ sg tag f.E vs fs=T;by_cases M:0<T
  .have HE:=Ad (pC (nx:=nx) (cp:=cp) (i:=i) N M);go_wp2_with (first|(refine Ec qh 87 (.tmp 6) (.tmp 46) qh (w.heap.size+1) (C6.cells ⟨fs,nx,cp,sg,2,T⟩ a2 c2) qh qh R 87 Z D IW (C6.one _ _ _) ?_;intro A ao af)|fail)
   try go_frame
   refine bodyPost_ret (v:=C6.val ⟨fs,nx,cp,sg,2,T⟩ a2 c2) jV rfl ?_;exact sx
  by_cases y:1000000<nx
  .have HE:=Ad (pg (cp:=cp) (i:=i) N M y);go_wp2_with (first|(refine Ec qh 87 (.tmp 6) (.tmp 52) qh (w.heap.size+1) (C6.cells ⟨fs,nx,cp,sg,4,0⟩ a2 c2) qh qh R 87 Z D IW (C6.one _ _ _) ?_;intro A ao af)|fail)
   try go_frame
   refine bodyPost_ret (v:=C6.val ⟨fs,nx,cp,sg,4,0⟩ a2 c2) jV rfl ?_;exact sx
  have HE:=Ad (o9 (cp:=cp) (i:=i) N M y);have aR:=sI _ a2 c2 fs tag l aI hl;rw[bg.o]at aR;go_wp2_with fail;refine aR.j ?_;rintro e A ⟨⟨a4,c4,bi,rfl,bh⟩,r⟩;obtain⟨aX,a5,aW⟩:=AK (bh.dW r) (Es Z r) (Es aL r);have bA:∀j,A.frozen? ⟨g.heap.size,j,none⟩=false:=λj=>by simp[World.frozen?,aW.o]
  have bc:Bw w A:=au.thn r;have bv:=r.size;have bd:(fs.eraseIdx i).length<=1048576:=yi (by rw[KG];split<;>omega) hl;obtain⟨p0,p1,p2,p3⟩:=LB aW;go_wp2_with fail;have aQ:=λu=>bc.setCell (p:=⟨g.heap.size,0,none⟩) t.size u;refine(oj a4 c4 (fs.eraseIdx i) bi nx cp sg f.E sa J vs _ l.heap.size _ (aX.kept ?_) (λb m=>?_) (W.e (aQ _)) bd aN ?_ qd qd).j ?_
  .intro b m;refine yD _ _ _ _ ?_;show b≠g.heap.size;rcases m with m|m
   .omega
   have:=(aX.aa.lt b m).1;omega
  .have:=m.2;simp;omega
  .simp;omega
  rintro e w6 ⟨⟨a6,Y,rfl,aU,aF⟩,aO⟩;have bf:=Ad ((aO.block (w.heap.size+1) qd).c ((yD _ ⟨g.heap.size,0,none⟩ _ _ (by show w.heap.size+1≠g.heap.size;omega)).c a5));go_wp2_with (first|(refine Ec qh 87 (.tmp 6) (.tmp 61) qh (w.heap.size+1) (C6.cells ⟨fs.eraseIdx i++[⟨nx,f.E,vs⟩],nx+1,cp,sg,0,nx⟩ a6 Y) qh qh R 87 bf D IW (C6.one _ _ _) ?_;intro w7 a9 aS)|fail)
  try go_frame
  refine bodyPost_ret (v:=C6.val ⟨fs.eraseIdx i++[⟨nx,f.E,vs⟩],nx+1,cp,sg,0,nx⟩ a6 Y) (by simp[results,results62,asAddr,C6.load a9.o]) rfl ?_;rw[HM.o,HE.o];refine⟨⟨a6,Y,rfl,?_,by rw[yM];exact aF⟩,((aQ _).c (aO.j (by have:=au.size;omega))).c (aS.e qd)⟩;exact(aU.kept (λb hz _=>aS.block b Xx)).j (λb hz=>Xx)
def r8(a c fs nx cp sg tag sa d vs w)(hv:Cs w a fs)(i:Cj w sa vs)(k:fs.length<=c)(hl:fs.length<=1048576)(j:∀f∈fs,A6 f)(O:vs.length<=1048576)(m:∀v∈vs,v.O.size<=maxLen) :
  Ca 62 #[.agg #[.slice a fs.length c,I6 nx,I6 cp,.bool sg],I6 tag,.slice sa vs.length d] w λe w'=>
   (∃g l,e=.returned ((CA fs nx cp sg tag vs).val g l)/\DN (λb=>w.heap.size<=b) w' g (CA fs nx cp sg tag vs).fs/\(CA fs nx cp sg tag vs).fs.length<=l)/\Bw w w':=by
 cases h:(CQ fs nx cp sg&&DO vs)
 .rw[Vh h];exact zlY a c fs nx cp sg tag sa d vs w hv i k hl j O m h
 simp only[ym]at h;exact zo5 a c fs nx cp sg tag sa d vs w hv i k hl j O m h.1 h.2
def Uh{α:Type}{a b c:α}(h:Hid (a=b))(k:Hid (a=c))(n:b≠c:=by simp):False:=n (h.z.c k)
def jI(h:P:=by
 have HN:Hid (AO x=some 0):=show AO x=some 0 from by simp[AO,LO];omega
 exact(Uh H0 HN).elim
 ):=h
def zmn(x:Ru)(g:Af)(l:Nat)(d:Af)(f:Nat)(r:Af)(m:Nat){q:AD}(w:Aa)(au:Gl q w g x.x)(u:EI q w d x.A)(aw:Ih q w r x.K)(bc:x.le 1048576)(ho:Jd x.A)(H0:Hid (AO x=none)) :
  Ca 167 #[.agg #[.string x.name,.int .i64 x.aq,.slice g x.x.length l,.slice d x.A.length f,.slice r x.K.length m]] w λe w'=>e=.returned (.int .i64 (Pa (AO x)))/\Bw w w':=by
 obtain⟨aS,aI,aK,aN⟩:=bc;have a5:x.name.size<=maxLen:=yi aS Hq;have bj:=aI.1;have bk:=aK.1;have ac:=aN.1;cases hg:AP x.name.data.toList
 .have HN:Hid (AO x=some 0):=show AO x=some 0 from by simp[AO,LO,hg]
  exact(Uh H0 HN).elim
 by_cases l6:6<x.x.length
 .have aY:=Hk l6;exact jI
 have aY:=FN l6;by_cases l8:8<x.K.length
 .have a6:=Hk l8;exact jI
 have a6:=FN l8;by_cases aL:60<x.A.length
 .have aO:=Hk aL;exact jI
 have aO:=FN aL;have HH:Hid (AO x=match Eu Ej x.x 1 with|some i=>some i|none=>rest x):=nR x (by simp[LO,hg];omega);go_enter func167,ntmps167;go_wp2_with (go_at_call 116;refine(J6 x.name _ a5).j ?_;rintro e w' ⟨rfl,rfl⟩)
 go_loopw [34] (λi wr=>∃(k:Nat),k<=x.x.length/\i=.int .i64 k/\(AO x=match Eu Ej (x.x.drop k) (k+1) with|some i=>some i|none=>rest x)/\Fu wr w.heap.size x g l d f r m/\Bw w wr) (mz x.x.length)
 .exact⟨0,qd,rfl,HH,Fu.aO _ _ _ _ _ _ _ _ _,Ar⟩
 obtain⟨k,hk,rfl,I,O,t⟩:=hrel;have HG:Hid (AO x=match Eu Ej (x.x.drop k) (k+1) with|some i=>some i|none=>rest x):=I;clear I;by_cases U:k<x.x.length
 .obtain⟨p,aD⟩:=Bq U;obtain⟨b,o,B,v,rfl,hq,c0,c1,c2,ao⟩:=(au.e t).get aD;have aF:=aI.2 p (yd aD);have H:Hid (x.x.drop k=p::x.x.drop (k+1)):=Dx aD;cases aP:Ej p
  all_goals
   go_wp2_with (go_at_call 233;refine(zji p B v _ (ao.e Ar) (yi aF.1 Hq) (aF.2.j Hq (Tm.j Hq)) aF.2.1).rtn λw1 aq=>?_)
  .have HN:Hid (AO x=some (k+1)):=show AO x=_ from by rw[HG.o,H.o,J8,aP];rfl
   exact(Uh H0 HN).elim
  have HN:Hid (AO x=match Eu Ej (x.x.drop (k+1)) (k+1+1) with|some i=>some i|none=>rest x):=show AO x=_ from by rw[HG.o,H.o,J8,aP];rfl
  have aJ:Bw wr w1:=Ar.thn aq;go_roundw;exact⟨k+1,qd,qm,HN,O.e aJ,t.thn aJ⟩;simp;omega
 have HR:Hid (AO x=rest x):=show AO x=rest x from by rw[HG.o,yH qd];rfl
 have HBX:=Ad O;obtain⟨J,L,N,M,R⟩:=O;go_wp2;clear J L N M R
 go_loopw [48] (λi G=>∃(S:BS),S.length<=x.A.length/\i=.int .i64 (S.length:Int)/\Bt x.A S/\Dv [] x.A=Dv S (x.A.drop S.length)/\Fu G w.heap.size x g l d f r m/\Bw w G) (mz x.A.length)
 .exact⟨[],qf,rfl,Bt.nil _,rfl,HBX,t⟩
 clear HBX t HG hk U;obtain⟨S,hk,rfl,hS,I,O,t⟩:=hrel;obtain⟨HG,HS,HBX⟩:=AK I hS O;clear I hS;obtain⟨J,L,N,M,R⟩:=O;by_cases U:S.length<x.A.length
 .obtain⟨e,Y⟩:∃e,x.A[S.length]?=some e:=⟨x.A[S.length],by simp[U]⟩
  have H:Hid (x.A.drop S.length=e::x.A.drop (S.length+1)):=Dx Y;have a8:=(aK.j Hq (Ex.j Hq)).2 e (yd Y);obtain⟨aW,aX⟩:=ho e (yd Y);have aC:=Ad (λw' h=>zim d f x.A S e w' (q:=q) h qd HS Y a8 aW aX);cases Z:DY S e with
  |none=>
   rw[Z]at aC;have HN:Hid (AO x=some (S.length+1)):=show AO x=_ from by
    have h1:Dv [] x.A=S:=by rw[HG.o,H.o,Dv,Z]
    rw[HR.o];unfold rest;rw[h1,if_pos U]
   exact(Uh H0 HN).elim
  |some s=>
   rw[Z]at aC;have HN:Hid (Dv [] x.A=Dv (S++[s]) (x.A.drop (S.length+1))):=show Dv [] x.A=_ from by rw[HG.o,H.o,Dv,Z]
   go_wp2_with (go_at_call 234;refine(aC _ (u.e t)).j ?_;rintro e' w1 ⟨rfl,aq⟩);exact⟨⟨S++[s],qe,qf,HS.snoc Y Z,by rw[HN.o];simp,HBX.e aq,t.thn aq⟩,qe⟩
 have ai:S.length=x.A.length:=qd;have h1:Dv [] x.A=S:=by
  exact TM
 have aT:Hid (AO x=He S x.K 0 1):=show AO x=_ from by
  rw[HR.o];unfold rest;rw[h1,if_neg qd]
 have aB:=Ad ai;clear h1 HG HR ai;have bo:w.heap.size<wr.heap.size:=Oo J;go_wp2;obtain⟨T,rfl⟩:=AF wr;have aR:Bw w (T.alloc (.cells #[.int .i64 0] 3)):=t.alloc t.size _;have ax:=HBX.e (w':=T.alloc (.cells #[.int .i64 0] 3)) Ar;clear J L N M R HBX
 go_loopw [62] (λi G=>∃(k C:Nat),k<=x.K.length/\i=.int .i64 k/\C<=60/\AO x=He S (x.K.drop k) C (k+1)/\At G T.heap.size 0 (.int .i64 (C:Int))/\G.frozen? ⟨T.heap.size,0,none⟩=false/\T.heap.size<G.heap.size/\Fu G w.heap.size x g l d f r m/\Bw w G) (mz x.K.length)
 .exact⟨0,0,qd,rfl,qd,aT,ql,ql,qf,ax,aR⟩
 clear aR ax t;obtain⟨k,C,bl,rfl,aV,I,aU,aZ,aH,O,t⟩:=hrel;obtain⟨HG,HBX⟩:=An I O;clear I;obtain⟨J,L,N,M,R⟩:=O;by_cases aM:k<x.K.length
 .obtain⟨y,aE⟩:=Bq aM;obtain⟨b,o,E,D,rfl,hq,c0,c1,c2,c3,ak⟩:=aw.get aE;have d0:=zab t c0;have d1:=zab t c1;have d2:=zab t c2;have d3:=zab t c3;clear c0 c1 c2 c3;have aG:=aN.2 y (yd aE);have H:Hid (x.K.drop k=y::x.K.drop (k+1)):=Dx aE;have W:∀o,Bw w (wr.alloc o):=λo=>t.alloc t.size _;have ay:=Ad (λw' h0 hp hf ab=>zjj x g l d f (some ⟨b,o,none⟩) m y E D T.heap.size C S (q:=q) w w' h0 u ak HS aB qd (yi aG.1 Hq) aG.2 hp hf qd ab aV);have bn:∀o,(wr.alloc o).cell? ⟨w.heap.size,0,none⟩=_:=λo=>zab (Gp o) J;have bi:∀o,(wr.alloc o).cell? ⟨w.heap.size,1,none⟩=_:=λo=>zab (Gp o) L;have bf:∀o,(wr.alloc o).cell? ⟨w.heap.size,2,none⟩=_:=λo=>zab (Gp o) N;have bm:∀o,(wr.alloc o).cell? ⟨w.heap.size,3,none⟩=_:=λo=>zab (Gp o) M;have bg:∀o,(wr.alloc o).cell? ⟨w.heap.size,4,none⟩=_:=λo=>zab (Gp o) R;clear J L N M R;cases ar:CM S y C with
  |none=>
   rw[ar]at ay;have HN:Hid (AO x=some (k+1)):=show AO x=_ from by rw[HG.o,H.o,Tu,ar]
   exact(Uh H0 HN).elim
  |some az=>
   rw[ar]at ay;have HN:Hid (AO x=He S (x.K.drop (k+1)) az (k+1+1)):=show AO x=_ from by rw[HG.o,H.o,Tu,ar]
   go_wp2_with (go_at_call 235;refine(ay _ (W _) (zab Ar aU) (by rw[(AU Ar).2 _ _ aH];exact aZ) qe).rtn λw3⟨aA,a0,a7⟩=>?_);obtain⟨aQ,a9⟩:=a0 az rfl;have a4:=aA.size;go_roundw;exact⟨k+1,az,qd,qm,aQ,HN,a9,a7,by simp at a4;omega,(HBX.e Ar).ay aA qd,(W _).c (aA.j qd)⟩;simp;omega
 have e0:x.K.drop k=[]:=yH qd;have HE:Hid (AO x=if C=S.length then none else some (k+1)):=show AO x=_ from by rw[HG.o,e0];rfl
 have bh:k=x.K.length:=qd;by_cases bd:C=x.A.length
 .have aa:((C:Int) != (x.A.length:Int))=false:=by simp;omega
  go_wp2;go_ret;exact⟨GT (by rw[HE.o,if_pos (by have:=aB.o;omega)];rfl),t⟩
 have aa:((C:Int) != (x.A.length:Int))=true:=by simp;omega
 go_wp2;go_ret;exact⟨GT (by rw[HE.o,if_neg (by have:=aB.o;omega)];simp[Pa];omega),t⟩
end Go.Proofs.YtikojfajahnhgaaGreat
