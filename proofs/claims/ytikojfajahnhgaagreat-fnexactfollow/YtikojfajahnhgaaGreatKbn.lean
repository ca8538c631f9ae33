import Derived.Test.YtikojfajahnhgaaGreatKbk
import Derived.Test.YtikojfajahnhgaaGreatKbm
set_option linter.all false
set_option maxHeartbeats 6400000
set_option maxRecDepth 100000
namespace Go.Proofs.YtikojfajahnhgaaGreat
attribute [local simp] At I6 Pn mzI
attribute [local go_sem] At I6 Pn
open Go.RowKit Go.Proofs.Tryz
variable{P:Prop}
section
open Go.Deep
section
variable {H : Type} {enc : TypeId × Value -> H} {w : World} {base : Nat} {spare : Nat -> Bool} {held : Bool}
def vJ{n:Nat}{cs:List Value}{x:DataW H × List MemPlace}(h:DataW.trod enc prog w base spare held n 30 cs=some x) :
  ∃a c,∃vs:List Int,cs=[.slice a vs.length c]/\Bf none w a vs/\vs.length<=c/\vs.length<=maxLen/\∀v∈vs,(Lit.int .i64 v).wf=true:=
 MD (0:Int) 30 3 3 1 underlying30 GZ qd (λn cs x h b=>by
  match cs,b with
  |[v0],_=>
   obtain⟨k,O,_,d⟩:=YL underlying3 h
   exact⟨k,O,d⟩) h
end
end
section
attribute [local go_sem ↓] wp_at_zero wp_at_succ
def Jw{α β:Type}(g:α->β){l:List α}{j:Nat}{x:α}(h:l[j]?=some x):(l.take (j+1)).map g=(l.take j).map g++[g x]:=by
 rw[yY,h];simp
def zir(rs:List Ru)(fs:List F)(a:Option Addr)(c:Nat)(fa:Option Addr)(fc:Nat){q:Option Nat}(w:World)(hv:Do q w a rs)(hf:BC w fa fs)(b:Fd rs fs=true) :
  Ca 50 #[.slice a rs.length c,.slice fa fs.length fc] w (JT (Cs fs 0 rs) w):=by
 obtain⟨HV,HF,HB,HA,HS⟩:=DU hv hf (λk=>mQ b k) (λr(h:r∈rs)=>j7 b h) (λr(h:r∈rs)=>Qf (Qj b).1 h);have ao:=(Qj b).2.2;have aQ:=RM (Qj b).1;clear hv hf b;go_enter func50,ntmps50;go_wp2_with fail
 go_loopw [14,5] (λiv K wr=>∃(k:Nat)(s:Option Addr)(p:Nat)(M:List Eh),iv=I6 (k:Int)/\k<=rs.length/\K=.slice s M.length p/\M.map Prod.fst=Cs fs 0 (rs.take k)/\Iw wr w.heap.size w.heap.size s p M/\Bw w wr) (λiv _ _=>rs.length-(intOf iv).toNat)
 case atStart=>exact⟨0,none,0,[],rfl,yA _,rfl,rfl,Iw.nil _ _ _,Aj⟩
 case round=>
  obtain⟨k,s,p,M,rfl,aV,rfl,hM,i,d⟩:=hrel;obtain⟨G,ROW,l⟩:=AQ hM i d;have aY:=d.size;clear hM i d;by_cases hk:k<rs.length
  .obtain⟨r,b⟩:=AJ hk;obtain⟨rb,ro,aI,aO,aM,aG,aE,aH,rfl,_,c0,c1,c2,C,c4,aA,_,_,_⟩:=(HV.o.J l.o).get b;have am:=yd b;obtain⟨aL,au,_⟩:=HS.o r am;obtain⟨ax,aK,aD⟩:=AQ (λw'(h:Bw wr w')=>js r fs aI aO aM aG aE aH fa fc w' (aA.J h) ((HF.o.J l.o).J h) aL au ao) (zC fs b) (HA.o r am);have z0:(0:Int)<=(k:Int):=qd;have z1:(k:Int)<(rs.length:Int):=qd;clear b am aA au;go_upto_region 5 with fail;refine Bt ?_;intro w1 n ar;obtain⟨b0,b1,b2,b3,b4⟩:=Gc ar;obtain⟨L,R1,B1⟩:=AQ n (ROW.o.ar n) (l.o.aj n);clear n ar c0 c1 c2 C c4 ROW l;go_wp2_with fail;refine(ax.o w1 L.o).ac ?_;rintro e w2 ⟨⟨pa,pc,P,rfl,hP,hp⟩,A⟩;obtain⟨PP,HP,R2,B2⟩:=BE hP hp (R1.o.ar A) (B1.o.aj A);have aS:P.length<=64000:=by have:=congrArg List.length hp;rw[yp]at this;rw[this];exact aD.o.1
   have aX:M.length<=1024000:=by have:=congrArg List.length G.o;rw[yp]at this;rw[this];exact(HB.o k).1
   have aR:=A.size;have aa:=L.o.size;clear hP hp A b0 b1 b2 b3 b4 R1 B1 ax L;go_wp2_with fail
   go_loopw [27,5] (λiv K wr=>∃(j:Nat)(u:Option Addr)(t:Nat)(N:List Eh),iv=I6 (j:Int)/\j<=P.length/\K=.slice u N.length t/\N.map Prod.fst=M.map Prod.fst++(P.take j).map (λy=>(⟨(k:Int),y.1.al⟩:It))/\Iw wr w.heap.size w.heap.size u t N/\MO wr w.heap.size w.heap.size pa pc P/\Bw w wr) (λiv _ _=>P.length-(intOf iv).toNat)
   case atStart=>exact⟨0,s,p,M,rfl,yA _,rfl,qe,R2.o,⟨DT PP.o.row qd,λx D=>(PP.o.all x D).lower qd⟩,B2.o⟩
   case round=>
    obtain⟨j,u,t,N,rfl,aU,rfl,W,i,ay,d⟩:=hrel;obtain⟨HN,U,z,E⟩:=BE W i ay d;have aZ:N.length<=1088000:=by have:=congrArg List.length W;rw[yp,yR,yp,yp,Yo]at this;omega
    have aP:=d.size;clear W i ay d;by_cases hj:j<P.length
    .obtain⟨y,f⟩:=AJ hj;have az:=Aa (Jw (λy:JF=>(⟨(k:Int),y.1.al⟩:It)) f);obtain⟨⟨v,bd⟩,tv,bv⟩:=y;obtain⟨lb,rfl,aT,y0,y1⟩:=z.o.get f;obtain⟨⟨ta,Z,e1⟩,⟨ba,bc,e2⟩,H,_⟩:=z.o.all _ (yd f);simp only at e1 e2 H y0 y1 az;subst e1 e2;have OT:=Aa H;have z2:(0:Int)<=(j:Int):=qd;have z3:(j:Int)<(P.length:Int):=qd;clear f H;go_upto_region 9 with fail;refine Bt ?_;intro T Y aw;obtain⟨f0,f1⟩:=Ay aw;obtain⟨B,P4,B4,aB⟩:=BE (U.o.ar Y) (z.o.ar Y) (E.o.aj Y) (Bg OT.o Y);obtain⟨NX,O⟩:=Ak (show Gs T w.heap.size (⟨(k:Int),v⟩,.slice ta v.length Z) from⟨⟨ta,Z,rfl⟩,aB.o⟩) (λo'=>Aj.alloc AA o':∀o',Bw T (T.alloc o'));have aW:=Y.size;clear Y aw y0 y1 OT aB U z E;go_wp2_with (first|(at_builtin;refine EU qi (.tmp 31) (.tmp 36) 36 qi w.heap.size 45 _ 2 32 underlying36 RO qi qd _ N.length _ qi (Bg B.o.row (O.o _)) (some ⟨_,0,none⟩) 1 1 qi (Dk (⟨(k:Int),v⟩,.slice ta v.length Z)) qi (λe=>qp) (Et _ _ _ _ qe) (mI NX.o) qm qd qg ?_;intro a3 C w8 aC m aN)|fail);obtain⟨R8,R⟩:=Ak (Iw.snoc (B.o.ar (O.o _)) (NX.o.ar (O.o _)) aC.o m.o) (λo g I=>A8 (Bg B.o.row (O.o o)) (k:=g) I);obtain⟨P8,B8⟩:=Ak (show MO w8 w.heap.size w.heap.size (some ⟨lb,0,none⟩) pc P from⟨MJ (Bg P4.o.row (O.o _)) m.o (R.o _) qh,λx D=>((P4.o.all x D).ar (O.o _)).grown m.o (R.o _) qh qh⟩) ((B4.o.j ((O.o _).ac B4.o.size)).grown m.o qg (λg I=>(B.o.row.lt g I).1));clear aC m aN R;go_roundw
     case rel=>exact⟨j+1,a3,C,_,ql,qd,qe,by rw[yJ,HN.o,az.o,<-Yc];rfl,R8.o,P8.o,B8.o⟩
     case measure=>(simp[intOf];omega)
    have av:j=P.length:=qd;have f:¬(j:Int)<(P.length:Int):=qd;have aF:=Aa (show N.map Prod.fst=Cs fs 0 (rs.take (k+1)) by
     rw[HN.o,G.o,aK.o,av,yW,<-HP.o,Yp];rfl)
    clear av;go_wp2_with fail;go_roundw
    case rel=>exact⟨k+1,u,t,N,ql,qd,rfl,aF.o,U.o,E.o⟩
    case measure=>(simp[intOf];omega)
  have aq:k=rs.length:=qd;have f:¬(k:Int)<(rs.length:Int):=qd;have aJ:=Aa (show Cs fs 0 rs=M.map Prod.fst by rw[G.o,aq,yW]);clear aq;go_wp2_with fail;go_ret;exact JT.mk aJ.o ROW.o l.o
end
structure VS(fs:List F) (nx cp:Int) (sg:Bool):Prop where
 dt:0<=cp
 bc:cp<=40
 len:(fs.length:Int)<=cp
 aW:BO 0 fs=true
 cF:1<=nx
 de:nx<=1000001
 low:∀f∈fs,f.tag<nx
 nodup:sg=true->(fs.map Bn).Nodup
def VS.iff{fs nx cp sg}:Cg fs nx cp sg=true↔VS fs nx cp sg:=by
 unfold Cg;cases sg with
 |false=>
  rw[Xi];simp only[FU,DC,yk,decide_eq_true_eq,YX];constructor
  .rintro⟨⟨f,c,b,⟨g,a⟩,d,e⟩,O⟩;exact⟨f,c,b,a,d,e,O,λh=>by cases h⟩
  .intro h;exact⟨⟨h.dt,h.bc,h.len,⟨by have:=h.len;have:=h.bc;omega,h.aW⟩,h.cF,h.de⟩,h.low⟩
 |true=>
  rw[VL nx fs [] We];simp only[FU,DC,yk,decide_eq_true_eq,YX,Yj];constructor
  .rintro⟨⟨f,c,b,⟨g,a⟩,d,e⟩,O,Y⟩;exact⟨f,c,b,a,d,e,O,λ_=>Y⟩
  intro h;exact⟨⟨h.dt,h.bc,h.len,⟨by have:=h.len;have:=h.bc;omega,h.aW⟩,h.cF,h.de⟩,h.low,h.nodup rfl⟩
def wn:∀{fs:List F}{last O:Int},last<=O->BO O fs=true->BO last fs=true
 |[],_,_,_,_=>rfl
 |f::r,last,O,h,hg=>by
  simp only[BO,Hj,yk,decide_eq_true_eq]at hg⊢
  exact⟨⟨by omega,hg.1.2⟩,hg.2⟩
def lK:∀{fs:List F}{last:Int}(i:Nat),BO last fs=true->BO last (fs.eraseIdx i)=true
 |[],_,_,_=>rfl
 |f::r,last,0,h=>by
  simp only[BO,Hj,yk,decide_eq_true_eq]at h
  exact wn (by omega) h.2
 |f::r,last,i+1,h=>by
  simp only[BO,yk]at h
  simp only[Wp,BO,yk]
  exact⟨h.1,lK i h.2⟩
def kk:∀{fs:List F}{last:Int}{g:F},BO last fs=true->(∀f∈fs,f.tag<g.tag)->last<g.tag->g.tag<=1000000->Aw g.ak.data.toList=true->C4 g.ad=true->BO last (fs++[g])=true
 |[],last,g,_,_,h1,h2,h3,h4=>by simp[BO,Hj,h1,h2,h3,h4]
 |f::r,last,g,h,hl,h1,h2,h3,h4=>by
  simp only[BO,yk,Ye]at h⊢
  exact⟨h.1,kk h.2 (λx a=>hl x (by simp[a])) (hl f (by simp)) h2 h3 h4⟩
def VB{but a vs}:∀{fs:List F}{last:Int},0<=last->BO last fs=true->¬0<Hf but a vs fs->∀f∈fs,Dd but a vs f=false
 |[],_,_,_,_,f,b=>by simp at b
 |g::r,last,hl,h,ht,f,b=>by
  simp only[BO,Hj,yk,decide_eq_true_eq]at h
  unfold Hf at ht
  split at ht
  .omega
  rcases yO.1 b with rfl|b
  .simpa using ‹¬Dd but a vs f=true›
  exact VB (last:=g.tag) (by omega) h.2 ht f b
def jw{but a vs}{fs:List F}(h:∀f∈fs,Dd but a vs f=false)(e:∀f∈fs,f.tag≠but):(a,vs) ∉ fs.map Bn:=by
 intro b;obtain⟨f,c,d⟩:=yz.1 b;have g:=h f c;simp_all[Dd,Lk,V,Bn]
def jD:∀{fs:List F}{last:Int},BO last fs=true->∀f∈fs,Aw f.ak.data.toList=true
 |[],_,_,f,a=>by simp at a
 |g::r,last,h,f,a=>by
  simp only[BO,Hj,yk]at h
  rcases yO.1 a with rfl|a
  .exact h.1.2.2.1
  exact jD h.2 f a
def VS.add{fs nx cp sg a vs}(h:VS fs nx cp sg)(k:¬1000000<nx)(hl:(fs.length:Int)<cp)(i:Aw a.data.toList=true)(g:C4 vs=true)(j:sg=true->(a,vs) ∉ fs.map Bn):VS (fs++[⟨nx,a,vs⟩]) (nx+1) cp sg:=by
 refine⟨h.dt,h.bc,qg,kk h.aW (λf O=>h.low f O) (by have:=h.cF;show(0:Int)<nx;omega) (by show nx<=1000000;omega) i g,by have:=h.cF;omega,qd,?_,?_⟩
 .intro f O;rcases yr.1 O with O|O
  .have:=h.low f O;omega
  simp at O;subst O;show nx<nx+1;omega
 intro b;rw[yJ,yP];refine⟨h.nodup b,qe,λx c y d e=>?_⟩;simp at d;subst d;rw[e]at c;exact j b c
def VS.drop{fs nx cp sg}(h:VS fs nx cp sg)(i):VS (fs.eraseIdx i) nx cp sg:=by
 refine⟨h.dt,h.bc,?_,lK i h.aW,h.cF,h.de,λf a=>h.low f (List.mem_of_mem_eraseIdx a),λb=>?_⟩
 .have d:=h.len;have c:(fs.eraseIdx i).length<=fs.length:=List.length_eraseIdx_le _ _;omega
 exact(h.nodup b).sublist ((WD _ _).map Bn)
def En(fs:List F)(nx cp:Int)(sg:Bool)(r:C6):Prop:=r.code=1∨(VS r.fs r.nx r.cp r.sg/\nx<=r.nx/\r.cp=cp/\r.sg=sg/\(r.code≠0->r.fs=fs/\r.nx=nx))
def En.same{fs nx cp sg}(h:VS fs nx cp sg)(k t):En fs nx cp sg ⟨fs,nx,cp,sg,k,t⟩:=.inr ⟨h,Wm _,rfl,rfl,λ_=>⟨rfl,rfl⟩⟩
def xV{fs}(h:BO 0 fs=true):∀f∈fs,f.tag≠0:=λf a=>by
 have:=PH h f a;omega
def xc{fs nx cp sg}(a vs)(h:VS fs nx cp sg):En fs nx cp sg (De fs nx cp sg a vs):=by
 cases b:(Cg fs nx cp sg&&(Aw a.data.toList&&C4 vs))
 .rw[RZ b];exact .inl rfl
 simp only[yk]at b;obtain⟨i,c,d⟩:=b;rw[RG i c d];unfold Cf;split
 .exact En.same h _ _
 rename_i g;split
 .exact En.same h _ _
 rename_i k;split
 .exact En.same h _ _
 rename_i e;refine .inr ⟨h.add e (by have:=h.len;omega) c d (λf=>?_),by show nx<=nx+1;omega,rfl,rfl,λj=>absurd rfl j⟩;subst f;exact jw (but:=0) (VB (Wm 0) h.aW g) (xV h.aW)
def zL{fs nx cp sg}(tag)(h:VS fs nx cp sg):En fs nx cp sg (CV fs nx cp sg tag):=by
 have hv:=VS.iff.2 h;cases a:AD tag fs with
 |none=>
  rw[Sv hv a];exact En.same h _ _
 |some i=>
  rw[Ss hv a];exact .inr ⟨h.drop i,Wm _,rfl,rfl,λb=>absurd rfl b⟩
def kA:∀{fs:List F}{last:Int}{tag:Int}{i:Nat},BO last fs=true->AD tag fs=some i->∀f∈fs.eraseIdx i,f.tag≠tag
 |[],_,_,_,_,h,_,_=>by simp[AD]at h
 |g::r,last,tag,i,hg,h,f,a=>by
  simp only[BO,yk]at hg
  unfold AD at h
  split at h
  .rename_i O
   injection h with h
   subst h
   have:=PH hg.2 f a
   omega
  rename_i O
  cases b:AD tag r with
  |none=>rw[b]at h;simp at h
  |some j=>
   rw[b]at h
   simp at h
   subst h
   simp only[Wp]at a
   rcases yO.1 a with rfl|a
   .exact O
   exact kA hg.2 b f a
def zM{fs nx cp sg}(tag vs)(h:VS fs nx cp sg):En fs nx cp sg (BS fs nx cp sg tag vs):=by
 have hv:=VS.iff.2 h;cases b:C4 vs
 .rw[Sa (by rw[b,Wz])];exact .inl rfl
 cases c:AD tag fs with
 |none=>
  rw[Sl hv b c];exact En.same h _ _
 |some i=>
  have a:=Ou c;obtain⟨f,d⟩:=AJ a;rw[Sr hv b c d];unfold JQ;split
  .exact En.same h _ _
  rename_i m;split
  .exact En.same h _ _
  rename_i k;have e:(fs.eraseIdx i).length=fs.length-1:=List.length_eraseIdx_of_lt a;refine .inr ⟨(h.drop i).add k (by have:=h.len;omega) (jD h.aW f (yd d)) b (λg=>?_),by show nx<=nx+1;omega,rfl,rfl,λl=>absurd rfl l⟩;subst g;exact jw (but:=tag) (λx j=>VB (Wm 0) h.aW m x (List.mem_of_mem_eraseIdx j)) (kA h.aW c)
section
attribute [local go_sem ↓] wp_at_zero wp_at_succ
def zwX{B w w'}(c:Below B w w'){b o x}(a:b<B)(h:At w b o x):At w' b o x:=(c.cell (p:=⟨b,o,none⟩) a).j h
def Za(cls:ByteArray)(tag:Int)(sa:Option Addr)(n sc:Nat):List Value:=[.string cls,.int .i64 tag,.slice sa n sc]
def UN{w:World}{b a tag sa n d t e}(h:w.heap[b]?=some (.cells (Za a tag sa n d).toArray t e)):At w b 0 (.string a)/\At w b 1 (I6 tag)/\At w b 2 (.slice sa n d):=by
 have c:=L9 h;exact⟨c 0 _ rfl,c 1 _ rfl,c 2 _ rfl⟩
def wM(a c fs nx cp sg b tag sa k vs w)(hv:BC w a fs)(z:Bj w sa vs)(hl:fs.length<=1048576)(i:∀f∈fs,AV f)(g:∀f∈fs,Cq f)(j:b.size<=maxLen)(u:vs.length<=1048576)(x:∀v∈vs,v.av.size<=maxLen)(Y:(Cg fs nx cp sg&&(Aw b.data.toList&&C4 vs))=false) :
  Ca 157 #[.agg #[.slice a fs.length c,I6 nx,I6 cp,.bool sg],.agg #[.string b,I6 tag,.slice sa vs.length k]] w λe w'=>
   (∃n p xs,e=.returned (C6.bad.val n p)/\Bp w' w.heap.size (.slice n C6.bad.fs.length p) C6.bad.fs.length C6.bad.fs xs)/\Bw w w':=by
 cases s:Cg fs nx cp sg
 .clear Y;go_enter func157,ntmps157;go_wp2_with (go_at_call 213;refine(JZ a c fs nx cp sg _ (hv.J Ba) hl i g).an λd O=>?_;obtain⟨af,m⟩:=Ah O);refine bodyPost_ret (v:=C6.bad.val none 0) pJ rfl ⟨⟨none,0,[],rfl,Bp.nil _ _⟩,?_⟩;have hB:Bw w d:=Ba.aj O;exact nS
 rw[s,YP]at Y;cases t:Aw b.data.toList
 focus
  clear Y;go_enter func157,ntmps157;go_wp2_with (first|(go_at_call 213;refine(JZ a c fs nx cp sg _ (hv.J Ba) hl i g).an λd O=>?_;obtain⟨af,m⟩:=Ah O)|(go_at_call 197;refine(IX b _ j).ac ?_;rintro e w' ⟨rfl,rfl⟩)|fail);refine bodyPost_ret (v:=C6.bad.val none 0) pJ rfl ⟨⟨none,0,[],rfl,Bp.nil _ _⟩,?_⟩;have hB:Bw w _:=Ba.aj O
 rotate_left
 focus
  rw[t,YP]at Y;go_enter func157,ntmps157;go_wp2_with (first|(go_at_call 213;refine(JZ a c fs nx cp sg _ (hv.J Ba) hl i g).an λd O=>?_;obtain⟨af,m⟩:=Ah O;have o:Bw w d:=(Ba.aj O);have q:w.heap.size+1+1<d.heap.size:=yh qe O.size)|(go_at_call 197;refine(IX b _ j).ac ?_;rintro e w' ⟨rfl,rfl⟩)|(go_at_call 214;refine(Qg sa k vs _ (z.J o) u x).an λy l=>?_;obtain⟨r,A⟩:=Ah l)|fail);refine bodyPost_ret (v:=C6.bad.val none 0) (by simp[results,results157,go_sem,af,r,q,C6.val,C6.bad]) rfl ⟨⟨none,0,[],rfl,Bp.nil _ _⟩,?_⟩;have hB:Bw w y:=o.aj l
 rotate_left
 all_goals
  exact(((((hB.setCell qg _).setCell qg _).setCell qg _).setCell qg _).setCell qg _).setCell qg _
def XZ(h:P:=by rw[HE.o];exact⟨⟨a3,c3,ai,rfl,(Y.kept (λg hg=>ah.o.block g (by have:=(Y.range hg).1;omega))).lower hB2.size⟩,(hB2.aj O).j (ah.o.J (by omega))⟩):=h
def xk(a c fs nx cp sg d tag sa p vs w)(hv:BC w a fs)(B:Bj w sa vs)(hl:fs.length<=1048576)(C:∀f∈fs,AV f)(G:∀f∈fs,Cq f)(aL:d.size<=maxLen)(aH:vs.length<=1048576)(E:∀v∈vs,C8 v)(aN:Cg fs nx cp sg=true)(a6:Aw d.data.toList=true)(M:C4 vs=true) :
  Ca 157 #[.agg #[.slice a fs.length c,I6 nx,I6 cp,.bool sg],.agg #[.string d,I6 tag,.slice sa vs.length p]] w λe w'=>
   (∃a' c' xs,e=.returned ((Cf fs nx cp sg d vs).val a' c')/\Bp w' w.heap.size (.slice a' (Cf fs nx cp sg d vs).fs.length c') (Cf fs nx cp sg d vs).fs.length (Cf fs nx cp sg d vs).fs xs)/\Bw w w':=by
 have m:∀f∈fs,f.ad.length<=1048576:=λf hf=>(C f hf).2.1;have ay:∀v∈vs,v.av.size<=maxLen:=λv h=>(E v h).2.2;obtain⟨n1,n2,n3,n4,n5⟩:=SS aN;have aK:=Qi aN;have aw:=Ub C G aK;have aJ:vs.length<=6:=by simp only[C4,yk,decide_eq_true_eq]at M;exact M.1
 have K:Gg ⟨nx,d,vs⟩:=⟨aL,aJ,E⟩
 have aU:EE sg 0 d vs fs=0∨0<EE sg 0 d vs fs:=by
  unfold EE;split
  .exact VW (Wm 0) aK
  exact .inl rfl
 go_enter func157,ntmps157;go_wp2_with (first|(go_at_call 213;refine(JZ a c fs nx cp sg _ (hv.J Ba) hl C G).an λw0 i=>?_;obtain⟨aP,aT⟩:=Ah i;have aI:Bw w w0:=(Ba.aj i);have U:w.heap.size+1+1<w0.heap.size:=yh qe i.size)|(go_at_call 197;refine(IX d _ aL).ac ?_;rintro e w' ⟨rfl,rfl⟩)|(go_at_call 214;refine(Qg sa p vs _ (B.J aI) aH ay).an λk q=>?_;have D:=Dj (Dj (w:=_) (o:=.cells (J5 a fs.length c nx cp sg).toArray 27 (0,0)) (b:=w.heap.size) ((yV _ _ _ qg).j ((yV _ _ _ qe).j (Eu _ _ _ rfl))) i) q;have aG:=Dj (Dj (w:=_) (o:=.cells (Za d tag sa vs.length p).toArray 171 (0,0)) (b:=w.heap.size+1) ((yV _ _ _ qe).j (Eu _ _ _ qe)) i) q;obtain⟨q0,q1,q2,q3⟩:=IV D;obtain⟨t0,t1,t2⟩:=UN aG;have aZ:w.heap.size+1+1<k.heap.size:=yh U q.size;have aY:w.heap.size<k.heap.size:=qd;have aX:w.heap.size+1<k.heap.size:=qd)|fail);have H:Bw w k:=aI.aj q;obtain⟨R,hR,A⟩:∃R:Array Value,k.heap[w.heap.size+1+1]?=some (.cells R 87 (0,0))/\R.size=6:=⟨_,(q.block _ U).j ((i.block _ qe).j (Eu _ _ _ qe)),rfl⟩
 obtain⟨Z,N⟩:=Ak hR D;clear q0 q1 q2 q3 t0 t1 t2 aG i q aP aT D hR;refine(ic a c fs nx cp sg ⟨nx,d,vs⟩ sa p 0 _ ((hv.J H).J Af) ((B.J H).J Af) hl aw K).an λl r=>?_;have aj:Bw k l:=Af.aj r;have hB2:Bw w l:=H.aj aj;obtain⟨aW,x⟩:=Ak (Dj N.o aj) (Dj Z.o aj);have g0:At l k.heap.size 0 (I6 nx):=zab r qk;have g1:At l k.heap.size 1 (.string d):=zab r qk;have g2:At l k.heap.size 2 (.slice sa vs.length p):=zab r qk;obtain⟨q0,q1,q2,q3⟩:=IV aW.o;have y:=hv.J hB2;have aD:=B.J hB2;have a4:k.heap.size<l.heap.size:=yh qe r.size;clear N Z r aj hv B C G aw K E ay;generalize n:EE sg 0 d vs fs=T at aU;by_cases z:0<T
 .have HE:=Aa (show Cf fs nx cp sg d vs=⟨fs,nx,cp,sg,2,T⟩ by unfold Cf;rw[n,if_pos z]);have aa:(T != 0)=true:=by simp;omega
  clear n;go_wp2_with (first|(go_at_call 216;refine(MW a c fs nx cp sg 2 T l y hl m).ac ?_;rintro e u ⟨⟨a3,c3,ai,rfl,Y⟩,O⟩)|(refine EH qi 87 (.tmp 4) (.tmp 37) qi (w.heap.size+1+1) (C6.cells ⟨fs,nx,cp,sg,2,T⟩ a3 c3) qi qi R 87 (Dj x.o O) A GT (C6.one _ _ _) ?_;intro w4 ao ah)|fail)
  try go_frame
  refine bodyPost_ret (v:=C6.val ⟨fs,nx,cp,sg,2,T⟩ a3 c3) Zn rfl ?_;exact XZ
 have aV:T=0:=qd;subst aV;by_cases t:(fs.length:Int)=cp
 .have HE:=Aa (show Cf fs nx cp sg d vs=⟨fs,nx,cp,sg,3,0⟩ by unfold Cf;rw[n,if_neg z,if_pos t]);have a0:cp<=(fs.length:Int):=qd;clear n t;go_wp2_with (first|(go_at_call 216;refine(MW a c fs nx cp sg 3 0 l y hl m).ac ?_;rintro e u ⟨⟨a3,c3,ai,rfl,Y⟩,O⟩)|(refine EH qi 87 (.tmp 4) (.tmp 45) qi (w.heap.size+1+1) (C6.cells ⟨fs,nx,cp,sg,3,0⟩ a3 c3) qi qi R 87 (Dj x.o O) A GT (C6.one _ _ _) ?_;intro w4 ao ah)|fail)
  try go_frame
  refine bodyPost_ret (v:=C6.val ⟨fs,nx,cp,sg,3,0⟩ a3 c3) Zn rfl ?_;exact XZ
 have ab:(fs.length:Int)<cp:=qd;by_cases s:1000000<nx
 .have HE:=Aa (show Cf fs nx cp sg d vs=⟨fs,nx,cp,sg,4,0⟩ by unfold Cf;rw[n,if_neg z,if_neg t,if_pos s]);clear n;go_wp2_with (first|(go_at_call 216;refine(MW a c fs nx cp sg 4 0 l y hl m).ac ?_;rintro e u ⟨⟨a3,c3,ai,rfl,Y⟩,O⟩)|(refine EH qi 87 (.tmp 4) (.tmp 50) qi (w.heap.size+1+1) (C6.cells ⟨fs,nx,cp,sg,4,0⟩ a3 c3) qi qi R 87 (Dj x.o O) A GT (C6.one _ _ _) ?_;intro w4 ao ah)|fail)
  try go_frame
  refine bodyPost_ret (v:=C6.val ⟨fs,nx,cp,sg,4,0⟩ a3 c3) Zn rfl ?_;exact XZ
 have HE:=Aa (show Cf fs nx cp sg d vs=⟨fs++[⟨nx,d,vs⟩],nx+1,cp,sg,0,nx⟩ by unfold Cf;rw[n,if_neg z,if_neg t,if_neg s]);clear n;go_wp2_with fail
 go_region_held3 (λw'=>At w' w.heap.size 0 (.slice a fs.length c)/\At w' w.heap.size 1 (I6 nx)/\At w' w.heap.size 2 (I6 cp)/\At w' w.heap.size 3 (.bool sg)/\At w' k.heap.size 0 (I6 nx)/\At w' k.heap.size 1 (.string d)/\At w' k.heap.size 2 (.slice sa vs.length p))
  ((go_split_ands;refine⟨?_,?_,?_,?_,?_,?_,?_⟩<;>first|((with_reducible refine zaL (zaL (zaL (zaL (zaL (zaL ?_ ?_ _) ?_ _) ?_ _) ?_ _) ?_ _) ?_ _)<;>first|with_reducible assumption|(dsimp only;omega))|(with_reducible refine zwX I ?_ qj;show _<l.heap.size;omega)|with_reducible exact zab O qj|with_reducible exact zcE qj)) (first|(go_at_call 217;refine(lp a c fs nx cp sg _ (y.J ?_) hl m).ac ?_;exact Aj.drew;rintro e u ⟨⟨a3,c3,ai,rfl,Y⟩,O⟩)|(go_at_call 218;refine(iy a3 c3 fs ai nx cp sg ⟨nx,d,vs⟩ sa p l.heap.size u Y (aD.J ?_) hl aH O.size (by show 0<=nx;omega) (by show nx<=1000000;omega)).ac ?_;exact Aj.drew.j O;rintro e w5 ⟨⟨W,L,aQ,rfl,aR⟩,I⟩;dsimp only[C6.val];obtain⟨x0,x1,x2,x3,x4,x5,y0,y1,y2,y3,y4,y5,z0,z1,z2,z3,z4,z5⟩:=Nj (b:=w.heap.size+1+1) ((I.block _ qd).j (Dj (w:=l.drew) x.o O)) A)|fail)
 go_wp2;refine bodyPost_ret (v:=C6.val ⟨fs++[⟨nx,d,vs⟩],nx+1,cp,sg,0,nx⟩ W L) (by simp[results,results157,go_sem,C6.val, *]) rfl ?_;rw[HE.o];refine⟨⟨W,L,aQ,rfl,?_⟩,?_⟩
 .exact((((((aR.set qg _).set qg _).set qg _).set qg _).set qg _).set qg _).lower hB2.size
 have aS:Bw w w5:=(hB2.drew.j (O.ac hB2.size)).j (I.ac hB2.size);exact(((((aS.setCell qg _).setCell qg _).setCell qg _).setCell qg _).setCell qg _).setCell qg _
def zoM(a c fs nx cp sg b tag sa d vs w)(hv:BC w a fs)(O:Bj w sa vs)(hl:fs.length<=1048576)(i:∀f∈fs,AV f)(g:∀f∈fs,Cq f)(Y:b.size<=maxLen)(l:vs.length<=1048576)(j:∀v∈vs,C8 v) :
  Ca 157 #[.agg #[.slice a fs.length c,I6 nx,I6 cp,.bool sg],.agg #[.string b,I6 tag,.slice sa vs.length d]] w λe w'=>
   (∃k m xs,e=.returned ((De fs nx cp sg b vs).val k m)/\Bp w' w.heap.size (.slice k (De fs nx cp sg b vs).fs.length m) (De fs nx cp sg b vs).fs.length (De fs nx cp sg b vs).fs xs)/\Bw w w':=by
 cases h:(Cg fs nx cp sg&&(Aw b.data.toList&&C4 vs))
 .rw[RZ h];exact wM a c fs nx cp sg b tag sa d vs w hv O hl i g Y l (λv h=>(j v h).2.2) h
 simp only[yk]at h;rw[RG h.1 h.2.1 h.2.2];exact xk a c fs nx cp sg b tag sa d vs w hv O hl i g Y l j h.1 h.2.1 h.2.2
end
section
open Go.Maps
attribute [local go_sem ↓] wp_at_zero wp_at_succ
def zo7(a c fs nx cp sg g tag sa i vs w)(hv:BC w a fs)(q:Bj w sa vs)(hl:fs.length<=1048576)(m:∀f∈fs,AV f)(k:∀f∈fs,Cq f)(r:vs.length<=1048576)(s:∀v∈vs,v.av.size<=maxLen)(Y:(Cg fs nx cp sg&&C4 vs)=false) :
  Ca 159 #[.agg #[.slice a fs.length c,I6 nx,I6 cp,.bool sg],.agg #[.string g,I6 tag,.slice sa vs.length i]] w λe w'=>
   (∃o p xs,e=.returned (C6.bad.val o p)/\Bp w' w.heap.size (.slice o C6.bad.fs.length p) C6.bad.fs.length C6.bad.fs xs)/\Bw w w':=by
 cases x:Cg fs nx cp sg
 focus
  clear Y;go_enter func159,ntmps159;go_wp2_with (go_at_call 213;refine(JZ a c fs nx cp sg _ (hv.J Ba) hl m k).an λb O=>?_;obtain⟨d,u⟩:=Ah O);refine bodyPost_ret (v:=C6.bad.val none 0) (by simp[results,results159,go_sem,d,C6.val,C6.bad]) rfl ⟨⟨none,0,[],rfl,Bp.nil _ _⟩,?_⟩;have l:Bw w b:=Ba.aj O
 rotate_left
 focus
  rw[x,YP]at Y;go_enter func159,ntmps159;go_wp2_with (first|(go_at_call 213;refine(JZ a c fs nx cp sg _ (hv.J Ba) hl m k).an λb O=>?_;obtain⟨d,u⟩:=Ah O;have n:Bw w b:=(Ba.aj O);have z:w.heap.size+1+1<b.heap.size:=yh qe O.size)|(go_at_call 214;refine(Qg sa i vs _ (q.J n) r s).an λy j=>?_;obtain⟨t,A⟩:=Ah j)|fail);refine bodyPost_ret (v:=C6.bad.val none 0) (by simp[results,results159,go_sem,d,t,z,C6.val,C6.bad]) rfl ⟨⟨none,0,[],rfl,Bp.nil _ _⟩,?_⟩;have l:Bw w y:=n.aj j
 rotate_left
 all_goals
  exact(((((l.setCell qg _).setCell qg _).setCell qg _).setCell qg _).setCell qg _).setCell qg _
def nO(h:P:=by rw[HM.o,HE.o];exact⟨⟨a4,c4,az,rfl,(aj.kept (λg hg=>au.o.block g (by have:=(aj.range hg).1;omega))).lower ai.size⟩,(ai.aj Y).j (au.o.J (by omega))⟩):=h
def zG(a c fs nx cp sg A tag sa q vs w)(hv:BC w a fs)(aO:Bj w sa vs)(hc:fs.length<=c)(hl:fs.length<=1048576)(N:∀f∈fs,AV f)(C:∀f∈fs,Cq f)(bi:(Lit.int .i64 tag).wf=true)(aW:vs.length<=1048576)(aL:∀v∈vs,C8 v)(H:Cg fs nx cp sg=true)(aD:C4 vs=true) :
  Ca 159 #[.agg #[.slice a fs.length c,I6 nx,I6 cp,.bool sg],.agg #[.string A,I6 tag,.slice sa vs.length q]] w λe w'=>
   (∃a' c' xs,e=.returned ((BS fs nx cp sg tag vs).val a' c')/\Bp w' w.heap.size (.slice a' (BS fs nx cp sg tag vs).fs.length c') (BS fs nx cp sg tag vs).fs.length (BS fs nx cp sg tag vs).fs xs)/\Bw w w':=by
 have n:∀f∈fs,f.ad.length<=1048576:=λf x=>(N f x).2.1;have aG:∀v∈vs,v.av.size<=maxLen:=λv h=>(aL v h).2.2;obtain⟨n1,n2,n3,n4,n5⟩:=SS H;have G:=Qi H;have av:=Ub N C G;have a0:vs.length<=6:=by simp only[C4,yk,decide_eq_true_eq]at aD;exact aD.1
 go_enter func159,ntmps159;go_wp2_with (first|(go_at_call 213;refine(JZ a c fs nx cp sg _ (hv.J Ba) hl N C).an λw0 k=>?_;obtain⟨a8,bm⟩:=Ah k;have aY:Bw w w0:=(Ba.aj k);have aT:w.heap.size+1+1<w0.heap.size:=yh qe k.size)|(go_at_call 214;refine(Qg sa q vs _ (aO.J aY) aW aG).an λr y=>?_)|fail);obtain⟨aI,aK⟩:=Ak (Dj (Dj (w:=_) (o:=.cells (J5 a fs.length c nx cp sg).toArray 27 (0,0)) (b:=w.heap.size) ((yV _ _ _ qg).j ((yV _ _ _ qe).j (Eu _ _ _ rfl))) k) y) (Dj (Dj (w:=_) (o:=.cells (Za A tag sa vs.length q).toArray 171 (0,0)) (b:=w.heap.size+1) ((yV _ _ _ qe).j (Eu _ _ _ qe)) k) y);obtain⟨R,hR,K⟩:∃R:Array Value,r.heap[w.heap.size+1+1]?=some (.cells R 87 (0,0))/\R.size=6:=⟨_,(y.block _ aT).j ((k.block _ qe).j (Eu _ _ _ qe)),rfl⟩
 have aR:=Aa hR;have E:Bw w r:=aY.aj y;have aV:w.heap.size+1+1<r.heap.size:=yh aT y.size;obtain⟨q0,L,M,I⟩:=IV aI.o;obtain⟨t0,t1,t2⟩:=UN aK.o;have aP:=hv.J E;have ao:∀(W:World)(b:Nat)(D:DataW Unit),W.ownsMap prog 3 (plainElem prog 3) b fs.length D->Ep fs fs.length D->(Instr.lookup 172 (.map (some b)) (I6 tag) true).run prog W=.ok (.tuple #[I6 (QW (AD tag fs)),.bool (AD tag fs).isSome]) W:=λ_ _ _ ho hI=>RW ho hI bi;have HLK:=Aa ao;clear k y a8 bm hR ao t0;cases hi:AD tag fs with
 |none=>
  have HE:=Aa (Sl (tag:=tag) H aD hi)
  go_region_held3 (λw'=>At w' w.heap.size 0 (.slice a fs.length c)/\At w' w.heap.size 1 (I6 nx)/\At w' w.heap.size 2 (I6 cp)/\At w' w.heap.size 3 (.bool sg)/\At w' (w.heap.size+1) 1 (I6 tag))
   ((go_split_ands;refine⟨?_,?_,?_,?_,?_⟩<;>first|with_reducible assumption|with_reducible exact zab O qj|with_reducible exact zcE qj)) (first|(go_at_call 96;refine(Sz a c fs nx cp sg _ (aP.J ?_) hl G C).ac ?_;exact Aj.drew;rintro e d ⟨b2,D,rfl,aA,ay,O⟩;have aw:(Instr.lookup 172 (.map (some b2)) (I6 tag) true).run prog d=.ok (.tuple #[I6 0,.bool false]) d:=pI)|fail)
  clear aw;have l:Bw w d:=E.drew.j (O.ac E.size);have t:=hv.J l;have bl:w.heap.size+1+1<d.heap.size:=yh aV O.size;have U:=Aa (Dj (w:=r.drew) aR.o O);clear HLK hi O aA ay;go_wp2_with (first|(go_at_call 216;refine(MW a c fs nx cp sg 5 0 d t hl n).ac ?_;rintro e m ⟨⟨a3,c3,a9,rfl,a6⟩,p⟩)|(refine EH qi 87 (.tmp 4) (.tmp 30) qi (w.heap.size+1+1) (C6.cells ⟨fs,nx,cp,sg,5,0⟩ a3 c3) qi qi R 87 (Dj U.o p) K GT (C6.one _ _ _) ?_;intro Z bc aX)|fail)
  try go_frame
  refine bodyPost_ret (v:=C6.val ⟨fs,nx,cp,sg,5,0⟩ a3 c3) (by simp[results,results159,asAddr,C6.load bc.o]) rfl ?_;rw[HE.o];exact⟨⟨a3,c3,a9,rfl,(a6.kept (λg hg=>aX.o.block g (by have:=(a6.range hg).1;omega))).lower l.size⟩,(l.aj p).j (aX.o.J qd)⟩
 |some i=>
  have aZ:=Ou hi;obtain⟨f,x⟩:=AJ aZ;have HM:=Aa (Sr (tag:=tag) H aD hi x);have bf:f.ak.size<=maxLen:=(av f (yd x)).1;have a7:Gg ⟨nx,f.ak,vs⟩:=⟨bf,a0,aL⟩
  have bn:EE sg tag f.ak vs fs=0∨0<EE sg tag f.ak vs fs:=by
   unfold EE;split
   .exact VW (Wm 0) G
   exact .inl rfl
  go_region_held3 (λw'=>At w' w.heap.size 0 (.slice a fs.length c)/\At w' w.heap.size 1 (I6 nx)/\At w' w.heap.size 2 (I6 cp)/\At w' w.heap.size 3 (.bool sg)/\At w' (w.heap.size+1) 1 (I6 tag))
   ((go_split_ands;refine⟨?_,?_,?_,?_,?_⟩<;>first|with_reducible assumption|with_reducible exact zab O qj|with_reducible exact zcE qj)) (first|(go_at_call 96;refine(Sz a c fs nx cp sg _ (aP.J ?_) hl G C).ac ?_;exact Aj.drew;rintro e d ⟨b2,D,rfl,aA,ay,O⟩;have aw:(Instr.lookup 172 (.map (some b2)) (I6 tag) true).run prog d=.ok (.tuple #[I6 i,.bool true]) d:=pI)|fail)
  clear aw;have l:Bw w d:=E.drew.j (O.ac E.size);have t:=hv.J l;have aq:=aO.J l;have bl:w.heap.size+1+1<d.heap.size:=yh aV O.size;have bp:w.heap.size<d.heap.size:=qd;have bq:w.heap.size+1<d.heap.size:=qd;obtain⟨U,aQ,aS⟩:=AQ (Dj (w:=r.drew) aR.o O) (Dj (w:=r.drew) aI.o O) (Dj (w:=r.drew) aK.o O);obtain⟨b,o,rfl,c0,c1,_⟩:=t i f x;have bt:b<d.heap.size:=yZ d ⟨b,_,none⟩ c1;clear HLK hi O aA ay aR aI aK q0 L M I t1 t2 x c0 N C aL aG hv aO aP;go_split_ands;obtain⟨q0,L,M,I⟩:=IV aQ.o;obtain⟨t0,t1,t2⟩:=UN aS.o;clear t0;go_wp2_with fail;go_region;go_wp2_with fail;have B:∀o,Bw d (d.alloc o).drew:=λo=>Af.drew;refine(ic (some ⟨b,o,none⟩) c fs nx cp sg ⟨nx,f.ak,vs⟩ sa q tag _ (t.J (B _)) (aq.J (B _)) hl av a7).an λm p=>?_;have s:Bw d m:=(B _).j (p.ac (B _).size);have ai:Bw w m:=l.aj s;obtain⟨bd,aN⟩:=Ak (Dj aQ.o s) (Dj U.o s);have g0:At m d.heap.size 0 (I6 nx):=zab p (zcE qk);have g1:At m d.heap.size 1 (.string f.ak):=zab p (zcE qk);have g2:At m d.heap.size 2 (.slice sa vs.length q):=zab p (zcE qk);have aH:=t.J s;have aU:=aq.J s;have br:d.heap.size<m.heap.size:=yh (by show d.heap.size<(d.alloc _).heap.size;simp) p.size;have bg:(fs.eraseIdx i).length<=1048576:=yi (by rw[KT];split<;>omega) hl;clear aQ U aS p s B t aq av a7 q0 L M I t1 t2 c1;obtain⟨q0,L,M,I⟩:=IV bd.o;generalize u:EE sg tag f.ak vs fs=T at bn;by_cases ht:0<T
  .have HE:=Aa (ku (nx:=nx) (cp:=cp) (i:=i) u ht);have aa:(T != 0)=true:=by simp;omega
   clear u;go_wp2_with (first|(go_at_call 216;refine(MW (some ⟨b,o,none⟩) c fs nx cp sg 2 T m aH hl n).ac ?_;rintro e Z ⟨⟨a4,c4,az,rfl,aj⟩,Y⟩)|(refine EH qi 87 (.tmp 4) (.tmp 51) qi (w.heap.size+1+1) (C6.cells ⟨fs,nx,cp,sg,2,T⟩ a4 c4) qi qi R 87 (Dj aN.o Y) K GT (C6.one _ _ _) ?_;intro w5 aM au)|fail)
   try go_frame
   refine bodyPost_ret (v:=C6.val ⟨fs,nx,cp,sg,2,T⟩ a4 c4) (by simp[results,results159,asAddr,C6.load aM.o]) rfl ?_;exact nO
  have bo:T=0:=qd;subst bo;by_cases z:1000000<nx
  .have HE:=Aa (kU (cp:=cp) (i:=i) u ht z);clear u;go_wp2_with (first|(go_at_call 216;refine(MW (some ⟨b,o,none⟩) c fs nx cp sg 4 0 m aH hl n).ac ?_;rintro e Z ⟨⟨a4,c4,az,rfl,aj⟩,Y⟩)|(refine EH qi 87 (.tmp 4) (.tmp 56) qi (w.heap.size+1+1) (C6.cells ⟨fs,nx,cp,sg,4,0⟩ a4 c4) qi qi R 87 (Dj aN.o Y) K GT (C6.one _ _ _) ?_;intro w5 aM au)|fail)
   try go_frame
   refine bodyPost_ret (v:=C6.val ⟨fs,nx,cp,sg,4,0⟩ a4 c4) (by simp[results,results159,asAddr,C6.load aM.o]) rfl ?_;exact nO
  have HE:=Aa (kC (cp:=cp) (i:=i) u ht z);clear u;go_wp2_with fail
  go_region_held3 (λw'=>At w' w.heap.size 0 (.slice (some ⟨b,o,none⟩) fs.length c)/\At w' w.heap.size 1 (I6 nx)/\At w' w.heap.size 2 (I6 cp)/\At w' w.heap.size 3 (.bool sg)/\At w' d.heap.size 0 (I6 nx)/\At w' d.heap.size 1 (.string f.ak)/\At w' d.heap.size 2 (.slice sa vs.length q))
   ((go_split_ands;refine⟨?_,?_,?_,?_,?_,?_,?_⟩<;>first|((with_reducible refine zaL (zaL (zaL (zaL (zaL (zaL ?_ ?_ _) ?_ _) ?_ _) ?_ _) ?_ _) ?_ _)<;>first|with_reducible assumption|(dsimp only;omega))|(with_reducible refine zwX aJ ?_ qj;show _<m.heap.size;omega)|with_reducible exact zab Y qj|with_reducible exact zcE qj)) (first|(go_at_call 219;refine(lX (some ⟨b,o,none⟩) c fs nx cp sg i _ (aH.J ?_) hc hl n aZ).ac ?_;exact Aj.drew;rintro e Z ⟨⟨a4,c4,az,rfl,aj⟩,Y⟩)|(go_at_call 218;refine(iy a4 c4 (fs.eraseIdx i) az nx cp sg ⟨nx,f.ak,vs⟩ sa q m.heap.size Z aj (aU.J ?_) bg aW Y.size (by show 0<=nx;omega) (by show nx<=1000000;omega)).ac ?_;exact Aj.drew.j Y;rintro e w5 ⟨⟨a5,c5,bh,rfl,bj⟩,aJ⟩;dsimp only[C6.val];obtain⟨x0,x1,x2,x3,x4,x5,y0,y1,y2,y3,y4,y5,z0,z1,z2,z3,z4,z5⟩:=Nj (b:=w.heap.size+1+1) ((aJ.block _ qd).j (Dj (w:=m.drew) aN.o Y)) K)|fail)
  go_wp2;refine bodyPost_ret (v:=C6.val ⟨fs.eraseIdx i++[⟨nx,f.ak,vs⟩],nx+1,cp,sg,0,nx⟩ a5 c5) (by simp[results,results159,go_sem,C6.val, *]) rfl ?_;rw[HM.o,HE.o];refine⟨⟨a5,c5,bh,rfl,?_⟩,?_⟩
  .exact((((((bj.set qg _).set qg _).set qg _).set qg _).set qg _).set qg _).lower ai.size
  have bk:Bw w w5:=(ai.drew.j (Y.ac ai.size)).j (aJ.ac ai.size);exact(((((bk.setCell qg _).setCell qg _).setCell qg _).setCell qg _).setCell qg _).setCell qg _
def wO(a c fs nx cp sg b tag sa d vs w)(hv:BC w a fs)(O:Bj w sa vs)(m:fs.length<=c)(hl:fs.length<=1048576)(i:∀f∈fs,AV f)(g:∀f∈fs,Cq f)(n:(Lit.int .i64 tag).wf=true)(Y:vs.length<=1048576)(k:∀v∈vs,C8 v) :
  Ca 159 #[.agg #[.slice a fs.length c,I6 nx,I6 cp,.bool sg],.agg #[.string b,I6 tag,.slice sa vs.length d]] w λe w'=>
   (∃j l xs,e=.returned ((BS fs nx cp sg tag vs).val j l)/\Bp w' w.heap.size (.slice j (BS fs nx cp sg tag vs).fs.length l) (BS fs nx cp sg tag vs).fs.length (BS fs nx cp sg tag vs).fs xs)/\Bw w w':=by
 cases h:(Cg fs nx cp sg&&C4 vs)
 .rw[Sa h];exact zo7 a c fs nx cp sg b tag sa d vs w hv O hl i g Y (λv h=>(k v h).2.2) h
 simp only[yk]at h;exact zG a c fs nx cp sg b tag sa d vs w hv O m hl i g n Y k h.1 h.2
def nM(h:P:=by exact((((((ao.set (by simp;omega) _).set (by simp;omega) _).set (by simp;omega) _).set (by simp;omega) _).set (by simp;omega) _).set (by simp;omega) _).lower af.size):=h
def X7(h:P:=by exact((((((af.aj Y).setCell (by simp;omega) _).setCell (by simp;omega) _).setCell (by simp;omega) _).setCell (by simp;omega) _).setCell (by simp;omega) _).setCell (by simp;omega) _):=h
def zlE(a c fs nx cp sg d tag sa g vs w)(hv:BC w a fs)(_hc:fs.length<=c)(_hwt:(Lit.int .i64 tag).wf=true)(o:Bj w sa vs)(hl:fs.length<=1048576)(q:∀f∈fs,AV f)(p:∀f∈fs,Cq f)(r:d.size<=maxLen)(aj:vs.length<=1048576)(u:∀v∈vs,C8 v) :
  Ca 45 #[.agg #[I6 1,I6 tag,.string d,.slice sa vs.length g],.agg #[.slice a fs.length c,I6 nx,I6 cp,.bool sg]] w λe w'=>
   (∃l n xs,e=.returned ((De fs nx cp sg d vs).val l n)/\Bp w' w.heap.size (.slice l (De fs nx cp sg d vs).fs.length n) (De fs nx cp sg d vs).fs.length (De fs nx cp sg d vs).fs xs)/\Bw w w':=by
 go_enter func45,ntmps45;go_wp2_with fail
 go_region_held3 (λw'=>At w' w.heap.size 0 (I6 1)/\At w' w.heap.size 1 (I6 tag)/\At w' w.heap.size 2 (.string d)/\At w' w.heap.size 3 (.slice sa vs.length g)/\At w' (w.heap.size+1) 0 (.slice a fs.length c)/\At w' (w.heap.size+1) 1 (I6 nx)/\At w' (w.heap.size+1) 2 (I6 cp)/\At w' (w.heap.size+1) 3 (.bool sg))
  ((go_split_ands;refine⟨?_,?_,?_,?_,?_,?_,?_,?_⟩<;>first|((with_reducible refine zaL (zaL (zaL (zaL (zaL (zaL ?_ ?_ _) ?_ _) ?_ _) ?_ _) ?_ _) ?_ _)<;>first|with_reducible assumption|(dsimp only;omega))|with_reducible exact zab Y qj|with_reducible exact zab O qj|(simp[go_sem];done))) (first|(go_at_call 95;refine(Xc 1 _ qd rfl _).an λk O=>?_)|(go_at_call 157;refine(zoM a c fs nx cp sg d tag sa g vs _ (hv.J ?_) (o.J ?_) hl q p r aj u).ac ?_;exact Ba.drew.j (O.ac qg);exact Ba.drew.j (O.ac qg);rintro e I ⟨⟨i,m,s,rfl,ao⟩,Y⟩;dsimp only[C6.val];obtain⟨x0,x1,H,C,U,K,E,x,L,G,D,M,T,N,B,A,R,z⟩:=Nj (b:=w.heap.size+1+1) (t:=87) ((Y.block _ (yh qe O.size)).j ((O.block _ qe).j (Eu _ _ _ qe))) rfl)|fail)
 go_wp2;have af:Bw w k:=Ba.drew.j (O.ac qg);have y:w.heap.size+1+1+1<=k.heap.size:=by have:=O.size;simpa using this
 refine bodyPost_ret (v:=(De fs nx cp sg d vs).val i m) Zl rfl ⟨⟨i,m,s,rfl,?_⟩,?_⟩
 .exact nM
 exact X7
def zjO(a c fs nx cp sg d tag sa g vs w)(hv:BC w a fs)(s:fs.length<=c)(o:(Lit.int .i64 tag).wf=true)(_hsv:Bj w sa vs)(hl:fs.length<=1048576)(q:∀f∈fs,AV f)(p:∀f∈fs,Cq f)(_hcs:d.size<=maxLen)(_hvl:vs.length<=1048576)(_hvs:∀v∈vs,C8 v) :
  Ca 45 #[.agg #[I6 2,I6 tag,.string d,.slice sa vs.length g],.agg #[.slice a fs.length c,I6 nx,I6 cp,.bool sg]] w λe w'=>
   (∃l n xs,e=.returned ((CV fs nx cp sg tag).val l n)/\Bp w' w.heap.size (.slice l (CV fs nx cp sg tag).fs.length n) (CV fs nx cp sg tag).fs.length (CV fs nx cp sg tag).fs xs)/\Bw w w':=by
 go_enter func45,ntmps45;go_wp2_with fail
 go_region_held3 (λw'=>At w' w.heap.size 0 (I6 2)/\At w' w.heap.size 1 (I6 tag)/\At w' w.heap.size 2 (.string d)/\At w' w.heap.size 3 (.slice sa vs.length g)/\At w' (w.heap.size+1) 0 (.slice a fs.length c)/\At w' (w.heap.size+1) 1 (I6 nx)/\At w' (w.heap.size+1) 2 (I6 cp)/\At w' (w.heap.size+1) 3 (.bool sg))
  ((go_split_ands;refine⟨?_,?_,?_,?_,?_,?_,?_,?_⟩<;>first|((with_reducible refine zaL (zaL (zaL (zaL (zaL (zaL ?_ ?_ _) ?_ _) ?_ _) ?_ _) ?_ _) ?_ _)<;>first|with_reducible assumption|(dsimp only;omega))|with_reducible exact zab Y qj|with_reducible exact zab O qj|(simp[go_sem];done))) (first|(go_at_call 95;refine(Xc 2 _ qd rfl _).an λk O=>?_)|(go_at_call 158;refine(zmH a c fs nx cp sg d tag sa vs.length g _ (hv.J ?_) s hl q p o).ac ?_;exact Ba.drew.j (O.ac qg);rintro e H ⟨⟨i,m,r,rfl,aj⟩,Y⟩;dsimp only[C6.val];obtain⟨x0,x1,G,B,T,I,D,u,K,E,C,L,R,M,A,z,N,y⟩:=Nj (b:=w.heap.size+1+1) (t:=87) ((Y.block _ (yh qe O.size)).j ((O.block _ qe).j (Eu _ _ _ qe))) rfl)|fail)
 go_wp2;have af:Bw w k:=Ba.drew.j (O.ac qg);have x:w.heap.size+1+1+1<=k.heap.size:=by have:=O.size;simpa using this
 refine bodyPost_ret (v:=(CV fs nx cp sg tag).val i m) Zl rfl ⟨⟨i,m,r,rfl,?_⟩,?_⟩
 .exact((((((aj.set qg _).set qg _).set qg _).set qg _).set qg _).set qg _).lower af.size
 exact X7
def zlq(a c fs nx cp sg d tag sa g vs w)(hv:BC w a fs)(s:fs.length<=c)(r:(Lit.int .i64 tag).wf=true)(o:Bj w sa vs)(hl:fs.length<=1048576)(q:∀f∈fs,AV f)(p:∀f∈fs,Cq f)(_hcs:d.size<=maxLen)(aj:vs.length<=1048576)(x:∀v∈vs,C8 v) :
  Ca 45 #[.agg #[I6 3,I6 tag,.string d,.slice sa vs.length g],.agg #[.slice a fs.length c,I6 nx,I6 cp,.bool sg]] w λe w'=>
   (∃l n xs,e=.returned ((BS fs nx cp sg tag vs).val l n)/\Bp w' w.heap.size (.slice l (BS fs nx cp sg tag vs).fs.length n) (BS fs nx cp sg tag vs).fs.length (BS fs nx cp sg tag vs).fs xs)/\Bw w w':=by
 go_enter func45,ntmps45;go_wp2_with fail
 go_region_held3 (λw'=>At w' w.heap.size 0 (I6 3)/\At w' w.heap.size 1 (I6 tag)/\At w' w.heap.size 2 (.string d)/\At w' w.heap.size 3 (.slice sa vs.length g)/\At w' (w.heap.size+1) 0 (.slice a fs.length c)/\At w' (w.heap.size+1) 1 (I6 nx)/\At w' (w.heap.size+1) 2 (I6 cp)/\At w' (w.heap.size+1) 3 (.bool sg))
  ((go_split_ands;refine⟨?_,?_,?_,?_,?_,?_,?_,?_⟩<;>first|((with_reducible refine zaL (zaL (zaL (zaL (zaL (zaL ?_ ?_ _) ?_ _) ?_ _) ?_ _) ?_ _) ?_ _)<;>first|with_reducible assumption|(dsimp only;omega))|with_reducible exact zab Y qj|with_reducible exact zab O qj|(simp[go_sem];done))) (first|(go_at_call 95;refine(Xc 3 _ qd rfl _).an λk O=>?_)|(go_at_call 159;refine(wO a c fs nx cp sg d tag sa g vs _ (hv.J ?_) (o.J ?_) s hl q p r aj x).ac ?_;exact Ba.drew.j (O.ac qg);exact Ba.drew.j (O.ac qg);rintro e K ⟨⟨i,m,u,rfl,ao⟩,Y⟩;dsimp only[C6.val];obtain⟨x0,x1,I,D,W,L,G,y,M,H,E,N,U,R,C,B,T,A⟩:=Nj (b:=w.heap.size+1+1) (t:=87) ((Y.block _ (yh qe O.size)).j ((O.block _ qe).j (Eu _ _ _ qe))) rfl)|fail)
 go_wp2;have af:Bw w k:=Ba.drew.j (O.ac qg);have z:w.heap.size+1+1+1<=k.heap.size:=by have:=O.size;simpa using this
 refine bodyPost_ret (v:=(BS fs nx cp sg tag vs).val i m) Zl rfl ⟨⟨i,m,u,rfl,?_⟩,?_⟩
 .exact nM
 exact X7
end
section
attribute [local go_sem ↓] wp_at_zero wp_at_succ
def GO.kept{Z w w' base v n fs xs}(h:GO Z w base v n fs xs)(d:∀b,(Z b∨v.ownBlock=some b)->w'.heap[b]?=w.heap[b]?):GO Z w' base v n fs xs:=
 ⟨h.num,h.len,BZ h.own (λg j=>d g (.inr j)),λi f x l k=>by
  obtain⟨a,c,e,hv⟩:=h.each i f x l k
  exact⟨a,c,e,hv.kept (λb O _=>d b (.inl O))⟩,h.apart⟩
def znf(a c fs nx cp sg tag sa j vs w)(hv:BC w a fs)(r:Bj w sa vs)(p:fs.length<=c)(hl:fs.length<=1048576)(m:∀f∈fs,AV f)(s:vs.length<=1048576)(t:∀v∈vs,v.av.size<=maxLen)(Y:(Cg fs nx cp sg&&C4 vs)=false) :
  Ca 62 #[.agg #[.slice a fs.length c,I6 nx,I6 cp,.bool sg],I6 tag,.slice sa vs.length j] w λe w'=>
   (∃o q,e=.returned (C6.bad.val o q)/\DD (λb=>w.heap.size<=b) w' o C6.bad.fs/\C6.bad.fs.length<=q)/\Bw w w':=by
 cases y:Cg fs nx cp sg
 focus
  clear Y;go_enter func62,ntmps62;go_wp2_with (go_at_call 115;refine(JY a c fs nx cp sg _ (hv.J Ax) p hl m).an λd O=>?_;obtain⟨g,x⟩:=Ah O);refine bodyPost_ret (v:=C6.bad.val none 0) (by simp[results,results62,go_sem,g,C6.val,C6.bad]) rfl ⟨⟨none,0,rfl,λi f hf=>Nx,yA _⟩,?_⟩;have l:Bw w d:=Ax.aj O
 rotate_left
 focus
  rw[y,YP]at Y;go_enter func62,ntmps62;go_wp2_with (first|(go_at_call 115;refine(JY a c fs nx cp sg _ (hv.J Ax) p hl m).an λd O=>?_;obtain⟨g,x⟩:=Ah O;have n:Bw w d:=(Ax.aj O);have A:w.heap.size+1<d.heap.size:=yh qe O.size)|(go_at_call 117;refine(OS sa j vs _ (r.J n) s t).an λz k=>?_;obtain⟨u,B⟩:=Ah k)|fail);refine bodyPost_ret (v:=C6.bad.val none 0) (by simp[results,results62,go_sem,g,u,A,C6.val,C6.bad]) rfl ⟨⟨none,0,rfl,λi f hf=>Nx,yA _⟩,?_⟩;have l:Bw w z:=n.aj k
 rotate_left
 all_goals
  exact(((((l.setCell qe _).setCell qe _).setCell qe _).setCell qe _).setCell qe _).setCell qe _
def nE(h:P:=by rw[HM.o,HE.o];exact⟨⟨a2,c2,rfl,(ax.o.kept (λb hz _=>Y.o.block b (by omega))).ac (λb hz=>by omega),af.o⟩,aC.j (Y.o.J (by omega))⟩):=h
def wV(a c fs nx cp sg tag sa H vs w)(hv:BC w a fs)(aJ:Bj w sa vs)(hc:fs.length<=c)(hl:fs.length<=1048576)(hs:∀f∈fs,AV f)(aV:vs.length<=1048576)(bg:∀v∈vs,v.av.size<=maxLen)(aD:Cg fs nx cp sg=true)(aO:C4 vs=true) :
  Ca 62 #[.agg #[.slice a fs.length c,I6 nx,I6 cp,.bool sg],I6 tag,.slice sa vs.length H] w λe w'=>
   (∃a' c',e=.returned ((BS fs nx cp sg tag vs).val a' c')/\DD (λb=>w.heap.size<=b) w' a' (BS fs nx cp sg tag vs).fs/\(BS fs nx cp sg tag vs).fs.length<=c')/\Bw w w':=by
 have y:∀f∈fs,f.ad.length<=1048576:=λf C=>(hs f C).2.1;obtain⟨n1,n2,n3,n4,n5⟩:=SS aD;go_enter func62,ntmps62;go_wp2_with (first|(go_at_call 115;refine(JY a c fs nx cp sg _ (hv.J Ax) hc hl hs).an λw0 d=>?_;obtain⟨a9,bl⟩:=Ah d;have aX:Bw w w0:=(Ax.aj d);have aR:w.heap.size+1<w0.heap.size:=yh qe d.size;have aU:w.heap.size<w0.heap.size:=qd)|(go_at_call 117;refine(OS sa H vs _ (aJ.J aX) aV bg).an λB n=>?_;obtain⟨bd,bm⟩:=Ah n)|fail);have aQ:Bw w B:=aX.aj n;have bu:w.heap.size+1<B.heap.size:=yh aR n.size;obtain⟨R,hR,Z⟩:∃R:Array Value,B.heap[w.heap.size+1]?=some (.cells R 87 (0,0))/\R.size=6:=⟨_,(n.block _ aR).j ((d.block _ qe).j (Eu _ _ _ qe)),rfl⟩
 have aS:B.heap[w.heap.size]?=some (.cells (J5 a fs.length c nx cp sg).toArray 27 (0,0)):=(n.block _ aU).j ((d.block _ qg).j ((yV _ _ _ qe).j (Eu _ _ _ rfl)));clear a9 bl bd bm;refine(Sy a c fs nx cp sg B (hv.J aQ) hl y).ac ?_;rintro e k ⟨⟨a2,c2,bv,rfl,aL⟩,z⟩;obtain⟨a8,aM⟩:=Ak (Dj aS z) (Dj hR z);have D:Bw w k:=aQ.aj z;have bw:=z.size;obtain⟨a5,af⟩:=Ak aL.on (MP aL.own);clear aS hR d n z aL;go_wp2_with (first|(refine EH qi 27 (.tmp 7) (.tmp 21) qi k.heap.size (J5 a2 fs.length c2 nx cp sg) qi qi _ 27 (Eu _ _ _ rfl) qi TZ (iD _ _ _ _ _ _) ?_;intro G aK A;have av:=Aa (RE a8.o A.o);obtain⟨q0,q1,q2,q3⟩:=IV av.o)|fail);have aF:=Dw A.o;have bp:=Vb A.o;have L:Bw w G:=D.aj aF;obtain⟨ar,ao⟩:=Ak (RE aM.o A.o) (a5.o.kept (w':=G) (λb _ m=>aF.block b m));obtain⟨N,M,K,I⟩:=IV aK.o;have U:=hv.J L;have O:=VE a c fs tag G U hl;clear A a8 aM a5 aF
 cases g:AD tag fs with
 |none=>
  have HE:=Aa (Sl (tag:=tag) aD aO g);rw[g]at O;refine O.ac ?_;clear O g;rintro e q ⟨rfl,aH⟩;have aq:=aH.ai;subst aq;go_wp2_with (first|(refine EH qi 87 (.tmp 6) (.tmp 29) qi (w.heap.size+1) (C6.cells ⟨fs,nx,cp,sg,5,0⟩ a2 c2) qi qi R 87 ar.o Z GT (C6.one _ _ _) ?_;intro E am Y)|fail)
  try go_frame
  refine bodyPost_ret (v:=C6.val ⟨fs,nx,cp,sg,5,0⟩ a2 c2) Zm rfl ?_;rw[HE.o];exact⟨⟨a2,c2,rfl,(ao.o.kept (λb hz _=>Y.o.block b qd)).ac (λb hz=>qd),af.o⟩,L.j (Y.o.J qd)⟩
 |some i=>
  have bj:=Ou g;obtain⟨f,C⟩:=AJ bj;obtain⟨HM,bh⟩:=Ak (Sr (tag:=tag) aD aO g C) (Xh (Qi aD) g);obtain⟨b,o,rfl,c0,c1,_⟩:=U i f C;rw[g]at O;refine O.ac ?_;clear O g C c0;rintro e q ⟨rfl,aH⟩;have aq:=aH.ai;subst aq;dsimp only[Pa];go_wp2_with fail;refine(lV (some ⟨b,o,none⟩) c fs nx cp sg tag f.ak sa H vs G U (aJ.J L) hl y).an λq l=>?_;obtain⟨aT,aE,W,ax⟩:=BE (Dj av.o l) (Dj aK.o l) (Dj ar.o l) (ao.o.kept (w':=q) (λb _ m=>l.block b m));have aC:Bw w q:=L.aj l;have bt:=l.size;clear q0 q1 q2 q3 N M K I;obtain⟨q0,q1,q2,q3⟩:=IV aT.o;obtain⟨N,M,K,I⟩:=IV aE.o;clear av ar ao aK l hv hs c1 U;generalize s:EE sg tag f.ak vs fs=T;by_cases ht:0<T
  .have HE:=Aa (ku (nx:=nx) (cp:=cp) (i:=i) s ht);clear s;go_wp2_with (first|(refine EH qi 87 (.tmp 6) (.tmp 46) qi (w.heap.size+1) (C6.cells ⟨fs,nx,cp,sg,2,T⟩ a2 c2) qi qi R 87 W.o Z GT (C6.one _ _ _) ?_;intro E am Y)|fail)
   try go_frame
   refine bodyPost_ret (v:=C6.val ⟨fs,nx,cp,sg,2,T⟩ a2 c2) Zm rfl ?_;exact nE
  by_cases x:1000000<nx
  .have HE:=Aa (kU (cp:=cp) (i:=i) s ht x);clear s;go_wp2_with (first|(refine EH qi 87 (.tmp 6) (.tmp 52) qi (w.heap.size+1) (C6.cells ⟨fs,nx,cp,sg,4,0⟩ a2 c2) qi qi R 87 W.o Z GT (C6.one _ _ _) ?_;intro E am Y)|fail)
   try go_frame
   refine bodyPost_ret (v:=C6.val ⟨fs,nx,cp,sg,4,0⟩ a2 c2) Zm rfl ?_;exact nE
  have HE:=Aa (kC (cp:=cp) (i:=i) s ht x);clear s;have aG:=mL _ a2 c2 fs tag q ax.o hl;rw[bh.o]at aG;go_wp2_with fail;refine aG.ac ?_;rintro e E ⟨⟨a4,c4,bn,rfl,aN⟩,r⟩;obtain⟨a0,bk,aZ⟩:=AQ (aN.ds r) (Dj W.o r) (Dj aE.o r);have br:∀j,E.frozen? ⟨k.heap.size,j,none⟩=false:=λj=>by simp[World.frozen?,aZ.o]
  have bo:Bw w E:=aC.aj r;have bq:=r.size;have bf:(fs.eraseIdx i).length<=1048576:=yi (by rw[KT];split<;>omega) hl;clear q0 q1 q2 q3 N M K I aG aN r ax W aE aT;obtain⟨N,M,K,I⟩:=IV aZ.o;go_wp2_with fail;have aY:=λu=>bo.setCell (p:=⟨k.heap.size,0,none⟩) D.size u;refine(jU a4 c4 (fs.eraseIdx i) bn nx cp sg f.ak sa H vs _ q.heap.size _ (a0.o.kept ?_) (λb t=>?_) (aJ.J (aY _)) bf aV ?_ qd qd).ac ?_
  .intro b t;refine Yb _ _ _ _ ?_;show b≠k.heap.size;rcases t with t|t
   .omega
   have:=(a0.o.own.lt b t).1;omega
  .have:=t.2;simp;omega
  .simp;omega
  rintro e w6 ⟨⟨a6,c6,rfl,aP,aI⟩,aW⟩;have bi:=Aa ((aW.block (w.heap.size+1) qd).j ((Yb _ ⟨k.heap.size,0,none⟩ _ _ (by show w.heap.size+1≠k.heap.size;omega)).j bk.o));go_wp2_with (first|(refine EH qi 87 (.tmp 6) (.tmp 61) qi (w.heap.size+1) (C6.cells ⟨fs.eraseIdx i++[⟨nx,f.ak,vs⟩],nx+1,cp,sg,0,nx⟩ a6 c6) qi qi R 87 bi.o Z GT (C6.one _ _ _) ?_;intro w7 bc a7)|fail)
  try go_frame
  refine bodyPost_ret (v:=C6.val ⟨fs.eraseIdx i++[⟨nx,f.ak,vs⟩],nx+1,cp,sg,0,nx⟩ a6 c6) (by simp[results,results62,asAddr,C6.load bc.o]) rfl ?_;rw[HM.o,HE.o];refine⟨⟨a6,c6,rfl,?_,by rw[yR];exact aI⟩,((aY _).j (aW.ac (by have:=aC.size;omega))).j (a7.o.J qd)⟩;exact(aP.kept (λb hz _=>a7.o.block b Ty)).ac (λb hz=>Ty)
def zl9(a c fs nx cp sg tag sa d vs w)(hv:BC w a fs)(O:Bj w sa vs)(g:fs.length<=c)(hl:fs.length<=1048576)(i:∀f∈fs,AV f)(Y:vs.length<=1048576)(k:∀v∈vs,v.av.size<=maxLen) :
  Ca 62 #[.agg #[.slice a fs.length c,I6 nx,I6 cp,.bool sg],I6 tag,.slice sa vs.length d] w λe w'=>
   (∃j l,e=.returned ((BS fs nx cp sg tag vs).val j l)/\DD (λb=>w.heap.size<=b) w' j (BS fs nx cp sg tag vs).fs/\(BS fs nx cp sg tag vs).fs.length<=l)/\Bw w w':=by
 cases h:(Cg fs nx cp sg&&C4 vs)
 .rw[Sa h];exact znf a c fs nx cp sg tag sa d vs w hv O g hl i Y k h
 simp only[yk]at h;exact wV a c fs nx cp sg tag sa d vs w hv O g hl i Y k h.1 h.2
end
end Go.Proofs.YtikojfajahnhgaaGreat
