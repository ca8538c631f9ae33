import Derived.Test.YtikojfajahnhgaaGreatShf
import Derived.Test.YtikojfajahnhgaaGreatKbm
import Derived.Test.YtikojfajahnhgaaGreatKbo
set_option linter.all false
set_option maxHeartbeats 6400000
set_option maxRecDepth 1000000
namespace Go.Proofs.YtikojfajahnhgaaGreat
attribute [local simp] At I6 Pn mzI
attribute [local go_sem] At I6 Pn
open Go.RowKit Go.Proofs.Tryz
variable{P:Prop}
section
open Go.Sort
attribute [local go_sem ↓] wp_at_zero wp_at_succ
def mZ{α}[Inhabited α]{enc w O off m}{a:Array α}{c g}(d:g<w.heap.size)(b:g≠O):(grow (putRow enc (Sort.ahead w m) O off a) c).heap[g]?=w.heap[g]?:=by
 have f:(grow (putRow enc (Sort.ahead w m) O off a) c).heap[g]?=(putRow enc (Sort.ahead w m) O off a).heap[g]?:=Sort.heap_grow_old _ c (by rw[size_putRow];exact d);rw[f];show((Sort.ahead w m).heap.modify O _)[g]?=_;rw[YT];rw[if_neg (λe=>b e.y)];rfl
def js(v a O w)(c:w.heap[O]?=some (.cells #[.pointer a] 106 (0,0)))(d:A5 w v)(b:A5 w a) :
  Ca 221 #[.pointer v,Pn O] w λe w'=>e=.returned (.bool (decide (v=a)))/\w'=w:=by
 have g:=AV c;have f:=iC d b;clear c d b;go_enter func221,ntmps221;go_wp2_with fail;exact Mn
abbrev Pd(w:World):={p:Option Addr // A5 w p}
def rD(w:World):Pd w:=⟨none,λa h=>by cases h⟩
def IV{w:World}(x:Pd w):Value:=.pointer x.1
def zmH:∀args w,(callFunc 221 args).run prog w=.ok (.enter 221 args) w:=enters_of func221 qg rfl
def A5.bl{w w' p}(h:A5 w p)(d:∀(g:Nat)c,w.heap[g]?=some (.cells c 145 (0,0))->w'.heap[g]?=w.heap[g]?):A5 w' p:=λa O=>by
 obtain⟨c,b⟩:=h a O;exact⟨c,(d _ c b).c b⟩
def h_{α}[Inhabited α]{enc w g m}{d:Array α}{O e a}(b:w.heap[g]?=some (.cells O e a)):(putRow enc (Sort.ahead w m) g 0 d).heap[g]?=some (.cells (putCells enc 0 d O) e a):=by
 show(w.heap.modify g _)[g]?=_;rw[YT,if_pos rfl,b];rfl
def zjP{α}[Inhabited α]{enc}{xs ys:List α}{O}(h:(xs++ys).length<=O.size):(putCells enc 0 (xs++ys).toArray O).toList.take xs.length=xs.map enc:=by
 apply YA;intro i;by_cases hi:i<xs.length
 .rw[YC,if_pos hi,yA];have b:i<O.size:=by simp at h;omega
  have a:(putCells enc 0 (xs++ys).toArray O).toList[i]?=(putCells enc 0 (xs++ys).toArray O)[i]?:=qe;rw[a];unfold putCells;rw[Array.getElem?_mapIdx,WL b];have hl:i<(xs++ys).toArray.size:=by simp;omega
  simp only[Y4];rw[if_pos ⟨yk _,qd⟩,Nat.sub_zero,getElem!_pos _ i hl];simp[List.getElem_append_left hi,hi]
 rw[Yi qf,Yi OX]
def zlS(w base g cap O f)(xs:List (Pd w))(b)(d:w.heap[g]?=some (.cells b 106 (0,0)))(H:base<=g)(E:xs.length<=cap)(r:cap<=maxLen)(p:b.size=cap)(C:b.toList.take xs.length=xs.map IV)(i:w.heap[O]?=some (.cells #[.pointer f] 106 (0,0)))(l:O≠g)(v:A5 w f) :
  Ca 220 #[.slice (some ⟨g,0,none⟩) xs.length cap,.func (.func 221) #[] #[Pn O]] w λe w'=>
   e=.returned (.slice (some ⟨g,0,none⟩) (xs.filter λx=>!decide (x.1=f)).length cap)/\w'.ownsRow base 106 1 (.slice (some ⟨g,0,none⟩) (xs.filter λx=>!decide (x.1=f)).length cap) (xs.filter λx=>!decide (x.1=f)).length ((xs.filter λx=>!decide (x.1=f)).map IV)/\w.grownBy w' (some g)/\w'.heap.size=w.heap.size:=by
 letI:Inhabited (Pd w):=⟨rD w⟩
 have M:g<w.heap.size:=(yj.1 d).1;have t:O<w.heap.size:=(yj.1 i).1;have A:Holds (IV (w:=w)) w g 0 xs.toArray:=λj hj=>by
  have u:j<xs.length:=QY;have I:xs[j]?=some xs[j]:=yH u;have hc:b.toList[j]?=some (IV xs[j]):=by
   have:=congrArg (·[j]?) C;simp only[YC,u,if_true,yA,I,Y4]at this;exact this
  have L:b[j]?=some (IV xs[j]):=Nx;rw[getElem!_pos _ j hj];refine⟨?_,?_⟩
  .simp[World.cell?,d,L]
  simp[World.frozen?,d]
 have K:PredAt prog 221 #[Pn O] (IV (w:=w)) (λx=>decide (x.1=f)) w:=λW x m=>by
  refine(js x.1 f O W ((m.block O t).c i) (x.2.bl λk c a=>m.block k (yj.1 a).1) (v.bl λk c a=>m.block k (yj.1 a).1)).j ?_;rintro e w' ⟨rfl,rfl⟩;exact⟨rfl,0,rfl⟩
 have J:PredOver prog 221 #[Pn O] (IV (w:=w)) (λx=>decide (x.1=f)) g 0 xs.toArray.size w:=λn B D x _=>by
  have far:∀(k:Nat)c,w.heap[k]?=some (.cells c 145 (0,0))->(sortWorld (IV (w:=w)) w g 0 n D B).heap[k]?=w.heap[k]?:=λk c a=>mZ (yj.1 a).1 (λe=>by rw[e,d]at a;injection a with a;injection a with _ a;exact absurd a qh);refine(js x.1 f O _ ((mZ t l).c i) (x.2.bl far) (v.bl far)).j ?_;rintro e w' ⟨rfl,rfl⟩;exact⟨rfl,0,rfl⟩
 have z:=AnyE.slices_DeleteFunc delF (IV (w:=w)) (λ_=>rfl) (λx=>decide (x.1=f)) 221 #[Pn O] zmH (rD w) (λ_=>rfl) g 0 cap xs.toArray w K J A (by simp;unfold maxLen at r;omega) (by simpa using E);change Ca 220 #[.slice (some ⟨g,0,none⟩) xs.length cap,_] _ _ at z;refine z.j ?_;rintro e w' ⟨rfl,q,rfl⟩;have N:(xs.filter λx=>!decide (x.1=f)).length<=xs.length:=y8 _ _;have G:∀(s:Array (Pd w))(k:Nat),k≠g->(putRow (IV (w:=w)) (Sort.ahead w q) g 0 s).heap[k]?=w.heap[k]?:=λs k o=>by
  show(w.heap.modify g _)[k]?=_;rw[YT,if_neg (λe=>o e.y)]
 refine⟨rfl,⟨qe,.inr ⟨g,cap,_,rfl,H,h_ d,qd,r,?_,?_⟩⟩,⟨rfl,rfl,rfl,by rw[size_putRow];exact yu _,λk _ o=>G _ k (λe=>o Gx)⟩,by rw[size_putRow];rfl⟩
 .simp[putCells,p]
 rw[Nat.mul_one];exact zjP qf
def pV(adr:F->Addr)(g:F):Value:=.pointer (some (adr g))
def gH{w adr}(a):∀(fs:List F),(∀g∈fs,A5 w (some (adr g)))->∃xs:List (Pd w),xs.map IV=fs.map (pV adr)/\(xs.filter λx=>!decide (x.1=some a)).map IV=(fs.filter λg=>!decide (adr g=a)).map (pV adr)
 |[],_=>⟨[],rfl,rfl⟩
 |g::r,h=>by
  obtain⟨xs,c,h2⟩:=gH a r (λy b=>h y (YH _ b))
  refine⟨⟨some (adr g),h g Y6⟩::xs,?_,?_⟩
  .rw[yq,yq,c]
   rfl
  by_cases e:adr g=a
  .simp[e]
   simpa using h2
  simp[e]
  exact⟨rfl,qu⟩
def zoi(a w):Ca 220 #[.slice none 0 0,a] w λe w'=>e=.returned (.slice none 0 0)/\w'=w:=by
 have O:=AnyE.slices_IndexFunc_empty { delF with } none 0 a w;change Ca 237 _ _ _ at O;have b:=Aa O;clear O;go_enter func220,ntmps220;go_wp2_with fail;refine b.o.j ?_;rintro e c ⟨rfl,rfl⟩;go_wp2_with fail;exact Mn
def zoY(w base c b O adr)(fs:List F)(a)(n:w.ownsRow base 106 1 (.slice c fs.length b) fs.length (fs.map (pV adr)))(u:∀g∈fs,A5 w (some (adr g)))(r:A5 w (some a))(v:w.heap[O]?=some (.cells #[.pointer (some a)] 106 (0,0)))(d:∀g,(Value.slice c fs.length b).ownBlock=some g->g≠O) :
  Ca 220 #[.slice c fs.length b,.func (.func 221) #[] #[Pn O]] w λe w'=>
   e=.returned (.slice c (fs.filter λg=>!decide (adr g=a)).length b)/\w'.ownsRow base 106 1 (.slice c (fs.filter λg=>!decide (adr g=a)).length b) (fs.filter λg=>!decide (adr g=a)).length ((fs.filter λg=>!decide (adr g=a)).map (pV adr))/\w.grownBy w' (Value.slice c fs.length b).ownBlock:=by
 rcases n.2 with⟨e,s⟩|⟨g,cap,A,e,B,t,C,q,z,p⟩
 .obtain rfl:fs=[]:=YL.1 s;simp only[Yz,YX,true_and]at e;obtain⟨rfl,rfl⟩:=e;refine(zoi _ w).j ?_;rintro e w' ⟨rfl,rfl⟩;exact⟨rfl,n,⟨rfl,rfl,rfl,yu _,λ_ _ _=>rfl⟩⟩
 simp only[YX,true_and]at e;obtain⟨rfl,rfl⟩:=e;obtain⟨xs,i,f⟩:=gH (w:=w) a fs u;have hl:xs.length=fs.length:=by simpa using congrArg List.length i
 have k:(xs.filter λx=>!decide (x.1=some a)).length=(fs.filter λg=>!decide (adr g=a)).length:=by simpa using congrArg List.length f
 have m:=zlS w base g b O (some a) xs A t B qd q qd (by rw[hl,i,<-p,Nat.mul_one]) v (λe=>d g rfl e.y) r;rw[hl]at m;refine m.j ?_;rintro e w' ⟨rfl,l,o,_⟩;rw[k,f]at l;rw[k];exact⟨rfl,l,o⟩
def NF.ej{w w7 w8 base gb mb a f L bs V QQ m b x v Q' fa fc}(h:NF w base gb mb a f L bs V QQ)(hx:L[m]?=some x)(hb:bs[m]?=some b)(hv:V[m]?=some v)(hbase:base<=w.heap.size)(ho7:w7.ownsRow base 106 1 (.slice fa (Cg x.1 Q').length fc) (Cg x.1 Q').length ((Cg x.1 Q').map Prod.fst))(hg7:w.grownBy w7 v.ownBlock)(hl7:∀g,(Value.slice fa (Cg x.1 Q').length fc).ownBlock=some g->v.ownBlock=some g)(hN8:EI w8 b x m (.slice fa (Cg x.1 Q').length fc))(ht8:Turned w7 w8 b) :
  NF w8 base gb mb a f L bs (V.set m (.slice fa (Cg x.1 Q').length fc)) (λi=>if i=m then Q' else QQ i)/\Dr base w w8:=by
 exact rF
def DU(adr:F->Addr)(fs:List F):List (Value × F):=fs.map λg=>(pV adr g,g)
def Sz{x adr fs}:Cg x (DU adr fs)=DU adr (fs.filter (Ae x)):=by
 unfold Cg DU;rw[YV];rfl
def Vf{adr fs}:(DU adr fs).map Prod.fst=fs.map (pV adr):=by
 unfold DU;rw[Yv];rfl
def MS{adr fs}:(DU adr fs).length=fs.length:=by simp[DU]
def nA{α:Type}{p q}{l:List α}:(l.filter p).filter q=(l.filter q).filter p:=by
 rw[Yq,Yq];congr 1
 funext x
 cases p x<;>cases q x<;>rfl
def A5.ft{base w w' p}(h:A5 w p)(b:Dr base w w'):A5 w' p:=λa O=>by
 obtain⟨c,d⟩:=h a O;exact⟨c,b.kept _ _ _ _ d qh qh⟩
def ua(base A mb J N L l V adr fs a w)(hp:∀g∈fs,A5 w (some (adr g)))(ha:A5 w (some a))(r:NF w base A mb J N L l V (λ_=>DU adr fs))(hB:base<=w.heap.size)(hL:L.length<=1000) :
  Ca 160 #[.pointer (some ⟨A,0,none⟩),.pointer (some a)] w λe w'=>e=.returned (.tuple #[])/\(∃V',NF w' base A mb J N L l V' (λ_=>DU adr (fs.filter λg=>!decide (adr g=a))))/\Dr base w w':=by
 obtain⟨HP,HA⟩:=Ah hp ha;have ah:∀x:Al,Cg x (DU adr (fs.filter λg=>!decide (adr g=a)))=DU adr ((fs.filter (Ae x)).filter λg=>!decide (adr g=a)):=λx=>by rw[Sz,nA]
 have T:=Aa ah;obtain⟨W,t⟩:∃W,W=w.alloc (.cells #[.pointer (some a)] 106 (0,0)):=⟨_,rfl⟩
 have R:Bw w W:=by rw[t];exact Aj
 have M:=Aa (r.C R);have aq:W.heap[w.heap.size]?=some (.cells #[.pointer (some a)] 106 (0,0)):=by rw[t];exact heap_alloc_new w _
 have au:=Aa aq;have az:Hid (∀(i:Nat)(u:Value),V[i]?=some u->∀g,u.ownBlock=some g->g<w.heap.size):=by
  intro i u hu g d;have hi:i<V.length:=(ye.1 hu).1;have e1:=r.aL;have e2:=r.aX;exact((r.node i (L[i]'(by omega)) (l[i]'(by omega)) u qe qe hu).2.2.2.lt g d).2
 have ao:=Aa R;have aF:W.heap.size=w.heap.size+1:=by rw[t];simp
 obtain⟨⟨g0,g1⟩,_,aG⟩:=M.o.box.G;clear hp ha r ah R aq;subst t;go_enter func160,ntmps160;go_wp2_with fail;clear g0 g1
 go_loopw [11] (λiv wr=>∃(k:Nat)(V':List Value),iv=.int .i64 (k:Int)/\k<=L.length/\NF wr base A mb J N L l V' (λi=>if i<k then DU adr (fs.filter λg=>!decide (adr g=a)) else DU adr fs)/\Dr base w wr/\wr.heap[w.heap.size]?=some (.cells #[.pointer (some a)] 106 (0,0))/\(∀(i:Nat)(u:Value),V'[i]?=some u->∀g,u.ownBlock=some g->g<w.heap.size)) (mz L.length)
 case atStart=>exact⟨0,V,rfl,yk _,M.o.same (λi x _=>qe),Dr.m ao.o qd,au.o,az.o⟩
 case round=>
  obtain⟨k,V',rfl,aH,ar,Y,ax,ay⟩:=hrel;obtain⟨NR,FR,I,D⟩:=Bn ar Y ax ay;have aJ:=Y.rest.size;clear ar Y M ax ay au az ao;by_cases K:k<L.length
  .obtain⟨x,Z⟩:=Ba K;obtain⟨nb,z⟩:∃b,l[k]?=some b:=⟨l[k]'(by rw[NR.o.aX];exact K),qe⟩
   obtain⟨v,hv⟩:∃v,V'[k]?=some v:=⟨V'[k]'(by rw[NR.o.aL];exact K),qe⟩
   obtain⟨rb,rfl,_,r0,_⟩:=BM NR.o.row (show(EO l)[k]?=some (.pointer (some ⟨nb,0,none⟩)) by simp[EO,z]);obtain⟨f,n2,⟨fa,fc,rfl⟩,B⟩:=NR.o.node k x nb v Z z hv;simp only[WA,if_false,Sz,MS,Vf]at hv f B;have p:∀g,(Value.slice fa (fs.filter (Ae x.1)).length fc).ownBlock=some g->g≠w.heap.size:=λg d e=>by
    have:=D.o k _ hv g d;omega
   have HD:=Aa (zoY wr base fa fc w.heap.size adr (fs.filter (Ae x.1)) a B (λg d=>(HP.o g (yf.1 d).1).ft FR.o) (HA.o.ft FR.o) I.o p);have z0:(0:Int)<=(k:Int):=qd;have z1:(k:Int)<(L.length:Int):=qd;obtain⟨HX,aA,O,N1,N4⟩:=DE Z z hv f B;obtain⟨⟨_,_,_,y4⟩,_,aI⟩:=f.G;clear Z z hv f B p;go_wp2_with fail;refine HD.o.rtn λw7⟨q,j⟩=>?_;obtain⟨N7,aE,aw⟩:=AA (show EI w7 nb x k (.slice fa (fs.filter (Ae x.1)).length fc) from Ef N1.o j (λg d=>AO N4.o d) qh) q j;clear q j HD r0 y4;obtain⟨_,z4,_⟩:=N7.o.G;go_upto_region 5 with fail;refine XM N7.o ?_;intro w8 s n;have hR:=NF.ej (QQ:=λi=>if i<k then DU adr (fs.filter λg=>!decide (adr g=a)) else DU adr fs) (Q':=DU adr (fs.filter λg=>!decide (adr g=a))) (fa:=fa) (fc:=fc) NR.o HX.o aA.o O.o qd (by rw[T.o,MS,Vf];exact aE.o) aw.o (by rw[T.o,MS];intro g d;cases fa with|none=>cases d|some a'=>exact d) (by rw[T.o,MS,Yq];exact s) n;have HR:=Aa hR;have aC:Hid (w8.heap[w.heap.size]?=some (.cells #[.pointer (some a)] 106 (0,0))):=by
    have U:=(yj.1 I.o).1;have E:w.heap.size≠nb:=λe=>by
     have f:=N1.o;unfold EI at f;rw[<-e,I.o]at f;injection f with f;injection f with _ f;exact absurd f qh
    have H:some w.heap.size≠(Value.slice fa (fs.filter (Ae x.1)).length fc).ownBlock:=λe=>by
     have:=D.o k _ O.o _ e.y;omega
    exact(n.block _ E).c ((aw.o.block _ U H).c I.o)
   have aD:Hid (∀(i:Nat)(u:Value),(V'.set k (.slice fa (Cg x.1 (DU adr (fs.filter λg=>!decide (adr g=a)))).length fc))[i]?=some u->∀g,u.ownBlock=some g->g<w.heap.size):=by
    intro i u hu g d;by_cases hi:i=k
    .subst hi;have U:=(ye.1 O.o).1;rw[Y2 U]at hu;cases hu;refine D.o i _ O.o g ?_;cases fa with
     |none=>cases d
     |some a'=>exact d
    rw[YN (λe=>hi e.y)]at hu;exact D.o i u hu g d
   clear hR s n;go_wp2_with fail;go_roundw
   case rel=>
    refine⟨k+1,_,qm,qd,HR.o.1.same (λi y hy=>?_),FR.o.c HR.o.2,aC.o,aD.o⟩;by_cases E:i<k
    .simp[E,show i<k+1 by omega,show i≠k by omega]
    .by_cases H:i=k
     .subst H;simp
     .simp[E,H,show¬i<k+1 by omega]
   case measure=>(simp;omega)
  have aB:k=L.length:=qd;subst aB;exact Zz
end
def Pa:List Nat->Nat->Nat
 |[],_=>0
 |x::l,b=>if x=b then 0 else Pa l b+1
def iT:∀{l:List Nat}{i b:Nat},l[i]?=some b->l[Pa l b]?=some b
 |[],i,b,h=>by simp at h
 |x::l,i,b,h=>by
  unfold Pa
  by_cases e:x=b
  .rw[if_pos e]
   simp[e]
  rw[if_neg e]
  cases i with
  |zero=>exact absurd (by simpa using h) e
  |succ i=>exact iT (l:=l) (i:=i) (by simpa using h)
def Fw(L:List FH)(bs:List Nat)(V:List Value)(fs:List F):Vw:=λb=>
 match V[Pa bs b]?,L[Pa bs b]? with
 |some (.slice a _ c),some x=>(a,c,fs.filter (Ae x.1))
 |_,_=>(none,0,[])
def NF.inj{w base d mb e f L a V QQ}(h:NF w base d mb e f L a V QQ){i j b:Nat}(c:a[i]?=some b)(hj:a[j]?=some b):i=j:=by
 have l:=h.aX;have g:=h.aL;have k:=(ye.1 c).1;have O:=(ye.1 hj).1;exact(h.node i (L[i]'(by omega)) b (V[i]'(by omega)) qe c qe).1.num (h.node j (L[j]'(by omega)) b (V[j]'(by omega)) qe hj qe).1
def Uy{w base f mb g j L a V adr fs}(h:NF w base f mb g j L a V (λ_=>DU adr fs)){i b:Nat}{x}(d:L[i]?=some x)(c:a[i]?=some b):∃fa fc,V[i]?=some (.slice fa (fs.filter (Ae x.1)).length fc)/\Fw L a V fs b=(fa,fc,fs.filter (Ae x.1)):=by
 have l:=h.aL;have O:=(ye.1 d).1;obtain⟨v,hv⟩:∃v,V[i]?=some v:=⟨V[i]'(by omega),qe⟩
 obtain⟨_,_,⟨fa,fc,e⟩,_⟩:=h.node i x b v d c hv;rw[Sz,MS]at e;subst e;refine⟨fa,fc,hv,?_⟩;have k:Pa a b=i:=h.inj (iT c) c;simp only[Fw,k,hv,d]
def PD.dG{w B ca cc g e X j b}{L:List FH}(h:PD w B ca cc g e X j (L.map Prod.fst) b):∀c∈X,∃(i:Nat)(x:FH),L[i]?=some x/\x.1=c.cp.F/\b[i]?=some c.node:=λc k=>by
 obtain⟨i,a,d⟩:=h.aH c k;rw[yA]at a;obtain⟨x,f,O⟩:=Yd.1 a;exact⟨i,x,f,O,d⟩
def PD.ek{w B base z mb I K L a V adr fs ca X cc C A M U}(h:PD w B ca cc C A X M (L.map Prod.fst) a)(o:NF w base z mb I K L a V (λ_=>DU adr fs))(N:IG adr U w)(J:∀f∈fs,f∈U):(∀(k:Nat)(c:Cx),X[k]?=some c->Dp adr (Fw L a V fs) ca w k c)/\∀c∈X,gV (Fw L a V fs) c=fs.filter (Ae c.cp.F):=by
 refine⟨λi c l=>?_,λc l=>?_⟩
 .have key:=λj u(hj:(II c)[j]?=some u)=>BM h.conds (FK (cells:=II) (m:=4) (λ_=>rfl) X i c j u l hj);obtain⟨k,v,_,h0,_⟩:=key 0 _ rfl;obtain⟨R,q,_,h1,_⟩:=key 1 _ rfl;obtain⟨W,r,_,h2,_⟩:=key 2 _ rfl;obtain⟨T,t,_,h3,_⟩:=key 3 _ rfl;rw[v]at q r t;cases q;cases r;cases t;have y:=yd l;obtain⟨n,x,d,s,b⟩:=h.dG c y;obtain⟨fa,fc,hv,O⟩:=Uy o d b;obtain⟨E,_,_,p⟩:=o.node n x c.node _ d b hv;obtain⟨⟨_,_,_,H⟩,_⟩:=E.G;rw[Sz,MS,Vf]at p;refine⟨k,v,⟨qD,qw,qu,Mt⟩,DS.owns (h.x c y),?_,?_⟩
  .rw[O];exact H
  rw[O];intro j f hj;obtain⟨g,e,_,D,_⟩:=BM p (show((fs.filter (Ae x.1)).map (pV adr))[j]?=some (pV adr f) by rw[yA,show(fs.filter (Ae x.1))[j]?=some f from hj];rfl);exact⟨g,0,e,by simpa[pV] using D,N f (J f (yf.1 (yd hj)).1)⟩
 obtain⟨n,x,d,s,b⟩:=h.dG c l;obtain⟨fa,fc,hv,O⟩:=Uy o d b;unfold gV;rw[O,<-s]
def PD.aI{w B base k mb s t L b V adr fs m cc q o u U}(h:PD w B m.ca cc q o m.X u (L.map Prod.fst) b)(d:NF w base k mb s t L b V (λ_=>DU adr fs))(g:Br adr U w)(r:∀f∈fs,f∈U):GM m adr U (Fw L b V fs) w/\∀c∈m.X,gV (Fw L b V fs) c=fs.filter (Ae c.cp.F):=by
 obtain⟨j,p⟩:=h.ek d g.a r;refine⟨⟨j,λc v=>?_,g⟩,p⟩;obtain⟨n,x,e,y,i⟩:=h.dG c v;obtain⟨fa,fc,hv,A⟩:=Uy d e i;obtain⟨l,z,O⟩:=(d.node n x c.node _ e i hv).1.nd (d.aK x (yd e));rw[y]at O;exact⟨l,z,O⟩
def gG{U fs:List F}{X vw}(b:∀c∈X,gV vw c=fs.filter (Ae c.cp.F))(O:∀f∈fs,f∈U)(d:fs.Nodup)(hl:fs.length<=900):EG U X (gV vw):=λc e=>by
 rw[b c e];exact⟨λf a=>yf.2 ⟨O f (yf.1 a).1,(yf.1 a).2⟩,d.sublist YR,yh (y8 _ _) hl⟩
def zn{p fs f}:FU 1 (p f) f (fs.filter p) ((fs++[f]).filter p):=by
 unfold FU;rw[yM];cases h:p f
 .simp[h]
 simp[h]
def xP{p adr}{U fs:List F}{f}(j:Bs adr U)(O:∀g∈fs,g∈U)(k:fs.Nodup)(b:f∈fs):FU (-1) (p f) f (fs.filter p) ((fs.filter λg=>!decide (adr g=adr f)).filter p):=by
 have e:∀g∈fs,adr g=adr f↔g=f:=λg a=>⟨λq=>j g (O g a) f (O f b) q,λq=>by rw[q]⟩
 rw[nA];unfold FU;cases h:p f
 .rw[if_neg qh];refine Yk.2 λg a=>?_;obtain⟨l,c⟩:=yf.1 a;have:adr g≠adr f:=λq=>by
   rw[(e g l).1 q,h]at c;cases c
  simp[this]
 rw[if_pos rfl,if_neg qh];have i:f∈fs.filter p:=yf.2 ⟨b,h⟩;have d:(fs.filter p).Nodup:=k.sublist YR;refine(KV d (y9.2 ⟨λq=>by simpa using(yf.1 q).2,d.sublist YR⟩)).2 λg=>?_;rw[yG,yf (p:=λg=>!decide (adr g=adr f))];constructor
 .intro q;by_cases q':g=f
  .exact .inl q'
  exact .inr ⟨q,by simpa usingλr=>q' ((e g (yf.1 q).1).1 r)⟩
 rintro(q|q)
 .exact q▸i
 exact q.1
section
open Go.Maps
def vt (b w):Sem.run prog (method 525 248 (Pn b) "loop.example/s01311/impl.add") w=.ok (301,Pn b) w:=by kernel_rfl
def xj (b w):Sem.run prog (method 525 256 (Pn b) "loop.example/s01311/impl.add") w=.ok (306,Pn b) w:=by kernel_rfl
def xy (b w):Sem.run prog (method 525 248 (Pn b) "loop.example/s01311/impl.remove") w=.ok (303,Pn b) w:=by kernel_rfl
def vY (b w):Sem.run prog (method 525 256 (Pn b) "loop.example/s01311/impl.remove") w=.ok (308,Pn b) w:=by kernel_rfl
def vM (b w):Sem.run prog (method 525 248 (Pn b) "loop.example/s01311/impl.size") w=.ok (304,Pn b) w:=by kernel_rfl
def u_ (b w):Sem.run prog (method 525 256 (Pn b) "loop.example/s01311/impl.size") w=.ok (309,Pn b) w:=by kernel_rfl
def uI (b w):Sem.run prog (method 525 248 (Pn b) "loop.example/s01311/impl.conflict") w=.ok (302,Pn b) w:=by kernel_rfl
def uX (b w):Sem.run prog (method 525 256 (Pn b) "loop.example/s01311/impl.conflict") w=.ok (307,Pn b) w:=by kernel_rfl
structure Gg(adr:F->Addr) (fs:List F) (D:DataW Unit):Prop where
 cr:∀t:Int,Maps.has D (.int .i64 t)=true↔∃f∈fs,f.tag=t
 N:∀f∈fs,∀zd,D.atKey (.int .i64 f.tag) zd=.lit (.int .i64 ((adr f).block:Int))
def NB(t):WideAt.IsKeyLit (.int .i64 t):=trivial
def Gg.put{adr adr' fs D f b}(h:Gg adr fs D)(c:IsMap D)(O:∀g∈fs,adr' g=adr g)(i:adr' f=⟨b,0,none⟩)(d:∀g∈fs,g.tag≠f.tag):Gg adr' (fs++[f]) (D.put (.int .i64 f.tag) (.lit (.int .i64 (b:Int)))):=by
 refine⟨λt=>?_,λg a j=>?_⟩
 .by_cases e:t=f.tag
  .subst e;rw[has_put_same c (NB _)];exact⟨λ_=>⟨f,qe,rfl⟩,λ_=>rfl⟩
  rw[has_put_other (λq=>e (by injection q)),h.cr];constructor
  .rintro⟨g,a,q⟩;exact⟨g,by simp[a],q⟩
  rintro⟨g,a,q⟩;rcases yn.1 a with a|a
  .exact⟨g,a,q⟩
  rw[yp.1 a]at q;exact absurd q.y e
 rcases yn.1 a with a|a
 .rw[atKey_put_other (λq=>d g a (by injection q)),h.N g a,O g a]
 rw[yp.1 a,atKey_put_same c (NB _),i]
def Gg.del{adr U fs D f}(h:Gg adr fs D)(i:Bs adr U)(O:∀g∈fs,g∈U)(d:f∈fs)(j:∀g∈fs,∀k∈fs,g.tag=k.tag->g=k):Gg adr (fs.filter λg=>!decide (adr g=adr f)) (D.del (.int .i64 f.tag)):=by
 have key:∀g∈fs,(g.tag=f.tag↔adr g=adr f):=λg a=>⟨λq=>by rw[j g a f d q],λq=>by rw[i g (O g a) f (O f d) q]⟩
 refine⟨λt=>?_,λg a l=>?_⟩
 .by_cases e:t=f.tag
  .subst e;rw[has_del_same];refine⟨λq=>Np,?_⟩;rintro⟨g,a,q⟩;obtain⟨b,c⟩:=yf.1 a;simp[(key g b).1 q]at c
  rw[has_del_other (λq=>e (by injection q)),h.cr];constructor
  .rintro⟨g,a,q⟩;exact⟨g,yf.2 ⟨a,by simpa usingλr=>e (by rw[<-q];exact(key g a).2 r)⟩,q⟩
  rintro⟨g,a,q⟩;exact⟨g,(yf.1 a).1,q⟩
 obtain⟨b,c⟩:=yf.1 a;rw[atKey_del_other (λq=>by injection q with _ q;simp[(key g b).1 q]at c),h.N g b]
structure NT where
 nw:Nat
 gb:Nat
 mb:Nat
 base:Nat
 la:Option Addr
 lc:Nat
 L:List FH
 bs:List Nat
 fb:Nat
 ma:Option Addr
 mc:Nat
 Ms:List MK
 B:Nat
structure FD(N:NT):Prop where
 ok:∀m∈N.Ms,m.Ok
 apart:∀(i j:Nat)(m m':MK),N.Ms[i]?=some m->N.Ms[j]?=some m'->i≠j->∀g,m.S g->¬m'.S g
 ci:∀m∈N.Ms,¬m.S N.fb
 bX:∀x∈N.L,x.1.x.length<=1048576
 len:N.L.length<=1000
 bY:N.Ms.length<=1000
 dz:∀m∈N.Ms,∀g,m.S g->N.base<=g
 el:N.base<=N.fb
structure Eg(N:NT) (adr:F->Addr) (U fs:List F) (V:List Value) (w:World):Prop where
 box:w.heap[N.nw]?=some (.cells #[.pointer (some ⟨N.gb,0,none⟩),.map (some N.fb),.slice N.ma N.Ms.length N.mc] 159 (0,0))
 nf:NF w N.base N.gb N.mb N.la N.lc N.L N.bs V (λ_=>DU adr fs)
 row:w.ownsRow N.B 165 1 (.slice N.ma N.Ms.length N.mc) N.Ms.length (N.Ms.map MK.val)
 pd:∀m∈N.Ms,∃cc va vc Vs,PD w N.B m.ca cc va vc m.X Vs (N.L.map Prod.fst) N.bs
 us:G9 adr U w
 hb:N.base<=w.heap.size
structure Gh(adr:F->Addr) (U fs:List F):Prop where
 inj:Bs adr U
 sub:∀f∈fs,f∈U
 nd:fs.Nodup
 few:fs.length<=900
def NT.vw(N:NT)(V:List Value)(fs:List F):Vw:=Fw N.L N.bs V fs
def Ck(N:NT)(adr:F->Addr)(U:List F)(vw:Vw)(g:Nat->Cx->List F)(olds:List (List Kt))(w:World):Prop:=∀(i:Nat)(m:MK)(old:List Kt),N.Ms[i]?=some m->olds[i]?=some old->m.St adr U vw (g i) old w
def Eg.aI{N adr U fs V w}(h:Eg N adr U fs V w)(a:Gh adr U fs){m}(e:m∈N.Ms):GM m adr U (N.vw V fs) w/\(∀c∈m.X,gV (N.vw V fs) c=fs.filter (Ae c.cp.F))/\EG U m.X (gV (N.vw V fs)):=by
 obtain⟨cc,i,j,g,d⟩:=h.pd m e;obtain⟨f,b⟩:=d.aI h.nf h.us.G a.sub;exact⟨f,b,gG b a.sub a.nd a.few⟩
end
section
attribute [local go_sem ↓] wp_at_zero wp_at_succ
def x6{f}:∀{l:List MK}{k:Nat},(∀m∈l, -1<=f m/\f m<=1000000000)->l.length<=1000 -> -1000<=((l.take k).map f).sum/\((l.take k).map f).sum<=1000000000000:=by
 have key:∀(l:List MK),(∀m∈l, -1<=f m/\f m<=1000000000) -> -(l.length:Int)<=(l.map f).sum/\(l.map f).sum<=1000000000*(l.length:Int):=λl=>by
  induction l with
  |nil=>intro _;simp
  |cons m l O=>
   intro h;have c:=h m qe;have a:=O (λx d=>h x (by simp[d]));simp only[yq,YU,yI,Int.natCast_add,Int.mul_add];omega
 intro l k h hl;have c:=key (l.take k) (λm b=>h m (YM b));have a:(l.take k).length<=1000:=yh qf hl;omega
def oX(h:P:=by
 go_roundw
 case rel=>exact⟨k+1,by go_num,by omega,by rw[HE.o],trivial⟩
 case measure=>(simp[intOf];omega)
 ):=h
def zQ(N)(r:FD N)(adr U fs V a w)(h:Eg N adr U fs V w)(hF:Gh adr U fs)(E:Ck N adr U (N.vw V fs) (λ_=>gV (N.vw V fs)) a w)(B:a.length=N.Ms.length)(C:∀m∈N.Ms,((Fm (N.vw V fs) m.X [[]]).map List.length).sum<=1000000000 /\ -1<=m.sz (N.vw V fs)/\m.sz (N.vw V fs)<=1000000000) :
  Ca 47 #[.pointer (some ⟨N.nw,0,none⟩)] w λe w'=>e=.returned (.int .i64 ((N.Ms.map (MK.sz (N.vw V fs))).sum))/\w'=w:=by
 obtain⟨v,x,Y,n,T,D⟩:=Jk h hF E C B r;have M:=AS (L:=[_,_,_]) h.box (j:=2) rfl;obtain⟨A,q⟩:∃A,A=N.ma:=⟨_,rfl⟩
 rw[<-q]at M;have am:=Aa q;clear q;have au:=r.bY;clear h hF E C B r;go_enter func47,ntmps47;go_wp2_with fail
 go_loopw [3,11] (λaq iv wr=>∃k:Nat,iv=.int .i64 (k:Int)/\k<=N.Ms.length/\aq=.int .i64 (((N.Ms.take k).map (MK.sz (N.vw V fs))).sum)/\wr=w) (λ_ iv _=>N.Ms.length-(intOf iv).toNat)
 case atStart=>exact⟨0,rfl,yk _,qe,rfl⟩
 case round=>
  obtain⟨k,rfl,aw,rfl,rfl⟩:=hrel;by_cases G:k<N.Ms.length
  .obtain⟨m,b⟩:=Ba G;obtain⟨old,I⟩:∃o,a[k]?=some o:=⟨a[k]'(by rw[T.o];exact G),qe⟩
   have O:=yd b;obtain⟨rb,s,_,y,_⟩:=BM v.o.row (show(N.Ms.map MK.val)[k]?=some m.val by rw[yA,b];rfl);obtain⟨p1,W,H⟩:=v.o.aI x.o O;have d:=Aa (wV m adr U (N.vw V fs) old wr (Y.o k m old b I) (D.o.ok m O) x.o.inj H (n.o m O).1);have i:((N.Ms.take (k+1)).map (MK.sz (N.vw V fs))).sum=((N.Ms.take k).map (MK.sz (N.vw V fs))).sum+m.sz (N.vw V fs):=by
    rw[yZ,b];simp
   have p:=(x6 (f:=MK.sz (N.vw V fs)) (l:=N.Ms) (k:=k) (λm b=>(n.o m b).2) D.o.bY)
   have ak:=(n.o m O).2;have ax:=Aa i;obtain⟨S,hS⟩:∃S,S=((N.Ms.take k).map (MK.sz (N.vw V fs))).sum:=⟨_,rfl⟩
   obtain⟨z,g⟩:∃z,z=m.sz (N.vw V fs):=⟨_,rfl⟩
   have HE:Hid (((N.Ms.take (k+1)).map (MK.sz (N.vw V fs))).sum=S+z):=by rw[hS,g];exact i
   rw[<-hS]at p⊢;rw[<-g]at ak d;have z0:(0:Int)<=(k:Int):=qd;have z1:(k:Int)<(N.Ms.length:Int):=qd;have ao:=am.o.c s;subst ao;clear hS g i b I O p1 W H s;have ar:IntKind.i64.wrap (S+z)=S+z:=by
    exact OU
   cases m with
   |inl K=>
    obtain⟨R,c⟩:=K;simp only[MK.val,MK.cW,MK.ptr]at d y;have J:=λu=>vM R.rb u;go_wp2_with (first|(go_at_call 304;refine d.o.j ?_;rintro e Z ⟨rfl,rfl⟩)|fail);exact oX
   |inr t=>
    simp only[MK.val,MK.cW,MK.ptr]at d y;have J:=λu=>u_ t.mb u;go_wp2_with (first|(go_at_call 309;refine d.o.j ?_;rintro e Z ⟨rfl,rfl⟩)|fail);exact oX
  obtain rfl:k=N.Ms.length:=qd;have hy:¬(N.Ms.length:Int)<(N.Ms.length:Int):=qd;rw[yV];go_wp2_with fail;exact bodyPost_ret (by simp[results,results47,go_sem]) rfl ⟨rfl,rfl⟩
end
section
open Go.Maps
def RZ{w w' base e m v n xs}(h:w.ownsRow base e m v n xs)(b:CK w w'):w'.ownsRow base e m v n xs:=Bv h λk O=>by
 obtain⟨c,a⟩:=AO h O;rw[b _ _ _ _ a,a]
def NF.O{w w' base e mb g j L f V QQ}(h:NF w base e mb g j L f V QQ)(a:CK w w'):NF w' base e mb g j L f V QQ:=
 ⟨a _ _ _ _ h.box,RZ h.row a,h.aX,h.aL,λi x b v c d hv=>by
  obtain⟨n,k,l,m⟩:=h.node i x b v c d hv
  exact⟨a _ _ _ _ n,k,l,RZ m a⟩,λx c=>⟨(h.aK x c).1,RZ (h.aK x c).2 a⟩,h.apart⟩
def Eg.O{N adr U fs V w w'}(h:Eg N adr U fs V w)(a:CK w w')(f:w.heap.size<=w'.heap.size):Eg N adr U fs V w':=
 ⟨a _ _ _ _ h.box,h.nf.O a,RZ h.row a,λm b=>by
  obtain⟨cc,e,d,i,j⟩:=h.pd m b
  exact⟨cc,e,d,i,j.aj λk c t l g _=>a _ _ _ _ g⟩,h.us.O a,yh h.hb f⟩
structure DK(N:NT) (w w':World):Prop where
 rest:Below 0 w w'
 kept:∀(k:Nat)(c:Array Value)(t:TypeId)(fr:Nat × Nat),w.heap[k]?=some (.cells c t fr)->t≠247->t≠106->w'.heap[k]?=some (.cells c t fr)
 maps:∀(k:Nat)(o:Obj),w.heap[k]?=some o->(∀c t fr,o≠.cells c t fr)->k≠N.fb->(∀m∈N.Ms,¬m.S k)->w'.heap[k]?=some o
 low:∀b,b<=N.base->b<=w.heap.size->Below b w w'
def DK.refl(N w):DK N w w:=⟨An,λ_ _ _ _ h _ _=>h,λ_ _ h _ _ _=>h,λ_ _ _=>An⟩
def DK.c{N u v w}(h:DK N u v)(k:DK N v w):DK N u w:=⟨h.rest.c k.rest,λj c t e hj d a=>k.kept j c t e (h.kept j c t e hj d a) d a,λj o hj O d a=>k.maps j o (h.maps j o hj O d a) O d a,λb d a=>(h.low b d a).c (k.low b d (yh a h.rest.size))⟩
def DK.cY{N w w'}(h:Dr N.base w w'):DK N w w':=⟨h.rest.j (yk _),h.kept,λk o b O _ _=>h.maps k o b O,λ_ a _=>h.rest.j a⟩
def DK.aA{N S w w'}(i:FD N)(n:CK w w')(a:Av S w w')(f:∀g,S g->g=N.fb∨∃m∈N.Ms,m.S g):DK N w w':=⟨a.rest,λk c t p d _ _=>n k c t p d,λk o d _ l j=>(a.block k (yj.1 d).1 (λq=>by
 rcases f k q with e|⟨m,O,e⟩
 .exact l e
 .exact j m O e)).c d,λb r u=>⟨a.rest.os,a.rest.tape,a.rest.output,a.rest.size,λk s=>a.block k qd (λq=>by
 rcases f k q with e|⟨m,O,e⟩
 .have:=i.el;omega
 have:=i.dz m O k e;omega)⟩⟩
def CK.ai{w w' b}(d:w.grownBy w' (some b))(f:∀c t a,w.heap[b]?≠some (.cells c t a)):CK w w':=λg c t a h=>(d.block g (Ak h) (λe=>by injection e with e;exact f c t a (e▸h))).c h
def Av.ai{w w' b}(a:w.grownBy w' (some b)):Av (λg=>g=b) w w':=⟨⟨a.os,a.tape,a.output,a.size,λ_ h=>absurd h qd⟩,λg hl c=>a.block g hl (λe=>c J1)⟩
def lz{w:World}{k b n D}(h:w.ownsMap prog k Bx b n D):∀c t a,w.heap[b]?≠some (.cells c t a):=λc t a e=>by
 obtain⟨es,f,d⟩:=ID h;rw[d]at e;cases e
def Ck.keep{N adr U vw g a S w w'}(h:Ck N adr U vw g a w)(f:CK w w')(d:Av S w w')(e:∀m∈N.Ms,∀x,m.S x->¬S x):Ck N adr U vw g a w':=λi m old b c=>(h i m old b c).keep f d (e m (yd b))
def wG{adr adr' fs}(h:∀f∈fs,adr' f=adr f):DU adr' fs=DU adr fs:=Ye λf a=>by
 unfold pV;rw[h f a]
def pE(h:P:=by obtain⟨cc,va,vc,Vs,hp⟩:=h.pd m hm;exact⟨cc,va,vc,Vs,hp.aj λk c t fr hg ht=>O.kept _ _ _ _ hg (by rcases ht with rfl|rfl|rfl<;>decide) (by rcases ht with rfl|rfl|rfl<;>decide)⟩):=h
def Eg.bG{N adr adr' U fs V a f w w'}(h:Eg N adr U fs V w)(O:Dr N.base w w')(d:NF w' N.base N.gb N.mb N.la N.lc N.L N.bs a (λ_=>DU adr fs++[(.pointer (some (adr' f)),f)]))(b:∀g∈U,adr' g=adr g)(i:∀g∈fs,g∈U)(e:CI w (adr' f) f):Eg N adr' (U++[f]) (fs++[f]) a w':=by
 have j:DU adr fs++[(.pointer (some (adr' f)),f)]=DU adr' (fs++[f]):=by
  unfold DU;rw[yF];congr 1;exact(wG (λg hg=>b g (i g hg))).y
 rw[j]at d;refine⟨O.kept _ _ _ _ h.box qh qh,d,O.Q h.row qh qh,λm hm=>?_,λg hg=>?_,yh h.hb O.rest.size⟩
 .exact pE
 rcases yn.1 hg with hg|hg
 .rw[b g hg];exact(h.us g hg).ft O
 rw[yp.1 hg];exact e.ft O
def Eg.be{N adr U fs a V b w w'}(h:Eg N adr U fs V w)(O:Dr N.base w w')(d:NF w' N.base N.gb N.mb N.la N.lc N.L N.bs b (λ_=>DU adr a)):Eg N adr U a b w':=by
 refine⟨O.kept _ _ _ _ h.box qh qh,d,O.Q h.row qh qh,λm hm=>?_,h.us.ft O,yh h.hb O.rest.size⟩;exact pE
def Gh.bG{adr adr' U fs f}(h:Gh adr U fs)(d:Bs adr' (U++[f]))(i:f ∉ U)(hl:fs.length<900):Gh adr' (U++[f]) (fs++[f]):=
 ⟨d,λg c=>by
  rcases yn.1 c with c|c
  .exact Wp _ (h.sub g c)
  exact YD _ c,yK.2 ⟨h.nd,qe,λa O b j e=>i (by rw[<-yp.1 j,<-e];exact h.sub a O)⟩,qf⟩
def Gh.be{adr U fs p}(h:Gh adr U fs):Gh adr U (fs.filter p):=
 ⟨h.inj,λg a=>h.sub g (yf.1 a).1,h.nd.sublist YR,yh (y8 _ _) h.few⟩
def Ck.bq{N adr adr' U O fs b V f a w w'}(h:Ck N adr U (N.vw V fs) (λ_=>gV (N.vw V fs)) a w)(q:FD N)(l:Eg N adr U fs V w)(hF:Gh adr U fs)(d:Eg N adr' O b f w')(o:Gh adr' O b)(n:∀g∈U,adr' g=adr g)(p:Dr N.base w w'):Ck N adr' O (N.vw f b) (λ_=>gV (N.vw V fs)) a w':=λi m old e j=>by
 have c:=yd e;exact(h i m old e j).bq (q.ok m c) n (l.aI hF c).2.2 (d.aI o c).1 p.k
end
section
open Go.Maps
attribute [local go_sem ↓] wp_at_zero wp_at_succ
def EG.more{U O X g}(h:EG U X g)(i:∀f∈U,f∈O):EG O X g:=λc a=>⟨λf d=>by
 obtain⟨e,b⟩:=yf.1 ((h c a).1 f d);exact yf.2 ⟨i f e,b⟩,(h c a).2⟩
def Ck.next{N adr U vw g d a k m old w w'}(h:Ck N adr U vw (λi=>if i<k then d else g) a w)(p:FD N)(f:N.Ms[k]?=some m)(n:a[k]?=some old)(j:m.St adr U vw d old w')(o:CK w w')(l:Av m.S w w'):Ck N adr U vw (λi=>if i<k+1 then d else g) a w':=λi m' O b c=>by
 by_cases e:i=k
 .subst e;rw[f]at b;rw[n]at c;cases b;cases c;simpa using j
 have:=(h i m' O b c).keep o l (p.apart i k m' m b f e);by_cases q:i<k
 .simpa[q,show i<k+1 by omega] using this
 simpa[q,show¬i<k+1 by omega] using this
def o_(h:P:=by have hi:=(ye.1 h1).1;simpa[hi] using MR.o i m old h1 h2):=h
def pO(h:P:=by
 go_wp2_with fail;refine HS.o.rtn λw3⟨aj,O,af⟩=>?_;obtain⟨aq,ax,ao⟩:=AA (MR.o.next HN.o HX.o aE.o aj O af) (CR.o.c O) (PR.o.c (af.j λg hg=>⟨_,aH.o,hg⟩));clear aj O af HS r0;go_wp2_with fail;go_roundw
 case rel=>exact⟨k+1,by go_num,by omega,aq.o,ax.o,ao.o⟩
 case measure=>(simp;omega)
 ):=h
def v_(N)(p:FD N)(adr adr' U fs V a n D f b w)(h:Eg N adr U fs V w)(hF:Gh adr U fs)(hM:Ck N adr U (N.vw V fs) (λ_=>gV (N.vw V fs)) a w)(ho:a.length=N.Ms.length)(C:w.ownsMap prog 3 Bx N.fb n D)(hI:Gg adr fs D)(hn:n<100000)(T:CI w ⟨b,0,none⟩ f)(ha:∀g∈U,adr' g=adr g)(E:adr' f=⟨b,0,none⟩)(hA:Bs adr' (U++[f]))(aD:f ∉ U)(am:∀g∈fs,g.tag≠f.tag)(aP:(Lit.int .i64 f.tag).wf=true)(hl:fs.length<900) :
  Ca 98 #[Pn N.nw,Pn b] w λe w'=>e=.returned (.tuple #[])/\(∃l,Eg N adr' (U++[f]) (fs++[f]) l w'/\Ck N adr' (U++[f]) (N.vw l (fs++[f])) (λ_=>gV (N.vw l (fs++[f]))) a w'/\∃D',w'.ownsMap prog 3 Bx N.fb (n+1) D'/\Gg adr' (fs++[f]) D')/\DK N w w':=by
 obtain⟨HN,HA,au,HO,G,Y⟩:=Jk p ha E ho hF (hF.bG hA aD hl);have aG:=hI.put C.isMap (λg hg=>ha g (hF.sub g hg)) E am;have HI:=Aa aG;obtain⟨J,aL,aJ,H⟩:=(C.drew).update GA (t:=156) underlying156 qj (keyOf_int_mk underlying3 aP) (ig b);have O:CK w J:=CK.ai (w:=w.drew) H (lz C.drew);have af:Av (λg=>g=N.fb) w J:=(Av.m (yX _ w).drew).c (Av.ai H);obtain⟨r,M1,T1,F1,O1⟩:=DE (h.O O af.rest.size) (hM.keep O af (λm d x hx e=>p.ci m d (e▸hx))) (T.O O) (DK.aA (N:=N) p O af (λg e=>.inl e)) aJ;have c1:=AS (L:=[_,_,_]) h.box (j:=1) rfl;obtain⟨b',o',s,t0,_⟩:=T.N;injection s with s;injection s with s;injection s with e1 e2;subst e1;subst e2;have c0:=AS (L:=[_,_,_]) r.o.box (j:=0) rfl;have c2:=AS (L:=[_,_,_]) r.o.box (j:=2) rfl;have v:=p.len;have aQ:=p.bY;have aR:=hF.few;have aC:=Aa (z8 N.base N.gb N.mb N.la N.lc N.L N.bs V (DU adr fs) (Pn b) f J ⟨b,0,none⟩ rfl T1.o r.o.nf r.o.hb v (by rw[MS];omega) p.bX);clear h hF hM ho C hI aG T ha E p aJ H O af aD am hA;go_enter func98,ntmps98;go_wp2_with fail;go_region;go_wp2_with fail;refine aC.o.rtn λW⟨⟨l,aF⟩,z⟩=>?_;have H2:=Aa (r.o.bG (adr':=adr') (f:=f) z (by rw[au.o];exact aF) HA.o G.o.sub (by rw[au.o];exact T1.o));have M2:=Aa (M1.o.bq HN.o r.o G.o H2.o Y.o HA.o z);have F2:=Aa (F1.o.c (DK.cY z));have O2:=Aa (show W.ownsMap prog 3 Bx N.fb (n+1) _ from by
  obtain⟨es,cl,hb⟩:=ID O1.o;exact Ig O1.o ((z.maps _ _ hb (λ_ _ _ q=>Np)).c hb.y))
 have aN:=AS (L:=[_,_,_]) H2.o.box (j:=2) rfl;obtain⟨A,I⟩:∃A,A=N.ma:=⟨_,rfl⟩
 rw[<-I]at aN;have aO:=Aa I;clear I;clear aF z aC c0 c1 c2 t0;go_wp2_with fail
 go_loopw [26] (λiv wr=>∃k:Nat,iv=I6 (k:Int)/\k<=N.Ms.length/\Ck N adr' (U++[f]) (N.vw l (fs++[f])) (λi=>if i<k then gV (N.vw l (fs++[f])) else gV (N.vw V fs)) a wr/\CK W wr/\Av (λg=>∃m∈N.Ms,m.S g) W wr) (mz N.Ms.length)
 case atStart=>exact⟨0,rfl,yk _,λi m old h1 h2=>by simpa using M2.o i m old h1 h2,λ_ _ _ _ h=>h,Av.refl _ _⟩
 case round=>
  obtain⟨k,rfl,aS,aK,M,aA⟩:=hrel;obtain⟨MR,CR,PR,K⟩:=Bn aK M aA (H2.o.O M aA.rest.size);clear aK M aA;by_cases hk:k<N.Ms.length
  .obtain⟨m,d⟩:=Ba hk;obtain⟨old,Z⟩:∃o,a[k]?=some o:=⟨a[k]'(by rw[HO.o];exact hk),qe⟩
   have B:=yd d;obtain⟨rb,aI,_,r0,_⟩:=BM K.o.row (show(N.Ms.map MK.val)[k]?=some m.val by rw[yA,d];rfl);obtain⟨p1,p2,p3⟩:=K.o.aI Y.o B;obtain⟨o1,o2,o3⟩:=r.o.aI G.o B;have HS:=Aa (ub m (HN.o.ok m B) adr' (U++[f]) Y.o.inj (N.vw l (fs++[f])) p3 (gV (N.vw V fs)) (o3.more (λg hg=>by simp[hg])) old f qe wr (by simpa using MR.o k m old d Z) p1 (λc hc=>by rw[p2 c hc,o2 c hc];exact zn));rw[au.o]at HS;obtain⟨aH,HX,aE⟩:=AA B d Z;have z0:(0:Int)<=(k:Int):=qd;have z1:(k:Int)<(N.Ms.length:Int):=qd;have aM:=aO.o.c aI;subst aM;clear d Z B p1 p2 p3 o1 o2 o3 aI;cases m with
   |inl Rc=>
    obtain⟨R,c⟩:=Rc;simp only[MK.val,MK.cU,MK.ptr]at HS r0;have q1:=λu=>vt R.rb u;exact pO
   |inr t=>
    simp only[MK.val,MK.cU,MK.ptr]at HS r0;have q1:=λu=>xj t.mb u;exact pO
  obtain rfl:k=N.Ms.length:=qd;have hy:¬(N.Ms.length:Int)<(N.Ms.length:Int):=qd;go_wp2_with fail;go_end0;refine⟨rfl,⟨l,K.o,λi m old h1 h2=>?_,_,Ig O2.o (PR.o.block _ O2.o.lt ?_),HI.o⟩,F2.o.c (DK.aA HN.o CR.o PR.o (λg hg=>.inr hg))⟩
  .exact o_
  rintro⟨m,d,hs⟩;exact HN.o.ci m d hs
def mI{w w':World}{k b r n D left cnt}(h:w.ranges prog k Bx b r n D left cnt)(f:w'.heap[b]?=w.heap[b]?)(g:w'.heap[r]?=w.heap[r]?):w'.ranges prog k Bx b r n D left cnt:=by
 obtain⟨es,a,since,seen,j,o,l,e,d,i,m⟩:=h;exact⟨es,a,since,seen,j,f.c o,l,e,d,g.c i,m⟩
def kX{w:World}{k b r n D left cnt}(h:w.ranges prog k Bx b r n D left cnt):∃m s e c,w.heap[r]?=some (.mapIter m s e c):=by
 obtain⟨es,a,since,seen,i,o,j,g,f,d,l⟩:=h;exact⟨_,_,_,_,d⟩
def pM(h:P:=by
 go_wp2_with fail;refine HS.o.rtn λw3⟨am,af,O⟩=>?_;obtain⟨ax,aC,aw⟩:=AA (MR.o.next HN.o HX.o aI.o am af O) (CR.o.c af) (PR.o.c (O.j λg hg=>⟨_,aK.o,hg⟩));clear am af O HS r0;go_wp2_with fail;go_roundw
 case rel=>exact⟨k+1,by go_num,by omega,ax.o,aC.o,aw.o⟩
 case measure=>(simp;omega)
 ):=h
def zC(N)(C:FD N)(adr U fs V a r n cnt left D f b w)(h:Eg N adr U fs V w)(hF:Gh adr U fs)(hM:Ck N adr U (N.vw V fs) (λ_=>gV (N.vw V fs)) a w)(ho:a.length=N.Ms.length)(hD:w.ranges prog 3 Bx N.fb r n D left cnt)(aG:∀m∈N.Ms,¬m.S r)(hI:Gg adr fs D)(H:f∈fs)(Y:adr f=⟨b,0,none⟩)(au:∀g∈fs,∀k∈fs,g.tag=k.tag->g=k)(aV:(Lit.int .i64 f.tag).wf=true) :
  Ca 97 #[.pointer (some ⟨N.nw,0,none⟩),.pointer (some ⟨b,0,none⟩)] w λe w'=>e=.returned (.tuple #[])/\(∃s,Eg N adr U (fs.filter λg=>!decide (adr g=adr f)) s w'/\Ck N adr U (N.vw s (fs.filter λg=>!decide (adr g=adr f))) (λ_=>gV (N.vw s (fs.filter λg=>!decide (adr g=adr f)))) a w'/\∃W,w'.ranges prog 3 Bx N.fb r n (D.del (.int .i64 f.tag)) (λz=>left z&&!z.sameKey (.int .i64 f.tag)) W/\W<=cnt/\Gg adr (fs.filter λg=>!decide (adr g=adr f)) (D.del (.int .i64 f.tag)))/\DK N w w':=by
 obtain⟨G,E⟩:∃G,G=fs.filter λg=>!decide (adr g=adr f):=⟨_,rfl⟩
 rw[<-E];obtain⟨HG,aW,HN,HO,v,aR,aP,M⟩:=Up E Y C ho hF aG H (hF.be (p:=λg=>!decide (adr g=adr f)));rw[<-E]at M;have aA:=hI.del hF.inj hF.sub H au;rw[<-E]at aA;have aO:w.drew.ranges prog 3 Bx N.fb r n D left cnt:=hD;obtain⟨T,W,ak,aM,aN,aH⟩:=aO.drop GA (t:=156) underlying156 (keyOf_int_mk underlying3 aV) 0;have az:=aH.grown;have HC:=Aa (And.intro aN aA);have aY:∀ty,(Builtin.delete_ #[156,3] ty #[.map (some N.fb),.int .i64 f.tag]).run prog w.drew=.ok (.tuple #[]) T:=λ_=>ak;have af:CK w T:=CK.ai (w:=w.drew) az (lz hD.owns);have O:Av (λg=>g=N.fb) w T:=(Av.m (yX _ w).drew).c (Av.ai az);obtain⟨l,M1,F1,Z⟩:=Bn (h.O af O.rest.size) (hM.keep af O (λm d x hx e=>C.ci m d (e▸hx))) (DK.aA (N:=N) C af O (λg e=>.inl e)) aM;have c1:=AS (L:=[_,_,_]) h.box (j:=1) rfl;have aB:=h.us f (hF.sub f H);rw[Y]at aB;obtain⟨b',o',I,t0,_⟩:=aB.N;injection I with I;injection I with I;injection I with e1 e2;subst e1;subst e2;have c0:=AS (L:=[_,_,_]) l.o.box (j:=0) rfl;have c2:=AS (L:=[_,_,_]) l.o.box (j:=2) rfl;have J:=C.len;have aX:=C.bY;have ay:=Aa (ua N.base N.gb N.mb N.la N.lc N.L N.bs V adr fs (adr f) T (λg hg=>(l.o.us g (hF.sub g hg)).pt) (l.o.us f (hF.sub f H)).pt l.o.nf l.o.hb J);rw[<-E,Y]at ay;clear h hF hM ho hD aO hI aA aB C aM az af O au aG H aH aN ak E Y;go_enter func97,ntmps97;go_wp2_with fail;go_region;go_wp2_with fail;refine ay.o.rtn λw2⟨⟨s,aJ⟩,B⟩=>?_;have H2:=Aa (l.o.be B aJ);have M2:=Aa (M1.o.bq HN.o l.o v.o H2.o M.o (λ_ _=>rfl) B);have F2:=Aa (F1.o.c (DK.cY B));have O2:=Aa (show w2.ranges prog 3 Bx N.fb r n (D.del (.int .i64 f.tag)) (λz=>left z&&!z.sameKey (.int .i64 f.tag)) W from by
  obtain⟨es,cl,hb⟩:=ID Z.o.owns;obtain⟨_,_,_,_,hr⟩:=kX Z.o;exact mI Z.o ((B.maps _ _ hb (λ_ _ _ q=>Np)).c hb.y) ((B.maps _ _ hr (λ_ _ _ q=>Np)).c hr.y))
 have aT:=AS (L:=[_,_,_]) H2.o.box (j:=2) rfl;obtain⟨A,aD⟩:∃A,A=N.ma:=⟨_,rfl⟩
 rw[<-aD]at aT;have aU:=Aa aD;clear aD;clear aJ B ay c0 c1 c2 t0;go_wp2_with fail
 go_loopw [25] (λiv wr=>∃k:Nat,iv=.int .i64 (k:Int)/\k<=N.Ms.length/\Ck N adr U (N.vw s G) (λi=>if i<k then gV (N.vw s G) else gV (N.vw V fs)) a wr/\CK w2 wr/\Av (λg=>∃m∈N.Ms,m.S g) w2 wr) (mz N.Ms.length)
 case atStart=>exact⟨0,rfl,yk _,λi m old h1 h2=>by simpa using M2.o i m old h1 h2,λ_ _ _ _ h=>h,Av.refl _ _⟩
 case round=>
  obtain⟨k,rfl,aZ,aQ,aF,aE⟩:=hrel;obtain⟨MR,CR,PR,HR⟩:=Bn aQ aF aE (H2.o.O aF aE.rest.size);clear aQ aF aE;by_cases hk:k<N.Ms.length
  .obtain⟨m,d⟩:=Ba hk;obtain⟨old,ao⟩:∃o,a[k]?=some o:=⟨a[k]'(by rw[HO.o];exact hk),qe⟩
   have K:=yd d;obtain⟨rb,aL,_,r0,_⟩:=BM HR.o.row (show(N.Ms.map MK.val)[k]?=some m.val by rw[yA,d];rfl);obtain⟨p1,p2,p3⟩:=HR.o.aI M.o K;obtain⟨o1,o2,o3⟩:=l.o.aI v.o K;have HS:=Aa (zL m (HN.o.ok m K) adr U M.o.inj (N.vw s G) p3 (gV (N.vw V fs)) o3 old f (v.o.sub f aP.o) wr (by simpa using MR.o k m old d ao) p1 (λc hc=>by rw[p2 c hc,o2 c hc];rw[HG.o];exact xP v.o.inj v.o.sub v.o.nd aP.o));rw[aW.o]at HS;obtain⟨aK,HX,aI⟩:=AA K d ao;have z0:(0:Int)<=(k:Int):=qd;have z1:(k:Int)<(N.Ms.length:Int):=qd;have aS:=aU.o.c aL;subst aS;clear d ao K p1 p2 p3 o1 o2 o3 aL;cases m with
   |inl Rc=>
    obtain⟨R,c⟩:=Rc;simp only[MK.val,MK.cV,MK.ptr]at HS r0;have q1:=λu=>xy R.rb u;exact pM
   |inr t=>
    simp only[MK.val,MK.cV,MK.ptr]at HS r0;have q1:=λu=>vY t.mb u;exact pM
  obtain rfl:k=N.Ms.length:=qd;have hy:¬(N.Ms.length:Int)<(N.Ms.length:Int):=qd;go_wp2_with fail;go_end0;refine⟨rfl,⟨s,HR.o,λi m old h1 h2=>?_,_,mI O2.o (PR.o.block _ O2.o.owns.lt ?_) (PR.o.block _ O2.o.lt ?_),HC.o⟩,F2.o.c (DK.aA HN.o CR.o PR.o (λg hg=>.inr hg))⟩
  .exact o_
  .rintro⟨m,d,hs⟩;exact HN.o.ci m d hs
  rintro⟨m,d,hs⟩;exact aR.o m d hs
end
section
open Go.Maps
def MK.St.lt{m:MK}{adr U vw g old w}(h:m.St adr U vw g old w):∀x,m.S x->x<w.heap.size:=by
 cases m with
 |inl O=>
  obtain⟨R,c⟩:=O;obtain⟨⟨a,e,_⟩,_⟩:=h;exactλx d=>Sj e x (G_.2 d)
 |inr t=>
  obtain⟨K,M,_,_,b⟩:=h.2.ex;rintro x (rfl|rfl)
  .exact b.now.lt
  exact b.ab.lt
def Ck.lt{N adr U vw g a w}(h:Ck N adr U vw g a w)(O:a.length=N.Ms.length){m}(c:m∈N.Ms):∀x,m.S x->x<w.heap.size:=by
 obtain⟨i,b⟩:=YW c;have hl:=(ye.1 b).1;exact(h i m (a[i]'(by omega)) b qe).lt
def Fh(w:World)(a:Option Addr)(gs:List F):Prop:=∀(i:Nat)(f:F),gs[i]?=some f->∃b o,a=some ⟨b,o,none⟩/\CI w ⟨b,o+i*3,none⟩ f
def Fh.N{w a gs}(h:Fh w a gs):Bz w a gs:=λi f k=>by
 obtain⟨b,o,e,n⟩:=h i f k;obtain⟨q,o',O,m,j,sa,d,c,g⟩:=n.N;injection O with O;injection O with O;injection O with p l;subst p;subst l;exact⟨b,o,e,m,j,sa,d,c,g⟩
def CI.fn{N w w' a f}(h:CI w a f)(d:DK N w w'):CI w' a f:=h.keep λg c t e b ht=>d.kept g c t e b qA qA
def Fh.fn{N w w' a gs}(h:Fh w a gs)(c:DK N w w'):Fh w' a gs:=λi f g=>by
 obtain⟨b,o,e,d⟩:=h i f g;exact⟨b,o,e,d.fn c⟩
def DK.m{N w w'}(h:Bw w w'):DK N w w':=⟨h.j (yk _),λk _ _ _ a _ _=>(h.block k (Ak a)).c a,λk _ a _ _ _=>(h.block k (yj.1 a).1).c a,λ_ _ b=>h.j b⟩
def Ty{w w':World}{k e b n}{D:DataW Unit}(h:w.ownsMap prog k (plainElem prog e) b n D)(f:w'.heap[b]?=w.heap[b]?):w'.ownsMap prog k (plainElem prog e) b n D:=by
 obtain⟨es,a,g,d⟩:=h;exact⟨es,a,f.c g,d⟩
def zl1{w:World}{k e b n}{D:DataW Unit}(h:w.ownsMap prog k (plainElem prog e) b n D):∃es c,w.heap[b]?=some (.map es c):=by
 obtain⟨es,a,d,_⟩:=h;exact⟨es,a,d⟩
def jK{a b}:(Lit.int .i64 a).sameKey (.int .i64 b)=decide (a=b):=by
 by_cases h:a=b
 .subst h;rw[WideAt.sameKey_self (NB a)];simp
 rw[sameKey_ne (λe=>h J1)];simp[h]
structure Lf(N:NT) (adr:F->Addr) (U fs gs:List F) (olds:List (List Kt)) (r n pb:Nat) (DP:DataW Unit) (p:F->Bool) (V:List Value) (D:DataW Unit) (left:Lit->Bool) (cnt:Nat) (wr:World):Prop where
 bx:Eg N adr U (fs.filter p) V wr
 ms:Ck N adr U (N.vw V (fs.filter p)) (λ_=>gV (N.vw V (fs.filter p))) olds wr
 rg:wr.ranges prog 3 Bx N.fb r n D left cnt
 mv:Gg adr (fs.filter p) D
 no:∀f∈fs,p f=false->(AD f.tag gs).isSome=false
 cy:∀f∈fs,p f=true->left (.int .i64 f.tag)=false->(AD f.tag gs).isSome=true
 pl:wr.ownsMap prog 3 (plainElem prog 3) pb gs.length DP
def Lf.en{N adr U fs gs a r n pb g p V D left cnt O wr w' t}(h:Lf N adr U fs gs a r n pb g p V D left cnt wr)(d:CK wr w')(c:wr.grownBy w' (some r))(k:∀m∈N.Ms,¬m.S r)(q:pb≠r)(u:w'.ranges prog 3 Bx N.fb r n D (λz=>left z&&!z.sameKey (.int .i64 t)) O)(i:(AD t gs).isSome=true):Lf N adr U fs gs a r n pb g p V D (λz=>left z&&!z.sameKey (.int .i64 t)) O w':=by
 refine⟨h.bx.O d c.size,h.ms.keep d (Av.ai c) (λm j x l e=>k m j (e▸l)),u,h.mv,h.no,λf s o hl=>?_,Ty h.pl (c.block pb h.pl.lt (λe=>q J1))⟩;rw[jK]at hl;cases b:left (.int .i64 f.tag)
 .exact h.cy f s o b
 rw[b]at hl;have:f.tag=t:=Lu;rw[this];exact i
def wu{fs:List F}{p q}:(fs.filter p).filter q=fs.filter (λg=>q g&&p g):=Yq
def Lf.bN{N adr U fs gs a r n pb e p V D left cnt wr}(h:Lf N adr U fs gs a r n pb e p V D left cnt wr)(hl:∀d,left d=false):fs.filter p=fs.filter (λf=>(AD f.tag gs).isSome):=YK λf c=>by
 cases b:p f
 .exact(h.no f c b).y
 exact(h.cy f c b (hl _)).y
end
section
open Go.Maps
attribute [local go_sem ↓] wp_at_zero wp_at_succ
def zog(a c fs nx cp sg w)(hv:Bz w a fs)(hl:fs.length<=1048576)(g:BN 0 fs=true)(p:∀f∈fs,Db f) :
  Ca 96 #[.agg #[.slice a fs.length c,I6 nx,I6 cp,.bool sg]] w λe w'=>
   ∃b D,e=.returned (.map (some b))/\w'.ownsMap prog 3 (plainElem prog 3) b fs.length D/\Ew fs fs.length D/\w.heap.size<=b/\Bw w w':=by
 have n:=Zd (P:=prog) (t:=172) underlying172;go_enter func96,ntmps96;go_wp2;clear n
 go_loopw [13] (λi wr=>∃(k:Nat)(D:DataW Unit),k<=fs.length/\i=I6 k/\wr.ownsMap prog 3 (plainElem prog 3) (w.heap.size+1) k D/\Ew fs k D/\Bw w wr) (mz fs.length)
 case atStart=>exact⟨0,.map [],qd,rfl,by have:=Wh (H:=Unit) (w.alloc (.cells #[.slice a fs.length c,I6 nx,I6 cp,.bool sg] 27)) prog 3 (plainElem prog 3);simpa using this,Ew.start fs,Aj.alloc qe _⟩
 case round=>
  obtain⟨k,D,v,rfl,hown,hI,hb⟩:=hrel;by_cases m:k<fs.length
  .obtain⟨f,O⟩:=Ba m;obtain⟨b,o,rfl,y,x,s,cs,r,l⟩:=hv.d hb k f O;have q:=(p f (yd O)).1;have aq:=hI.step hown.isMap g O;obtain⟨u,ai,af,ah⟩:=(hown.alloc (.cells #[I6 f.tag,.string f.z,.slice s f.s.length cs] 145)).update GA (t:=172) underlying172 qj (keyOf_int_mk underlying3 q) (plainElem_int underlying3 (si (k:=k) qd));exact pI
  go_wp2;go_ret;obtain rfl:k=fs.length:=qd;exact⟨_,D,rfl,hown,hI,qd,hb⟩
def PZ{tag}:∀{gs:List F},(AD tag gs).isSome=true↔∃g∈gs,g.tag=tag
 |[]=>by simp[AD]
 |f::r=>by
  unfold AD
  by_cases h:f.tag=tag
  .simp[h]
  rw[if_neg h]
  simp[h,PZ (gs:=r)]
def kn(fs:List F)(g:F):Bool:=fs.any λf=>decide (f.tag=g.tag)
def Si{fs g}:kn fs g=true↔∃f∈fs,f.tag=g.tag:=by simp[kn]
def stay(fs gs:List F):List F:=fs.filter λf=>(AD f.tag gs).isSome
structure Gt(N:NT) (adr:F->Addr) (U fs gs:List F) (olds:List (List Kt)) (n k:Nat) (adr':F->Addr) (ad:List F) (V:List Value) (D:DataW Unit) (wr:World):Prop where
 ag:∀g∈U,adr' g=adr g
 ae:ad=(gs.take k).filter λg=>!kn fs g
 bx:Eg N adr' (U++ad) (stay fs gs++ad) V wr
 lk:Gh adr' (U++ad) (stay fs gs++ad)
 ms:Ck N adr' (U++ad) (N.vw V (stay fs gs++ad)) (λ_=>gV (N.vw V (stay fs gs++ad))) olds wr
 mp:wr.ownsMap prog 3 Bx N.fb (n+ad.length) D
 mv:Gg adr' (stay fs gs++ad) D
 bg:∀f∈stay fs gs++ad,adr' f=⟨(adr' f).block,0,none⟩
def Gt.d{N adr U fs gs a n k adr' c V D wr w'}(h:Gt N adr U fs gs a n k adr' c V D wr)(b:Bw wr w'):Gt N adr U fs gs a n k adr' c V D w':=
 ⟨h.ag,h.ae,h.bx.O (CK.m b) b.size,h.lk,h.ms.keep (S:=λ_=>False) (CK.m b) (Av.m b) (λ_ _ _ _ q=>q),Ig h.mp (b.block _ h.mp.lt),h.mv,h.bg⟩
def Gt.known{N adr U fs gs a n k adr' b V D wr f}(h:Gt N adr U fs gs a n k adr' b V D wr)(d:gs[k]?=some f)(j:BN 0 gs=true):Maps.has D (.int .i64 f.tag)=kn fs f/\(kn fs f=false->∀g∈stay fs gs++b,g.tag≠f.tag):=by
 have key:(∃g∈stay fs gs++b,g.tag=f.tag)↔∃g∈fs,g.tag=f.tag:=by
  constructor
  .rintro⟨g,O,e⟩;rcases yn.1 O with q|q
   .exact⟨g,(yf.1 q).1,e⟩
   rw[h.ae]at q;have i:=(yf.1 q).1;have:=XF j d;have c:(AD f.tag (gs.take k)).isSome=true:=PZ.2 ⟨g,i,e⟩;rw[this]at c;cases c
  rintro⟨g,O,e⟩;exact⟨g,Wp _ (yf.2 ⟨O,PZ.2 ⟨f,yd d,e.y⟩⟩),e⟩
 refine⟨?_,λq g O e=>?_⟩
 .rw[KF,h.mv.cr,Si,key]
 have:=Si.2 (key.1 ⟨g,O,e⟩);rw[q]at this;cases this
def Gt.skip{N adr U fs gs a n k adr' b V D wr f}(h:Gt N adr U fs gs a n k adr' b V D wr)(c:gs[k]?=some f)(d:kn fs f=true):Gt N adr U fs gs a n (k+1) adr' b V D wr:=
 ⟨h.ag,by rw[yZ,c,yM];simp[d,h.ae],h.bx,h.lk,h.ms,h.mp,h.mv,h.bg⟩
def xw(adr:F->Addr)(U:List F)(f b)(d:f ∉ U):∃adr':F->Addr,(∀g∈U,adr' g=adr g)/\adr' f=⟨b,0,none⟩:=by
 classical
 refine⟨λg=>if g=f then⟨b,0,none⟩ else adr g,λg c=>?_,qe⟩;have a:g≠f:=λe=>d (e▸c);simp[a]
def zW{adr adr' U f b}(h:Bs adr U)(O:∀g∈U,adr' g=adr g)(a:adr' f=⟨b,0,none⟩)(c:∀g∈U,(adr g).block≠b):Bs adr' (U++[f]):=λg i k d e=>by
 rcases yn.1 i with q|q
 .rcases yn.1 d with q'|q'
  .rw[O g q,O k q']at e;exact h g q k q' e
  rw[yp.1 q',O g q,a]at e;exact absurd Gx (c g q)
 rcases yn.1 d with q'|q'
 .rw[yp.1 q,O k q',a]at e;exact absurd (by rw[<-e]) (c k q')
 rw[yp.1 q,yp.1 q']
def zFp(w):(zeroValue 106).run prog w=.ok (.pointer none) w:=qg
def DK.iter{N w wr i r}(h:DK N w wr)(a:wr.grownBy i (some r))(p:w.heap.size<=r):DK N w i:=by
 have key:∀k o,w.heap[k]?=some o->wr.heap[k]?=some o->i.heap[k]?=some o:=λk o g d=>by
  have f:k<w.heap.size:=(yj.1 g).1;exact(a.block k (yj.1 d).1 (λe=>qK)).c d
 exact⟨⟨a.os.c h.rest.os,a.tape.c h.rest.tape,a.output.c h.rest.output,yh h.rest.size a.size,λ_ q=>absurd q qd⟩,λk c t n f g d=>key k _ f (h.kept k c t n f g d),λk o f g d j=>key k o f (h.maps k o f g d j),λb l m=>⟨a.os.c h.rest.os,a.tape.c h.rest.tape,a.output.c h.rest.output,yh h.rest.size a.size,λk O=>(a.block k ZX (λe=>qK)).c ((h.low b l m).block k O)⟩⟩
def Lf.be{N adr U fs gs a r n pb j p V i D left cnt O wr v b f}(h:Lf N adr U fs gs a r n pb j p V D left cnt wr)(hF:Gh adr U fs)(E:∀f∈fs,∀g∈fs,f.tag=g.tag->f=g)(s:f∈fs)(A:(AD f.tag gs).isSome=false)(l:Eg N adr U ((fs.filter p).filter λg=>!decide (adr g=adr f)) i b)(t:Ck N adr U (N.vw i ((fs.filter p).filter λg=>!decide (adr g=adr f))) (λ_=>gV (N.vw i ((fs.filter p).filter λg=>!decide (adr g=adr f)))) a b)(x:b.ranges prog 3 Bx N.fb r n (D.del (.int .i64 f.tag)) (λz=>(left z&&!z.sameKey (.int .i64 f.tag))&&!z.sameKey (.int .i64 f.tag)) O)(k:Gg adr ((fs.filter p).filter λg=>!decide (adr g=adr f)) (D.del (.int .i64 f.tag)))(u:v.ownsMap prog 3 (plainElem prog 3) pb gs.length j)(w:DK N v b)(H:pb≠N.fb)(C:∀m∈N.Ms,¬m.S pb):∃I,Lf N adr U fs gs a r n pb j (λg=>!decide (adr g=adr f)&&p g) i (D.del (.int .i64 f.tag)) I O b:=by
 rw[wu]at l t k;refine⟨_,l,t,x,k,λg d q=>?_,λg d q hl=>?_,?_⟩
 .by_cases e:adr g=adr f
  .rw[hF.inj g (hF.sub g d) f (hF.sub f s) e];exact A
  exact h.no g d (by simpa[e] using q)
 .have e:adr g≠adr f:=λe=>by simp[e]at q
  have B:p g=true:=by simpa[e] using q
  have G:g.tag≠f.tag:=λq'=>e (by rw[E g d f s q']);refine h.cy g d B ?_;rw[jK]at hl;simpa[G] using hl
 obtain⟨es,J,o⟩:=zl1 u;exact Ty u ((w.maps _ _ o (λ_ _ _ q=>Np) H C).c o.y)
def CI.copy{w i a f sa b}(h:CI w a f)(A:At w a.block (a.off+2) (.slice sa f.s.length b))(t:Bt w sa f.s)(k:Bw w i)(l:i.heap[w.heap.size]?=some (.cells #[I6 f.tag,.string f.z,.slice sa f.s.length b] 145 (0,0))):CI i ⟨w.heap.size,0,none⟩ f:=by
 obtain⟨x,r,p⟩:=Da l rfl;refine⟨⟨w.heap.size,0,rfl,x,r,sa,b,p,t.d k⟩,λD O=>?_,λG n E q o B e g=>?_⟩
 .injection O with O;subst O;exact⟨_,l⟩
 have j:=p.y.c q;injection j with j;injection j with C _ _;subst C;obtain⟨u,v,m⟩:=h.sl sa _ b A o B e g;exact⟨u,v,(k.block o (Ak m)).c m⟩
def Gt.more{N adr U fs gs d n k b adr' O a V i D l wr j f}(h:Gt N adr U fs gs d n k adr' a V D wr)(v:gs[k]?=some f)(u:kn fs f=false)(s:∀g∈U++a,O g=adr' g)(t:O f=⟨b,0,none⟩)(m:Gh O ((U++a)++[f]) ((stay fs gs++a)++[f]))(p:Eg N O ((U++a)++[f]) ((stay fs gs++a)++[f]) i j)(o:Ck N O ((U++a)++[f]) (N.vw i ((stay fs gs++a)++[f])) (λ_=>gV (N.vw i ((stay fs gs++a)++[f]))) d j)(w:j.ownsMap prog 3 Bx N.fb (n+a.length+1) l)(r:Gg O ((stay fs gs++a)++[f]) l):Gt N adr U fs gs d n (k+1) O (a++[f]) i l j:=by
 rw[yW]at m p o r;rw[yW]at m p o;refine⟨λg e=>(s g (Wp _ e)).c (h.ag g e),by rw[yZ,v,yM];simp[u,h.ae],p,m,o,by rw[yP];exact w,r,λg e=>?_⟩;rw[<-yW]at e;rcases yn.1 e with q|q
 .rw[s g (h.lk.sub g q)];exact h.bg g q
 rw[yp.1 q,t]
def zoB(N)(hN:FD N)(adr U fs gs V i n D a c w)(h:Eg N adr U fs V w)(hF:Gh adr U fs)(hM:Ck N adr U (N.vw V fs) (λ_=>gV (N.vw V fs)) i w)(ho:i.length=N.Ms.length)(hD:w.ownsMap prog 3 Bx N.fb n D)(hI:Gg adr fs D)(hn:n+gs.length<100000)(a0:Fh w a gs)(E:BN 0 gs=true)(hr:∀f∈gs,Db f)(ce:gs.length<=100)(b7:fs.length<=100)(bk:∀f∈fs,(Lit.int .i64 f.tag).wf=true)(aU:∀f∈fs,∀g∈fs,f.tag=g.tag->f=g)(aY:∀g∈gs,kn fs g=false->g ∉ U)(bi:∀f∈fs,adr f=⟨(adr f).block,0,none⟩) :
  Ca 46 #[.pointer (some ⟨N.nw,0,none⟩),.slice a gs.length c] w λe w'=>e=.returned (.tuple #[])/\(∃adr' r K T,Gt N adr U fs gs i n gs.length adr' r K T w')/\DK N w w':=by
 obtain⟨HN,HF,HO,HH,HM,HD,HI,bI,HG⟩:=LA hN hF ho h hM hD hI a0 E;obtain⟨HR,cd,bu,bK,bo,br⟩:=Jk hr bk aU aY bi (zog a c gs 0 0 false w a0.N qd E hr);clear h hF hM ho hD hI a0 E hr bk aU aY bi hN;go_enter func46,ntmps46;go_wp2_with fail;refine br.o.j ?_;rintro e B ⟨pb,DP,rfl,aR,bj,cu,s⟩;obtain⟨b9,bR,cm,H1,M1⟩:=DE aR bj s (HH.o.O (CK.m s) s.size) (HM.o.keep (S:=λ_=>False) (CK.m s) (Av.m s) (λ_ _ _ _ q=>q));have bA:=Ig HD.o (s.block _ HD.o.lt);have bY:=HD.o.lt;have aa:=s.size;have c1:=AS (L:=[_,_,_]) H1.o.box (j:=1) rfl;obtain⟨w2,bH,aW,I,b5⟩:=bA.range GA (t:=156) underlying156;have G:Bw B w2:=⟨I.os,I.tape,I.output,I.size,λk hk=>I.block k hk qe⟩
 have ci:=Aa G;have bp:=aR.lt;have L2:=Aa (show Lf N adr U fs gs i B.heap.size n pb DP (λ_=>true) V D (Maps.has D) (Maps.size D) w2 from by
  have e:fs.filter (λ_=>true)=fs:=Yk.2 (λ_ _=>rfl);have bD:=(CK.m G)
  refine⟨by rw[e];exact H1.o.O bD G.size,by rw[e];exact M1.o.keep (S:=λ_=>False) bD (Av.m G) (λ_ _ _ _ q=>q),aW,by rw[e];exact HI.o,λf _ q=>Np,λf hf _ q=>?_,Ty aR (G.block _ bp)⟩;rw[(HI.o.cr f.tag).2 ⟨f,hf,rfl⟩]at q;cases q)
 have F2:=Aa ((DK.m (N:=N) s).c (DK.m G));have a8:Hid (∀m∈N.Ms,¬m.S B.heap.size):=λm hm q=>by
  have:=HM.o.lt HO.o hm _ q;omega
 have bN:Hid (∀m∈N.Ms,¬m.S pb):=λm hm q=>by
  have:=HM.o.lt HO.o hm _ q;omega
 clear aR bj s G aW I br bA;go_wp2_with fail
 go_loopw [] (λwr=>∃p K T left cnt,Lf N adr U fs gs i B.heap.size n pb DP p K T left cnt wr/\DK N w wr) (λwr=>wr.rangeLeft N.fb B.heap.size)
 case atStart=>exact⟨_,_,_,_,_,L2.o,F2.o⟩
 case round=>
  obtain⟨p,K,T,left,cnt,l,aJ⟩:=hrel;obtain⟨LR,FR⟩:=Ah l aJ;have ch:=aJ.rest.size;have a4:=l.rg.left_eq;rcases l.rg.next GA 0 with⟨h0,bl,a3⟩|⟨key,v,kl,y,C,bB,az,bz,hv,aQ,a3,H,cw,O,bZ,hE⟩
  .have aA:fs.filter p=stay fs gs:=l.bN bl;have G0:=Aa (show Gt N adr U fs gs i n 0 adr [] K T wr from⟨λ_ _=>rfl,rfl,by rw[yQ,yQ,<-aA];exact l.bx,by rw[yQ,yQ];exact HF.o.be,by rw[yQ,yQ,<-aA];exact l.ms,l.rg.owns,by rw[yQ,<-aA];exact l.mv,λf hf=>bo.o f (by rw[yQ]at hf;exact(yf.1 hf).1)⟩);clear l aJ aA LR bl a4;go_wp2_with fail
   go_loopw [39] (λiv wq=>∃(k:Nat)(adr':F->Addr)(r:List F)(aZ:List Value)(bd:DataW Unit),iv=.int .i64 (k:Int)/\k<=gs.length/\Gt N adr U fs gs i n k adr' r aZ bd wq/\DK N w wq) (λiv _=>gs.length-(intOf iv).toNat)
   case atStart=>exact⟨0,_,_,_,_,rfl,yk _,G0.o,FR.o⟩
   case round=>
    obtain⟨k,adr',r,aZ,bd,rfl,cf,bt,bg⟩:=hrel;obtain⟨GQ,FQ⟩:=Ah bt bg;clear bt bg;by_cases hk:k<gs.length
    .obtain⟨f,aK⟩:=Ba hk;obtain⟨b0,o0,rfl,a5⟩:=(bI.o.fn FQ.o) k f aK;obtain⟨b',o',W,c0,bw,sa,sc,c2,Y⟩:=a5.N;injection W with W;injection W with W;injection W with e1 e2;subst e1;subst e2;obtain⟨bU,bP,bQ,aL⟩:=Bn a5 Y c2 aK;have Z:=(HR.o f (yd aK)).1;have z0:(0:Int)<=(k:Int):=qd;have z1:(k:Int)<(gs.length:Int):=qd;clear a5 Y aK;go_upto_region 10 with fail;refine Be ?_;intro C ay aN;obtain⟨T3,G3,F3⟩:=AA (bU.o.copy bQ.o bP.o ay aN) (GQ.o.d ay) (FQ.o.c (DK.m ay));obtain⟨s0,_,_⟩:=Da aN rfl;have d1:=AS (L:=[_,_,_]) G3.o.bx.box (j:=1) rfl;obtain⟨ax,am⟩:=G3.o.known aL.o HG.o;obtain⟨v,ps,aD,_⟩:=(G3.o.mp.drew).look_ok GA (t:=156) underlying156 (zFp C.drew) (show Bx (.pointer none)=some (.lit (.bool false),[]) from rfl) (keyOf_int_mk underlying3 Z);rw[ax]at aD;have aB:Bw C C.drew:=An.drew;obtain⟨z,T4,F4⟩:=AA (G3.o.d aB) (T3.o.d aB) (F3.o.c (DK.m aB));obtain⟨b,A⟩:∃b,b=wr.heap.size:=⟨_,rfl⟩
     obtain⟨cq,b8⟩:=Ah A am;cases u:kn fs f
     .have bO:=Aa u;rw[u]at aD;have aS:f ∉ U++r:=λq=>by
       rcases yn.1 q with q|q
       .exact bK.o f (yd aL.o) u q
       exact am u f (YD _ q) rfl
      obtain⟨bC,aP,aT⟩:=xw adr' (U++r) f wr.heap.size aS;have bf:=zW z.o.lk.inj aP aT (λg E e=>by
       obtain⟨c',bM⟩:=(GQ.o.bx.us g E).pt _ rfl;have:=Ak bM;omega)
      have aA:(stay fs gs).length<=fs.length:=y8 _ _;have cr:r.length<=gs.length:=by rw[GQ.o.ae];exact yh (y8 _ _) qf
      have a9:(stay fs gs++r).length<900:=by rw[yP];omega
      obtain⟨bh,HLK,bT,bV⟩:=Bn (v_ N HN.o adr' bC (U++r) (stay fs gs++r) aZ i (n+r.length) bd f wr.heap.size C.drew z.o.bx z.o.lk z.o.ms HO.o z.o.mp z.o.mv qd T4.o aP aT bf aS (am u) Z a9) (z.o.lk.bG bf aS a9) aP aT;clear ay aN ax am aB A u aS aP aT bf a9 c0 bw c2;go_region;go_wp2_with fail;refine bh.o.rtn λw5⟨⟨V5,aF,aH,D5,bv,aG⟩,aX⟩=>?_;obtain⟨G5,F5⟩:=Ah (z.o.more aL.o bO.o bT.o bV.o HLK.o aF aH bv aG) (F4.o.c aX);clear aF aH bv aG aX bh;go_wp2_with fail;go_roundw
      case rel=>exact⟨k+1,_,_,_,_,qm,qd,G5.o,F5.o⟩
      case measure=>(simp[intOf];omega)
     have G5:=Aa (z.o.skip aL.o u);rw[u]at aD;clear ay aN ax am aB A u c0 bw c2;go_region;go_wp2_with fail;go_roundw
     case rel=>exact⟨k+1,_,_,_,_,qm,qd,G5.o,F4.o⟩
     case measure=>(simp[intOf];omega)
    obtain rfl:k=gs.length:=qd;have hy:¬(gs.length:Int)<(gs.length:Int):=qd;go_wp2_with fail;go_end0;exact⟨rfl,⟨_,_,_,_,GQ.o⟩,FQ.o⟩
  obtain⟨t,rfl,rfl,Z⟩:=Maps.keyOf_int_inv underlying3 az;obtain⟨f,R,bJ⟩:=(l.mv.cr t).1 (has_true_of_atKey aQ);subst bJ;have hy:y.1=.lit (.int .i64 ((adr f).block:Int)):=(aQ .nil).y.c (l.mv.N f R .nil);have bc:Bx v=some (.lit (.int .i64 ((adr f).block:Int)),y.2):=by rw[hv,<-hy]
  have bG:=jP bc;subst bG;have aO:=(yf.1 R).1;obtain⟨b,A⟩:∃b,b=(adr f).block:=⟨_,rfl⟩
  have aM:adr f=⟨b,0,none⟩:=by rw[A];exact bo.o f aO
  rw[<-A]at a3 hE;obtain⟨_,_,_,_,a6⟩:=kX l.rg;have J:CK wr C:=CK.ai O (λc t fr e=>by rw[a6]at e;cases e);have aV:pb≠B.heap.size:=qd;have ar:=Ty l.pl (O.block pb l.pl.lt (λe=>aV J1));have aq:=SJ ar bR.o Z;obtain⟨cj,cv,b6,bX,cg,bS,co⟩:=Jj H O J ar R aO aM;have bF:=H.left_eq;have F3:=Aa (FR.o.iter O qd);cases M:(AD f.tag gs).isSome
  .have bW:=Aa M;have bq:=l.bx.O J O.size;have bn:=l.ms.keep J (Av.ai O) (λm hm x hx e=>a8.o m hm (e▸hx));have bm:=Aa (zC N HN.o adr U (fs.filter p) K i B.heap.size n bB _ T f b C bq (HF.o.be) bn HO.o H a8.o l.mv R aM (λg E k hk=>bu.o g (yf.1 E).1 k (yf.1 hk).1) Z);rw[M]at aq;clear l aJ az bz hv aQ H O hy bc R aO aM a6 J ar bq bn M A;go_wp2_with fail;refine bm.o.rtn λw4⟨⟨V4,aF,aH,b4,aE,cn,aG⟩,aI⟩=>?_;have a7:=Aa (LR.o.be HF.o bu.o bS.o bW.o aF aH aE aG bX.o aI qd bN.o);have bE:=aE.left_eq;have F4:=Aa (F3.o.c aI);clear aF aH aE aG aI bm aq a3 hE;go_wp2_with fail;go_roundw
   case rel=>
    obtain⟨bL,h4⟩:=a7.o;exact⟨_,_,_,_,_,h4,F4.o⟩
   case measure=>omega
  have a7:=Aa (l.en J O a8.o aV H M);rw[M]at aq;clear l aJ az bz hv aQ H O hy bc R aO aM a6 J ar M A;go_wp2_with fail;go_roundw
  case rel=>exact⟨_,_,_,_,_,a7.o,F3.o⟩
  case measure=>omega
end
def CB(X:List Cx):Nat:=(X.filter λc=>!c.cp.neg).length
def RN(vw B)(i:1<=B):∀(X:List Cx)(TT:List (List F)),(∀c∈X,(gV vw c).length<=B)->((Fm vw X TT).map List.length).sum<=(X.length+1)*(TT.length*B^CB X)/\(TT.flatMap (BK (X.map (Ce vw)))).length<=TT.length*B^CB X
 |[],TT,_=>by
  have e:TT.flatMap (BK (([]:List Cx).map (Ce vw)))=TT:=by
   exact TM
  rw[e];simp[Fm,CB]
 |c::X,TT,h=>by
  rw[Fm,<-Qe];have m:=h c qe;cases j:c.cp.neg
  focus
   have O:=RN vw B i X (TT.flatMap (λT=>((vw c.node).2.2.filter (λf=>c.cp.x.all (Ap T f))).map (λf=>T++[f]))) (λd hd=>h d IP);have hl:(TT.flatMap (λT=>((vw c.node).2.2.filter (λf=>c.cp.x.all (Ap T f))).map (λf=>T++[f]))).length<=TT.length*B:=by
    rw[List.length_flatMap];have key:∀l:List (List F),((l.map λT=>(((vw c.node).2.2.filter (λf=>c.cp.x.all (Ap T f))).map (λf=>T++[f])).length)).sum<=l.length*B:=λl=>by
     induction l with
     |nil=>simp
     |cons T l O=>
      have p:(((vw c.node).2.2.filter (λf=>c.cp.x.all (Ap T f))).map (λf=>T++[f])).length<=B:=by
       rw[yt];exact yh (y8 _ _) m
      rw[yq,YU,yI,KY];omega
    exact key TT
   have g:CB (c::X)=CB X+1:=by simp[CB,j]
   rw[if_neg qh];obtain⟨L,a⟩:∃L,L=TT.flatMap (λT=>((vw c.node).2.2.filter (λf=>c.cp.x.all (Ap T f))).map (λf=>T++[f])):=⟨_,rfl⟩
   rw[<-a]at O hl⊢;have b:L.length*B^CB X<=TT.length*B^CB (c::X):=by
    rw[g,Nat.pow_succ,Nat.mul_comm (B^CB X) B,<-Nat.mul_assoc];exact Yl _ hl
   have k:TT.length<=TT.length*B^CB (c::X):=Nat.le_mul_of_pos_right _ (Nat.pow_pos qd)
  rotate_left
  focus
   have O:=RN vw B i X (TT.filter (λT=>decide (nBar c.cp.x (vw c.node).2.2 T=0))) (λd hd=>h d IP);have hl:(TT.filter (λT=>decide (nBar c.cp.x (vw c.node).2.2 T=0))).length<=TT.length:=y8 _ _;have g:CB (c::X)=CB X:=by simp[CB,j]
   rw[if_pos rfl];obtain⟨L,a⟩:∃L,L=TT.filter (λT=>decide (nBar c.cp.x (vw c.node).2.2 T=0)):=⟨_,rfl⟩
   rw[<-a]at O hl⊢;rw[g];have b:L.length*B^CB X<=TT.length*B^CB X:=Yl _ hl;have k:TT.length<=TT.length*B^CB X:=Nat.le_mul_of_pos_right _ (Nat.pow_pos qd)
  rotate_left
  all_goals
   refine⟨?_,yh O.2 b⟩;rw[yq,YU,yI];have n:=Nat.mul_le_mul_left (X.length+1) b;have o:=O.1;rw[KY (X.length+1) 1,W0];omega
def xM{m:MK}{vw}(e:m.X.length<=6)(g:CB m.X<=3)(i:∀c∈m.X,(gV vw c).length<=100):((Fm vw m.X [[]]).map List.length).sum<=1000000000 /\ -1<=m.sz vw/\m.sz vw<=1000000000:=by
 obtain⟨d,a⟩:=RN vw 100 qd m.X [[]] i;have b:100^CB m.X<=100^3:=Wn qd g;simp only[yI,Yz,Yc,W0,yL,YQ,yQ]at d a;have f:(m.X.length+1)*100^CB m.X<=7*100^3:=Kh qd b;have j:((Fm vw m.X [[]]).map List.length).sum<=7000000:=yh d (yh f qh);refine⟨qd,?_⟩;cases m with
 |inl O=>
  obtain⟨R,c⟩:=O;simp only[MK.sz,Oc];simp only[MK.X]at j;omega
 |inr t=>
  simp only[MK.sz];simp only[MK.X]at a b;have e:(BK (t.X.map (Ce vw)) []).length<=1000000:=yh a (yh b qh);omega
def i9{X:List Cx}{r:Ru}(O:X.map Cx.cp=Bm r.v [] 0)(e:Fq r.v [] 0)(g:Ad r.v<=3)(U):Dz (X.map (BB U)) []:=by
 have hl:(X.map (BB U)).length=(Bm r.v [] 0).length:=by
  rw[<-O];simp
 have b:∀(k:Nat)(c:Cn)(d:Cp),(X.map (BB U))[k]?=some c->(Bm r.v [] 0)[k]?=some d->Iy U c d:=by
  intro k c d a hd;rw[<-O,yA]at hd;rw[yA]at a;obtain⟨x,f,rfl⟩:=Yd.1 a;rw[f]at hd;cases hd;exact iJ U x
 exact Xr (fs:=U) r.v [] [] _ e (λv hv=>by simp at hv) qf hl b
def XN:∀(a:List Pt)(vs:List Vr)(n:Nat),((Bm a vs n).filter λd=>!d.neg).length=Ad a/\∀d∈Bm a vs n,d.neg=false->d.N<n+Ad a
 |[],_,_=>by simp[Bm,Ad]
 |p::a,vs,n=>by
  rw[QH]
  cases c:p.neg
  .have O:=XN a (CL vs p.e n p.e.length) (n+1)
   have e:Ad (p::a)=Ad a+1:=by simp[Ad,FW,c]
   rw[if_neg qh,e]
   refine⟨by simp[O.1],λd hd b=>?_⟩
   rcases yG.1 hd with rfl|hd
   .show n<_
    omega
   have:=O.2 d hd b
   omega
  have O:=XN a vs n
  have e:Ad (p::a)=Ad a:=by simp[Ad,FW,c]
  rw[if_pos rfl,e]
  refine⟨by simp[O.1],λd hd b=>?_⟩
  rcases yG.1 hd with rfl|hd
  .cases b
  exact O.2 d hd b
def vR{pre r}(h:(A_ pre r).1=0):1<=Ad r.v:=by
 unfold A_ at h;cases a:Am r with
 |some i=>rw[a]at h;simp at h
 |none=>
  rw[a]at h;simp only at h;split at h
  .simp at h
  split at h
  .rename_i b;exact b.1
  simp at h
def lD:∀(l pre:List Ru)(k:Nat),(EJ pre l k).1=0->∀r∈l,1<=Ad r.v
 |[],_,_,_,r,a=>by simp at a
 |q::s,pre,k,h,r,a=>by
  unfold EJ at h
  split at h
  .rename_i O
   rcases yG.1 a with rfl|a
   .exact vR O
   exact lD s _ _ h r a
  rename_i O
  exact absurd h O
def UY{rs}(h:(A8 rs).1=0){r}(a:r∈rs):1<=Ad r.v:=by
 unfold A8 at h;split at h
 .exact lD rs [] 0 h r a
 simp at h
structure NJ(X:List Cx):Prop where
 small:∀c∈X,c.cp.x.length<=6/\c.cp.F.x.length<=1048576/\(c.cp.neg=false->c.cp.N<3)
 sr:∀U,Dz (X.map (BB U)) []
 X6:X.length<=6
 pos:CB X<=3
 ne:X≠[]
def Sb{rs}(g:(A8 rs).1=0){r}(f:r∈rs){X}(a:X.map Cx.cp=Bm r.v [] 0):NJ X:=by
 obtain⟨s,q,i⟩:=Mc g f;obtain⟨m,o⟩:=XN r.v [] 0;have j:∀c∈X,c.cp∈Bm r.v [] 0:=λc b=>by rw[<-a];exact yU b
 have O:CB X=Ad r.v:=by
  have e:CB X=((X.map Cx.cp).filter λd=>!d.neg).length:=by
   unfold CB;rw[YV,yt];rfl
  rw[e,a,m]
 refine⟨λc b=>?_,i9 a (MV g f) i,?_,by rw[O];exact i,λe=>?_⟩
 .obtain⟨l,n⟩:=QE r.v [] 0 q c.cp (j c b);refine⟨l,yh n qh,λp=>?_⟩;have:=o c.cp (j c b) p;omega
 .have:=congrArg List.length a;rw[yt,Na]at this;omega
 have k:=UY g f;rw[<-O,e]at k;simp[CB]at k
def NJ.ep{X}(h:NJ X){adr U vw ca}(hv:EG U X (gV vw))(b:Bs adr U):NW X adr U vw ca:=⟨h.small,h.sr U,h.ne,h.X6,hv,b⟩
def Js.all{R U}(h:Js R U)(b:NJ R.X)(O):Js R O:=⟨h.len,h.maps,h.cF,h.small,b.sr O⟩
def MK.aP(d:Int):MK->Prop
 |.inl _=>d=0
 |.inr _=>d=1
def Ry(X:List Cx)(adr:F->Addr)(U:List F)(vw:Vw)(ca:Option Addr)(d:Int)(w:World)(e:Ending)(w':World):Prop:=
 ∃m:MK,e=.returned m.val/\m.X=X/\m.ca=ca/\m.Ok/\m.aP d/\m.St adr U vw (gV vw) [] w'/\(∀g,m.S g->w.heap.size<=g)/\Bw w w'
def zkL(X adr U vw ca cc f n b)(d:NJ X)(hv:EG U X (gV vw))(i:Bs adr U)(w)(m:∀(k:Nat)(c:Cx),X[k]?=some c->Dp adr vw ca w k c)(O:Br adr U w) :
  Ca 92 #[.agg #[.slice ca X.length cc,.slice f n b]] w (Ry X adr U vw ca 0 w):=by
 refine(zml X adr U vw ca cc f n b (d.ep hv i) w m O).j λe w' q=>?_;obtain⟨R,a,o,g,p,r,s⟩:=q;exact⟨.inl (R,ca),o,a,rfl,λl=>g.all (a▸d) l,rfl,p,r.2.2,s⟩
def zjZ(X adr U vw ca cc f n d)(O:NJ X)(hv:EG U X (gV vw))(t:Bs adr U)(w)(ah:∀(k:Nat)(c:Cx),X[k]?=some c->Dp adr vw ca w k c)(A:∀c∈X,∃a n,CP w c.node c.cp.F a n)(af:Br adr U w) :
  Ca 93 #[.agg #[.slice ca X.length cc,.slice f n d]] w (Ry X adr U vw ca 1 w):=by
 have p:Fg (⟨adr,U,X,vw,ca,cc,f,n,d,0,0,0,0⟩:TD):=⟨λc b=>⟨(O.small c b).1,(O.small c b).2.1⟩,O.X6,λc b=>yh (hv c b).2.2 qd,λc b x u=>yf.1 ((hv c b).1 x u),O.sr U,t⟩
 refine(zkx ⟨adr,U,X,vw,ca,cc,f,n,d,0,0,0,0⟩ p w ⟨ah,A,af⟩).j λe w' q=>?_;obtain⟨mb,cb,nb,wb,r,m,s,y,z⟩:=q;refine⟨.inr ⟨X,ca,cc,f,n,d,mb,cb,nb,wb⟩,r,rfl,rfl,⟨p.small,O.X6,O.sr⟩,rfl,⟨s,y⟩,?_,z⟩;rintro g (rfl|rfl)
 .exact m.2.2.1
 exact m.2.2.2
section
open Go.Maps
structure Ey(w w':World):Prop where
 rest:Below 0 w w'
 kept:∀(k:Nat)(c:Array Value)(t:TypeId)(fr:Nat × Nat),w.heap[k]?=some (.cells c t fr)->t≠165->t≠159->w'.heap[k]?=some (.cells c t fr)
 maps:∀(k:Nat)(o:Obj),w.heap[k]?=some o->(∀c t fr,o≠.cells c t fr)->w'.heap[k]?=some o
def Ey.c{u v w}(h:Ey u v)(k:Ey v w):Ey u w:=⟨h.rest.c k.rest,λj c t d hj b a=>k.kept j c t d (h.kept j c t d hj b a) b a,λj o hj O=>k.maps j o (h.maps j o hj O) O⟩
def Ey.m{w w'}(h:Bw w w'):Ey w w':=⟨h.j (yk _),λk _ _ _ a _ _=>(h.block k (Ak a)).c a,λk _ a _=>(h.block k (yj.1 a).1).c a⟩
def Ey.ai{w w' g}(h:w.grownBy w' g)(b:∀k,g=some k->∃c,w.heap[k]?=some (.cells c 165 (0,0))):Ey w w':=
 ⟨⟨h.os,h.tape,h.output,h.size,λ_ q=>absurd q qd⟩,λk _ _ _ a f _=>(h.block k (Ak a) (λe=>by
  obtain⟨d,O⟩:=b k e.y
  exact Cf a O f)).c a,λk o a i=>(h.block k (yj.1 a).1 (λe=>by
  obtain⟨d,O⟩:=b k e.y
  rw[a]at O
  cases O
  exact i _ _ _ rfl)).c a⟩
def Ey.bh{w w' b j O}(h:Turned w w' b)(f:w.heap[b]?=some (.cells j 159 O)):Ey w w':=
 ⟨h.d (yk _),λk _ _ _ a _ g=>(h.block k (λe=>by
  subst e
  exact Cf a f g)).c a,λk o a i=>(h.block k (λe=>by
  subst e
  rw[a]at f
  cases f
  exact i _ _ _ rfl)).c a⟩
def Ey.k{S w w'}(h:Ey w w'):Pf S w w':=⟨λk c t b a ht=>h.kept k c t b a qx qx,λk _ _ _ a=>h.maps k _ a (λ_ _ _ e=>qo)⟩
def Ey.Q{B w w' e m v n xs}(h:Ey w w')(O:w.ownsRow B e m v n xs)(d:e≠165)(b:e≠159):w'.ownsRow B e m v n xs:=
 Bv O λk f=>by
  obtain⟨c,a⟩:=AO O f
  rw[h.kept k _ _ _ a d b,a]
def NF.fm{w w' base e mb g j L f V QQ}(h:NF w base e mb g j L f V QQ)(a:Ey w w'):NF w' base e mb g j L f V QQ:=
 ⟨a.kept _ _ _ _ h.box qh qh,a.Q h.row qh qh,h.aX,h.aL,λi x b v c d hv=>by
  obtain⟨n,k,l,m⟩:=h.node i x b v c d hv
  exact⟨a.kept _ _ _ _ n qh qh,k,l,a.Q m qh qh⟩,λx c=>⟨(h.aK x c).1,a.Q (h.aK x c).2 qh qh⟩,h.apart⟩
def PD.fm{w w' B ca cc d b X U A a}(h:PD w B ca cc d b X U A a)(g:Ey w w'):PD w' B ca cc d b X U A a:=
 h.aj λk c t e f ht=>g.kept k c t e f qS qS
def Fo.fm{w w' B a c P A b}(h:Fo w B a c P A b)(e:Ey w w'):Fo w' B a c P A b:=
 h.aj λk c t f d ht=>e.kept k c t f d qt qt
def G9.fm{adr U w w'}(h:G9 adr U w)(d:Ey w w'):G9 adr U w':=λf b=>(h f b).keep λg c t e a ht=>d.kept g c t e a qA qA
structure Mg(N:NT) (adr:F->Addr) (U fs:List F) (V:List Value) (olds:List (List Kt)) (ms:List Int) (P:List Px) (w:World):Prop where
 ok:FD N
 bx:Eg N adr U fs V w
 st:Ck N adr U (N.vw V fs) (λ_=>gV (N.vw V fs)) olds w
 ol:olds.length=N.Ms.length
 bg:∀(i:Nat)(m:MK),N.Ms[i]?=some m->∃x d,P[i]?=some x/\ms[i]?=some d/\m.X=x.X/\m.ca=x.ca/\m.aP d
 br:∀(i:Nat)(m:MK)(old:List Kt),N.Ms[i]?=some m->olds[i]?=some old->old.Perm ((BK (m.X.map (Ce (N.vw V fs))) []).map (Ab adr))
def MK.dH:MK->TypeId
 |.inl _=>248
 |.inr _=>256
def MK.bU(m:MK):m.val=.iface m.dH m.ptr:=by cases m<;>rfl
def UV (m:MK) (u):Sem.run prog (method 525 m.dH m.ptr "loop.example/s01311/impl.conflict") u=.ok (m.dl,m.ptr) u:=by
 cases m with
 |inl O=>exact uI _ _
 |inr t=>exact uX _ _
def Vz(m:MK):∀args w,(callFunc m.dl args).run prog w=.ok (.enter m.dl args) w:=by
 cases m with
 |inl O=>exact enters_of func302 qg rfl
 |inr t=>exact enters_of func307 qg rfl
def Lg{α:Type}{l}{x y:α}{i}(h:(l++[x])[i]?=some y):l[i]?=some y∨(i=l.length/\y=x):=by
 by_cases a:i<l.length
 .rw[yr a]at h;exact .inl h
 rw[yx qd]at h;have O:i-l.length=0:=by
  have:=(ye.1 h).1;simp at this;omega
 rw[O]at h;simp at h;exact .inr ⟨qd,h.y⟩
def NT.more(N:NT)(ma:Option Addr)(mc:Nat)(m:MK):NT:={ N with ma:=ma,mc:=mc,Ms:=N.Ms++[m] }
def oT(h:P:=by
 rcases Lg h2 with h2|⟨_,rfl⟩
 .have:=(ye.1 h2).1;have:=h.ol;omega
 rfl
 ):=h
def Mg.more{N adr U fs V b v P w W s f m K x d r o}(h:Mg N adr U fs V b v P w)(hF:Gh adr U fs)(aH:N.fb<w.heap.size)(hx:P[N.Ms.length]?=some x)(hd:v[N.Ms.length]?=some d)(hl:N.Ms.length<1000)(aD:PD w N.B x.ca x.cc x.va x.vc x.X x.U (N.L.map Prod.fst) N.bs)(M:m.X=x.X)(G:m.ca=x.ca)(l:m.Ok)(aC:m.aP d)(p:∀g,m.S g->w.heap.size<=g)(aE:Bw w W)(aF:m.St adr U (N.vw V fs) (gV (N.vw V fs)) K s)(hK:K.Perm ((BK (m.X.map (Ce (N.vw V fs))) []).map (Ab adr)))(az:Av m.S W s)(u:Ey s f)(ar:f.heap[N.nw]?=some (.cells #[Pn N.gb,.map (some N.fb),.slice r (N.Ms.length+1) o] 159 (0,0)))(au:f.ownsRow N.B 165 1 (.slice r (N.Ms.length+1) o) (N.Ms.length+1) (N.Ms.map MK.val++[m.val])) :
  Mg (N.more r o m) adr U fs V (b++[K]) v P f:=by
 have y:Bw w s:=Av.aO aE az p;have E:=λm'(O:m'∈N.Ms)g(q:MK.S m' g)=>h.st.lt h.ol O g q;have n:Ey w f:=(Ey.m y).c u;have aA:=h.bx.nf.fm n;have ay:=h.bx.us.fm n;have aG:∀m'∈(N.more r o m).Ms,∃cc C z D,PD f N.B m'.ca cc C z m'.X D (N.L.map Prod.fst) N.bs:=λm' O=>by
  rcases yn.1 O with O|O
  .obtain⟨cc,C,z,D,hp⟩:=h.bx.pd m' O;exact⟨cc,C,z,D,hp.fm n⟩
  rw[yp.1 O,M,G];exact⟨_,_,_,_,aD.fm n⟩
 have J:Eg (N.more r o m) adr U fs V f:=⟨by simpa[NT.more] using ar,aA,by simpa[NT.more] using au,aG,ay,yh h.bx.hb n.rest.size⟩
 have hbase:N.base<=w.heap.size:=h.bx.hb;refine⟨⟨λm' O=>?_,λi j m1 m2 a h2 aB g t A=>?_,λm' O q=>?_,h.ok.bX,h.ok.len,by simp[NT.more];omega,λm' O g q=>?_,h.ok.el⟩,J,λi m' old a h2=>?_,by simp[NT.more,h.ol],λi m' a=>?_,λi m' old a h2=>?_⟩
 .rcases yn.1 O with O|O
  .exact h.ok.ok m' O
  rw[yp.1 O];exact l
 .rcases Lg a with Z|⟨I,f1⟩<;>rcases Lg h2 with T|⟨Y,f2⟩
  .exact h.ok.apart i j m1 m2 Z T aB g t A
  .have:=E m1 (yd Z) g t;have:=p g (f2▸A);omega
  .have:=E m2 (yd T) g A;have:=p g (f1▸t);omega
  omega
 .rcases yn.1 O with O|O
  .exact h.ok.ci m' O q
  rw[yp.1 O]at q;have:w.heap.size<=N.fb:=p _ q;omega
 .rcases yn.1 O with O|O
  .exact h.ok.dz m' O g q
  rw[yp.1 O]at q;exact yh hbase (p g q)
 .obtain⟨H,p2,R⟩:=J.aI hF (yd a);rcases Lg a with a|⟨I,rfl⟩
  .rcases Lg h2 with h2|⟨Y,rfl⟩
   .exact((h.st i m' old a h2).keep (S:=λ_=>False) (CK.m y) (Av.m y) (λ_ _ q=>q)).bq (h.ok.ok m' (yd a)) (λ_ _=>rfl) R H u.k
   have:=(ye.1 a).1;have:=h.ol;omega
  have e:old=K:=by
   exact oT
  rw[e];exact aF.bq l (λ_ _=>rfl) R H u.k
 .rcases Lg a with a|⟨rfl,rfl⟩
  .exact h.bg i m' a
  exact⟨x,d,hx,hd,M,G,aC⟩
 rcases Lg a with a|⟨I,rfl⟩
 .rcases Lg h2 with h2|⟨Y,rfl⟩
  .exact h.br i m' old a h2
  have:=(ye.1 a).1;have:=h.ol;omega
 have e:old=K:=by
  exact oT
 rw[e];exact hK
end
end Go.Proofs.YtikojfajahnhgaaGreat
