import Derived.Test.YtikojfajahnhgaaGreatShf
import Derived.Test.YtikojfajahnhgaaGreatKbp
set_option linter.all false
set_option maxRecDepth 1000000
namespace Go.Proofs.YtikojfajahnhgaaGreat
attribute [local simp] At I6 Pn mzI
attribute [local go_sem] At I6 Pn
open Go.RowKit Go.Sort Go.Proofs.Tryz
attribute [local go_sem ↓] wp_at_zero wp_at_succ
def lM{α}[Inhabited α]{enc w O off m}{Y:Array α}{b g}(c:g<w.heap.size)(a:g≠O):(grow (putRow enc (Sort.ahead w m) O off Y) b).heap[g]?=w.heap[g]?:=by
 have d:(grow (putRow enc (Sort.ahead w m) O off Y) b).heap[g]?=(putRow enc (Sort.ahead w m) O off Y).heap[g]?:=Sort.heap_grow_old _ b (by rw[size_putRow];exact c);rw[d];show((Sort.ahead w m).heap.modify O _)[g]?=_;rw[Y6];rw[if_neg (λe=>a e.ai)];rfl
def i6(v Y O w)(b:w.heap[O]?=some (.cells #[.pointer Y] 106 (0,0)))(c:Bc w v)(a:Bc w Y) :
  Ca 221 #[.pointer v,Pn O] w λe w'=>e=.returned (.bool (decide (v=Y)))/\w'=w:=by
 have d:=A3 b;have f:=gI c a;clear b c a;go_enter func221,ntmps221;go_wp2_with fail;exact Nd
abbrev O4(w:World):={p:Option Addr // Bc w p}
def pK(w:World):O4 w:=⟨none,λa h=>by cases h⟩
def Jb{w:World}(x:O4 w):Value:=.pointer x.1
def zmL:∀args w,(callFunc 221 args).run prog w=.ok (.enter 221 args) w:=enters_of func221 qf rfl
def Bc.bl{w w' p}(h:Bc w p)(d:∀(g:Nat)c,w.heap[g]?=some (.cells c 145 (0,0))->w'.heap[g]?=w.heap[g]?):Bc w' p:=λa O=>by
 obtain⟨c,b⟩:=h a O;exact⟨c,(d _ c b).j b⟩
def zN{α}[Inhabited α]{enc w g m}{d:Array α}{O e a}(b:w.heap[g]?=some (.cells O e a)):(putRow enc (Sort.ahead w m) g 0 d).heap[g]?=some (.cells (putCells enc 0 d O) e a):=by
 show(w.heap.modify g _)[g]?=_;rw[Y6,if_pos rfl,b];rfl
def zkC{α}[Inhabited α]{enc}{xs ys:List α}{O}(h:(xs++ys).length<=O.size):(putCells enc 0 (xs++ys).toArray O).toList.take xs.length=xs.map enc:=by
 apply YM;intro i;by_cases hi:i<xs.length
 .rw[YU,if_pos hi,yx];have b:i<O.size:=by simp at h;omega
  have a:(putCells enc 0 (xs++ys).toArray O).toList[i]?=(putCells enc 0 (xs++ys).toArray O)[i]?:=qe;rw[a];unfold putCells;rw[Array.getElem?_mapIdx,Kd b];have hl:i<(xs++ys).toArray.size:=by simp;omega
  simp only[Wg];rw[if_pos ⟨yA _,qd⟩,Nat.sub_zero,getElem!_pos _ i hl];simp[List.getElem_append_left hi,hi]
 rw[Yr qg,Yr OX]
def zmr(w base g cap O f)(xs:List (O4 w))(Y)(b:w.heap[g]?=some (.cells Y 106 (0,0)))(y:base<=g)(E:xs.length<=cap)(v:cap<=maxLen)(l:Y.size=cap)(I:Y.toList.take xs.length=xs.map Jb)(m:w.heap[O]?=some (.cells #[.pointer f] 106 (0,0)))(i:O≠g)(u:Bc w f) :
  Ca 220 #[.slice (some ⟨g,0,none⟩) xs.length cap,.func (.func 221) #[] #[Pn O]] w λe w'=>
   e=.returned (.slice (some ⟨g,0,none⟩) (xs.filter λx=>!decide (x.1=f)).length cap)/\w'.ownsRow base 106 1 (.slice (some ⟨g,0,none⟩) (xs.filter λx=>!decide (x.1=f)).length cap) (xs.filter λx=>!decide (x.1=f)).length ((xs.filter λx=>!decide (x.1=f)).map Jb)/\w.grownBy w' (some g)/\w'.heap.size=w.heap.size:=by
 letI:Inhabited (O4 w):=⟨pK w⟩
 have L:g<w.heap.size:=(ym.1 b).1;have r:O<w.heap.size:=(ym.1 m).1;have B:Holds (Jb (w:=w)) w g 0 xs.toArray:=λj hj=>by
  have t:j<xs.length:=QE;have z:xs[j]?=some xs[j]:=yK t;have hc:Y.toList[j]?=some (Jb xs[j]):=by
   have:=congrArg (·[j]?) I;simp only[YU,t,if_true,yx,z,Wg]at this;exact this
  have D:Y[j]?=some (Jb xs[j]):=qY;rw[getElem!_pos _ j hj];refine⟨?_,?_⟩
  .simp[World.cell?,b,D]
  simp[World.frozen?,b]
 have G:PredAt prog 221 #[Pn O] (Jb (w:=w)) (λx=>decide (x.1=f)) w:=λW x o=>by
  refine(i6 x.1 f O W ((o.block O r).j m) (x.2.bl λk c a=>o.block k (ym.1 a).1) (u.bl λk c a=>o.block k (ym.1 a).1)).ac ?_;rintro e w' ⟨rfl,rfl⟩;exact⟨rfl,0,rfl⟩
 have C:PredOver prog 221 #[Pn O] (Jb (w:=w)) (λx=>decide (x.1=f)) g 0 xs.toArray.size w:=λn H A x _=>by
  have far:∀(k:Nat)c,w.heap[k]?=some (.cells c 145 (0,0))->(sortWorld (Jb (w:=w)) w g 0 n A H).heap[k]?=w.heap[k]?:=λk c a=>lM (ym.1 a).1 (λe=>by rw[e,b]at a;injection a with a;injection a with _ a;exact absurd a qh);refine(i6 x.1 f O _ ((lM r i).j m) (x.2.bl far) (u.bl far)).ac ?_;rintro e w' ⟨rfl,rfl⟩;exact⟨rfl,0,rfl⟩
 have s:=AnyE.slices_DeleteFunc delF (Jb (w:=w)) (λ_=>rfl) (λx=>decide (x.1=f)) 221 #[Pn O] zmL (pK w) (λ_=>rfl) g 0 cap xs.toArray w G C B (by simp;unfold maxLen at v;omega) (by simpa using E);change Ca 220 #[.slice (some ⟨g,0,none⟩) xs.length cap,_] _ _ at s;refine s.ac ?_;rintro e w' ⟨rfl,q,rfl⟩;have K:(xs.filter λx=>!decide (x.1=f)).length<=xs.length:=Yd _ _;have J:∀(p:Array (O4 w))(k:Nat),k≠g->(putRow (Jb (w:=w)) (Sort.ahead w q) g 0 p).heap[k]?=w.heap[k]?:=λp k d=>by
  show(w.heap.modify g _)[k]?=_;rw[Y6,if_neg (λe=>d e.ai)]
 refine⟨rfl,⟨qe,.inr ⟨g,cap,_,rfl,y,zN b,qd,v,?_,?_⟩⟩,⟨rfl,rfl,rfl,by rw[size_putRow];exact yX _,λk _ d=>J _ k (λe=>d H4)⟩,by rw[size_putRow];rfl⟩
 .simp[putCells,l]
 rw[Ko];exact zkC qg
def pV(adr:F->Addr)(g:F):Value:=.pointer (some (adr g))
def Z3{w adr}(a):∀(fs:List F),(∀g∈fs,Bc w (some (adr g)))->∃xs:List (O4 w),xs.map Jb=fs.map (pV adr)/\(xs.filter λx=>!decide (x.1=some a)).map Jb=(fs.filter λg=>!decide (adr g=a)).map (pV adr)
 |[],_=>⟨[],rfl,rfl⟩
 |g::r,h=>by
  obtain⟨xs,b,h2⟩:=Z3 a r (λy c=>h y (Y2 _ c))
  refine⟨⟨some (adr g),h g Wj⟩::xs,?_,?_⟩
  .rw[yn,yn,b]
   rfl
  by_cases e:adr g=a
  .simp[e]
   simpa using h2
  simp[e]
  exact⟨rfl,qv⟩
def wT(Y w):Ca 220 #[.slice none 0 0,Y] w λe w'=>e=.returned (.slice none 0 0)/\w'=w:=by
 have O:=AnyE.slices_IndexFunc_empty { delF with } none 0 Y w;change Ca 237 _ _ _ at O;have a:=Aa O;clear O;go_enter func220,ntmps220;go_wp2_with fail;refine a.o.ac ?_;rintro e b ⟨rfl,rfl⟩;go_wp2_with fail;exact Nd
def zoX(w base c b O adr)(fs:List F)(a)(i:w.ownsRow base 106 1 (.slice c fs.length b) fs.length (fs.map (pV adr)))(y:∀g∈fs,Bc w (some (adr g)))(n:Bc w (some a))(t:w.heap[O]?=some (.cells #[.pointer (some a)] 106 (0,0)))(d:∀g,(Value.slice c fs.length b).ownBlock=some g->g≠O) :
  Ca 220 #[.slice c fs.length b,.func (.func 221) #[] #[Pn O]] w λe w'=>
   e=.returned (.slice c (fs.filter λg=>!decide (adr g=a)).length b)/\w'.ownsRow base 106 1 (.slice c (fs.filter λg=>!decide (adr g=a)).length b) (fs.filter λg=>!decide (adr g=a)).length ((fs.filter λg=>!decide (adr g=a)).map (pV adr))/\w.grownBy w' (Value.slice c fs.length b).ownBlock:=by
 rcases i.2 with⟨e,o⟩|⟨g,cap,v,e,p,m,z,s,q,u⟩
 .obtain rfl:fs=[]:=Y9.1 o;simp only[YV,Y4,true_and]at e;obtain⟨rfl,rfl⟩:=e;refine(wT _ w).ac ?_;rintro e w' ⟨rfl,rfl⟩;exact⟨rfl,i,⟨rfl,rfl,rfl,yX _,λ_ _ _=>rfl⟩⟩
 simp only[Y4,true_and]at e;obtain⟨rfl,rfl⟩:=e;obtain⟨xs,l,j⟩:=Z3 (w:=w) a fs y;have hl:xs.length=fs.length:=by simpa using congrArg List.length l
 have Y:(xs.filter λx=>!decide (x.1=some a)).length=(fs.filter λg=>!decide (adr g=a)).length:=by simpa using congrArg List.length j
 have f:=zmr w base g b O (some a) xs v m p qd s qd (by rw[hl,l,<-u,Ko]) t (λe=>d g rfl e.ai) n;rw[hl]at f;refine f.ac ?_;rintro e w' ⟨rfl,k,r,_⟩;rw[Y,j]at k;rw[Y];exact⟨rfl,k,r⟩
def NF.dO{w w7 w8 base gb mb d a L bs V QQ m b x v Q' fa fc}(h:NF w base gb mb d a L bs V QQ)(hx:L[m]?=some x)(hb:bs[m]?=some b)(hv:V[m]?=some v)(hbase:base<=w.heap.size)(ho7:w7.ownsRow base 106 1 (.slice fa (CD x.1 Q').length fc) (CD x.1 Q').length ((CD x.1 Q').map Prod.fst))(hg7:w.grownBy w7 v.ownBlock)(hl7:∀g,(Value.slice fa (CD x.1 Q').length fc).ownBlock=some g->v.ownBlock=some g)(hN8:E8 w8 b x m (.slice fa (CD x.1 Q').length fc))(ht8:Turned w7 w8 b) :
  NF w8 base gb mb d a L bs (V.set m (.slice fa (CD x.1 Q').length fc)) (λi=>if i=m then Q' else QQ i)/\DF base w w8:=by
 exact pM
def Eg(adr:F->Addr)(fs:List F):List (Value × F):=fs.map λg=>(pV adr g,g)
def RB{x adr fs}:CD x (Eg adr fs)=Eg adr (fs.filter (Ae x)):=by
 unfold CD Eg;rw[Y8];rfl
def UD{adr fs}:(Eg adr fs).map Prod.fst=fs.map (pV adr):=by
 unfold Eg;rw[Yp];rfl
def MH{adr fs}:(Eg adr fs).length=fs.length:=by simp[Eg]
def lw{α:Type}{p q}{l:List α}:(l.filter p).filter q=(l.filter q).filter p:=by
 rw[YB,YB];congr 1
 funext x
 cases p x<;>cases q x<;>rfl
def Bc.ft{base w w' p}(h:Bc w p)(d:DF base w w'):Bc w' p:=λa O=>by
 obtain⟨c,b⟩:=h a O;exact⟨c,d.kept _ _ _ _ b qh qh⟩
set_option maxHeartbeats 6400000 in
def ub(base A mb M K L f V adr fs a w)(hp:∀g∈fs,Bc w (some (adr g)))(ha:Bc w (some a))(r:NF w base A mb M K L f V (λ_=>Eg adr fs))(hB:base<=w.heap.size)(hL:L.length<=1000) :
  Ca 160 #[.pointer (some ⟨A,0,none⟩),.pointer (some a)] w λe w'=>e=.returned (.tuple #[])/\(∃V',NF w' base A mb M K L f V' (λ_=>Eg adr (fs.filter λg=>!decide (adr g=a))))/\DF base w w':=by
 obtain⟨HP,HA⟩:=Ak hp ha;have R:∀x:Al,CD x (Eg adr (fs.filter λg=>!decide (adr g=a)))=Eg adr ((fs.filter (Ae x)).filter λg=>!decide (adr g=a)):=λx=>by rw[RB,lw]
 have E:=Aa R;obtain⟨W,t⟩:∃W,W=w.alloc (.cells #[.pointer (some a)] 106 (0,0)):=⟨_,rfl⟩
 have J:Bw w W:=by rw[t];exact Af
 have I:=Aa (r.ar J);have ar:W.heap[w.heap.size]?=some (.cells #[.pointer (some a)] 106 (0,0)):=by rw[t];exact heap_alloc_new w _
 have Z:=Aa ar;have aw:Hid (∀(i:Nat)(u:Value),V[i]?=some u->∀g,u.ownBlock=some g->g<w.heap.size):=by
  intro i u hu g c;have hi:i<V.length:=(yf.1 hu).1;have e1:=r.ba;have e2:=r.bk;exact((r.node i (L[i]'(by omega)) (f[i]'(by omega)) u qe qe hu).2.2.2.lt g c).2
 have N:=Aa J;have aE:W.heap.size=w.heap.size+1:=by rw[t];simp
 obtain⟨⟨g0,g1⟩,_,aF⟩:=I.o.box.facts;clear hp ha r R J ar;subst t;go_enter func160,ntmps160;go_wp2_with fail;clear g0 g1
 go_loopw [11] (λiv wr=>∃(k:Nat)(V':List Value),iv=.int .i64 (k:Int)/\k<=L.length/\NF wr base A mb M K L f V' (λi=>if i<k then Eg adr (fs.filter λg=>!decide (adr g=a)) else Eg adr fs)/\DF base w wr/\wr.heap[w.heap.size]?=some (.cells #[.pointer (some a)] 106 (0,0))/\(∀(i:Nat)(u:Value),V'[i]?=some u->∀g,u.ownBlock=some g->g<w.heap.size)) (mz L.length)
 case atStart=>exact⟨0,V,rfl,yA _,I.o.same (λi x _=>qe),DF.ab N.o qd,Z.o,aw.o⟩
 case round=>
  obtain⟨k,V',rfl,aD,av,D,am,au⟩:=hrel;obtain⟨NR,FR,z,B⟩:=BE av D am au;have aG:=D.rest.size;clear av D I am au Z aw N;by_cases G:k<L.length
  .obtain⟨x,H⟩:=AJ G;obtain⟨nb,O⟩:∃b,f[k]?=some b:=⟨f[k]'(by rw[NR.o.bk];exact G),qe⟩
   obtain⟨v,hv⟩:∃v,V'[k]?=some v:=⟨V'[k]'(by rw[NR.o.ba];exact G),qe⟩
   obtain⟨rb,rfl,_,r0,_⟩:=CC NR.o.row (show(Fz f)[k]?=some (.pointer (some ⟨nb,0,none⟩)) by simp[Fz,O]);obtain⟨d,n2,⟨fa,fc,rfl⟩,C⟩:=NR.o.node k x nb v H O hv;simp only[KH,if_false,RB,MH,UD]at hv d C;have s:∀g,(Value.slice fa (fs.filter (Ae x.1)).length fc).ownBlock=some g->g≠w.heap.size:=λg c e=>by
    have:=B.o k _ hv g c;omega
   have HD:=Aa (zoX wr base fa fc w.heap.size adr (fs.filter (Ae x.1)) a C (λg c=>(HP.o g (yg.1 c).1).ft FR.o) (HA.o.ft FR.o) z.o s);have z0:(0:Int)<=(k:Int):=qd;have z1:(k:Int)<(L.length:Int):=qd;obtain⟨HX,ax,Y,N1,N4⟩:=DU H O hv d C;obtain⟨⟨_,_,_,y4⟩,_,aC⟩:=d.facts;clear H O hv d C s;go_wp2_with fail;refine HD.o.an λw7⟨q,m⟩=>?_;obtain⟨T,az,U⟩:=AQ (show E8 w7 nb x k (.slice fa (fs.filter (Ae x.1)).length fc) from Gq N1.o m (λg c=>A8 N4.o c) qh) q m;clear q m HD r0 y4;obtain⟨_,z4,_⟩:=T.o.facts;go_upto_region 5 with fail;refine ks T.o ?_;intro w8 p l;have hR:=NF.dO (QQ:=λi=>if i<k then Eg adr (fs.filter λg=>!decide (adr g=a)) else Eg adr fs) (Q':=Eg adr (fs.filter λg=>!decide (adr g=a))) (fa:=fa) (fc:=fc) NR.o HX.o ax.o Y.o qd (by rw[E.o,MH,UD];exact az.o) U.o (by rw[E.o,MH];intro g c;cases fa with|none=>cases c|some a'=>exact c) (by rw[E.o,MH,YB];exact p) l;have HR:=Aa hR;have aB:Hid (w8.heap[w.heap.size]?=some (.cells #[.pointer (some a)] 106 (0,0))):=by
    have n:=(ym.1 z.o).1;have h1:w.heap.size≠nb:=λe=>by
     have d:=N1.o;unfold E8 at d;rw[<-e,z.o]at d;injection d with d;injection d with _ d;exact absurd d qh
    have h2:some w.heap.size≠(Value.slice fa (fs.filter (Ae x.1)).length fc).ownBlock:=λe=>by
     have:=B.o k _ Y.o _ e.ai;omega
    exact(l.block _ h1).j ((U.o.block _ n h2).j z.o)
   have aA:Hid (∀(i:Nat)(u:Value),(V'.set k (.slice fa (CD x.1 (Eg adr (fs.filter λg=>!decide (adr g=a)))).length fc))[i]?=some u->∀g,u.ownBlock=some g->g<w.heap.size):=by
    intro i u hu g c;by_cases hi:i=k
    .subst hi;have n:=(yf.1 Y.o).1;rw[Yl n]at hu;cases hu;refine B.o i _ Y.o g ?_;cases fa with
     |none=>cases c
     |some a'=>exact c
    rw[YS (λe=>hi e.ai)]at hu;exact B.o i u hu g c
   clear hR p l;go_wp2_with fail;go_roundw
   case rel=>
    refine⟨k+1,_,ql,qd,HR.o.1.same (λi y hy=>?_),FR.o.j HR.o.2,aB.o,aA.o⟩;exact oB
   case measure=>(simp;omega)
  have ay:k=L.length:=qd;subst ay;exact oj
end Go.Proofs.YtikojfajahnhgaaGreat
