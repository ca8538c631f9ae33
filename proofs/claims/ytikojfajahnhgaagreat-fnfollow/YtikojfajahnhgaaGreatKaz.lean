import Derived.Test.YtikojfajahnhgaaGreatShf
import Derived.Test.YtikojfajahnhgaaGreatKav
import Derived.Test.YtikojfajahnhgaaGreatKat
import Derived.Test.YtikojfajahnhgaaGreatKay
set_option linter.all false
set_option maxHeartbeats 12800000
set_option maxRecDepth 1000000
namespace Go.Proofs.YtikojfajahnhgaaGreat
open Go.RowKit Go.Proofs.Tryz
attribute [local go_sem ↓] wp_at_zero wp_at_succ
attribute [local simp] At I6 Pn mzI Bk
attribute [local go_sem] At I6 Pn Bk
variable{P:Prop}
section
open Go.Sort
def rW{α}[Inhabited α]{enc w O off m}{a:Array α}{os g}(c:g<w.heap.size)(b:g≠O):(grow (putRow enc (Sort.ahead w m) O off a) os).heap[g]?=w.heap[g]?:=by
 have d:(grow (putRow enc (Sort.ahead w m) O off a) os).heap[g]?=(putRow enc (Sort.ahead w m) O off a).heap[g]?:=Sort.heap_grow_old _ os (by rw[size_putRow];exact c);rw[d];show((Sort.ahead w m).heap.modify O _)[g]?=_;rw[YT];simp_all<;>omega
def nC(v a O w)(b:Bk w O #[.pointer a] 106)(c:BB w v)(d:BB w a) :
  Ca 221 #[.pointer v,Pn O] w λe w'=>e=.returned (.bool (decide (v=a)))/\w'=w:=by
 have f:=A8 b;have g:=mE c d;go_enter func221,ntmps221;exact RZ
abbrev Su(w:Aa):={p:Af // BB w p}
def uo(w:Aa):Su w:=⟨none,λa h=>by cases h⟩
def LH{w:Aa}(x:Su w):Value:=.pointer x.1
def zmT:∀args w,(callFunc 221 args).run prog w=.ok (.enter 221 args) w:=enters_of func221 qg rfl
def BB.bl{w w' p}(h:BB w p)(a:∀(g:Nat)c,Bk w g c 145->w'.heap[g]?=w.heap[g]?):BB w' p:=by grind[BB]
def zpE{α}[Inhabited α]{enc w g m}{d:Array α}{O e a}(b:w.heap[g]?=some (.cells O e a)):(putRow enc (Sort.ahead w m) g 0 d).heap[g]?=some (.cells (putCells enc 0 d O) e a):=by
 show(w.heap.modify g _)[g]?=_;rw[YT,if_pos rfl,b];rfl
def zkp{α}[Inhabited α]{enc}{xs ys:List α}{O}(h:(xs++ys).length<=O.size):(putCells enc 0 (xs++ys).toArray O).toList.take xs.length=xs.map enc:=by
 apply YH;intro i;by_cases a:i<xs.length
 .rw[YW,if_pos a,yE];have c:i<O.size:=by simp at h;omega
  have b:(putCells enc 0 (xs++ys).toArray O).toList[i]?=(putCells enc 0 (xs++ys).toArray O)[i]?:=qf;rw[b];unfold putCells;rw[Array.getElem?_mapIdx,WY c];have hl:i<(xs++ys).toArray.size:=by simp;omega
  simp only[Ws];rw[if_pos ⟨yn _,qd⟩,Nat.sub_zero,getElem!_pos _ i hl];simp[List.getElem_append_left a,a]
 all_goals grind
def zms(w base g cap O f)(xs:List (Su w))(b)(d:w.heap[g]?=some (.cells b 106 (0,0)))(G:base<=g)(E:xs.length<=cap)(s:cap<=maxLen)(m:b.size=cap)(C:b.toList.take xs.length=xs.map LH)(o:w.heap[O]?=some (.cells #[.pointer f] 106 (0,0)))(l:O≠g)(t:BB w f) :
  Ca 220 #[.slice (some ⟨g,0,none⟩) xs.length cap,.func (.func 221) #[] #[Pn O]] w λe w'=>
   e=.returned (.slice (some ⟨g,0,none⟩) (xs.filter λx=>!decide (x.1=f)).length cap)/\w'.ownsRow base 106 1 (.slice (some ⟨g,0,none⟩) (xs.filter λx=>!decide (x.1=f)).length cap) (xs.filter λx=>!decide (x.1=f)).length ((xs.filter λx=>!decide (x.1=f)).map LH)/\w.grownBy w' (some g)/\w'.heap.size=w.heap.size:=by
 letI:Inhabited (Su w):=⟨uo w⟩
 have M:g<w.heap.size:=(yk.1 d).1;have u:O<w.heap.size:=(yk.1 o).1;have B:Holds (LH (w:=w)) w g 0 xs.toArray:=λj hj=>by
  have r:j<xs.length:=TW;have A:xs[j]?=some xs[j]:=yK r;have hc:b.toList[j]?=some (LH xs[j]):=by
   have:=congrArg (·[j]?) C;simp only[YW,r,if_true,yE,A,Ws]at this;exact this
  have K:b[j]?=some (LH xs[j]):=NA;rw[getElem!_pos _ j hj];refine⟨?_,?_⟩
  .simp[World.cell?,d,K]
  simp[World.frozen?,d]
 have D:PredAt prog 221 #[Pn O] (LH (w:=w)) (λx=>decide (x.1=f)) w:=λW x i=>by
  refine(nC x.1 f O W ((i.block O u).c o) (x.2.bl λk c a=>i.block k (yk.1 a).1) (t.bl λk c a=>i.block k (yk.1 a).1)).j ?_;rintro e w' ⟨rfl,rfl⟩;exact⟨rfl,0,rfl⟩
 have I:PredOver prog 221 #[Pn O] (LH (w:=w)) (λx=>decide (x.1=f)) g 0 xs.toArray.size w:=λn os J x _=>by
  have far:∀(k:Nat)c,w.heap[k]?=some (.cells c 145 (0,0))->(sortWorld (LH (w:=w)) w g 0 n J os).heap[k]?=w.heap[k]?:=λk c a=>rW (yk.1 a).1 (λe=>by rw[e,d]at a;injection a with a;injection a with _ a;exact absurd a qi);refine(nC x.1 f O _ ((rW u l).c o) (x.2.bl far) (t.bl far)).j ?_;rintro e w' ⟨rfl,rfl⟩;exact⟨rfl,0,rfl⟩
 have v:=AnyE.slices_DeleteFunc delF (LH (w:=w)) (λ_=>rfl) (λx=>decide (x.1=f)) 221 #[Pn O] zmT (uo w) (λ_=>rfl) g 0 cap xs.toArray w D I B (by simp;unfold maxLen at s;omega) (by simpa using E);change Ca 220 #[.slice (some ⟨g,0,none⟩) xs.length cap,_] _ _ at v;refine v.j ?_;rintro e w' ⟨rfl,q,rfl⟩;have L:(xs.filter λx=>!decide (x.1=f)).length<=xs.length:=Yi _ _;have H:∀(y:Array (Su w))(k:Nat),k≠g->(putRow (LH (w:=w)) (Sort.ahead w q) g 0 y).heap[k]?=w.heap[k]?:=λy k p=>by
  show(w.heap.modify g _)[k]?=_;rw[YT,if_neg (λe=>p e.z)]
 refine⟨rfl,⟨qf,.inr ⟨g,cap,_,rfl,G,zpE d,qd,s,?_,?_⟩⟩,⟨rfl,rfl,rfl,by rw[size_putRow];exact yA _,λk _ p=>H _ k (λe=>p Ij)⟩,by rw[size_putRow];rfl⟩
 .simp[putCells,m]
 rw[Nat.mul_one];exact zkp qe
def pV(adr:F->Addr)(g:F):Value:=.pointer (some (adr g))
def kx{w adr}(a):∀(fs:Ab),(∀g∈fs,BB w (some (adr g)))->∃xs:List (Su w),xs.map LH=fs.map (pV adr)/\(xs.filter λx=>!decide (x.1=some a)).map LH=(fs.filter λg=>!decide (adr g=a)).map (pV adr)
 |[],_=>⟨[],rfl,rfl⟩
 |g::r,h=>by
  obtain⟨xs,c,h2⟩:=kx a r (λy b=>h y (YP _ b))
  refine⟨⟨some (adr g),h g Wm⟩::xs,?_,?_⟩
  .rw[yx,yx,c]
   rfl
  by_cases e:adr g=a
  .simp[e]
   simpa using h2
  simp[e]
  exact⟨rfl,qw⟩
def zoj(a w):Ca 220 #[.slice none 0 0,a] w λe w'=>e=.returned (.slice none 0 0)/\w'=w:=by
 have O:=AnyE.slices_IndexFunc_empty { delF with } none 0 a w;change Ca 237 _ _ _ at O;have b:=Ad O;go_enter func220,ntmps220;go_wp2_with fail;refine b.j ?_;rintro e c ⟨rfl,rfl⟩;exact RZ
def zop(w base c b O adr)(fs:Ab)(a)(l:w.ownsRow base 106 1 (.slice c fs.length b) fs.length (fs.map (pV adr)))(p:∀g∈fs,BB w (some (adr g)))(t:BB w (some a))(y:Bk w O #[.pointer (some a)] 106)(d:∀g,(Value.slice c fs.length b).ownBlock=some g->g≠O) :
  Ca 220 #[.slice c fs.length b,.func (.func 221) #[] #[Pn O]] w λe w'=>
   e=.returned (.slice c (fs.filter λg=>!decide (adr g=a)).length b)/\w'.ownsRow base 106 1 (.slice c (fs.filter λg=>!decide (adr g=a)).length b) (fs.filter λg=>!decide (adr g=a)).length ((fs.filter λg=>!decide (adr g=a)).map (pV adr))/\w.grownBy w' (Value.slice c fs.length b).ownBlock:=by
 rcases l.2 with⟨e,q⟩|⟨g,cap,v,e,B,A,C,r,s,u⟩
 .obtain rfl:fs=[]:=Wb.1 q;simp only[YU,Y0,true_and]at e;obtain⟨rfl,rfl⟩:=e;refine(zoj _ w).j ?_;rintro e w' ⟨rfl,rfl⟩;exact⟨rfl,l,⟨rfl,rfl,rfl,yA _,λ_ _ _=>rfl⟩⟩
 simp only[Y0,true_and]at e;obtain⟨rfl,rfl⟩:=e;obtain⟨xs,k,m⟩:=kx (w:=w) a fs p;have hl:xs.length=fs.length:=by simpa using congrArg List.length k
 have f:(xs.filter λx=>!decide (x.1=some a)).length=(fs.filter λg=>!decide (adr g=a)).length:=by simpa using congrArg List.length m
 have i:=zms w base g b O (some a) xs v A B qd r qd (by rw[hl,k,<-u,Nat.mul_one]) y (λe=>d g rfl e.z) t;rw[hl]at i;refine i.j ?_;rintro e w' ⟨rfl,n,o,_⟩;rw[f,m]at n;rw[f];exact⟨rfl,n,o⟩
def NF.eH{w w7 w8 base gb mb a d L bs V QQ m b x v Q' fa fc}(h:NF w base gb mb a d L bs V QQ)(hx:L[m]?=some x)(hb:bs[m]?=some b)(hv:V[m]?=some v)(hbase:base<=w.heap.size)(ho7:w7.ownsRow base 106 1 (.slice fa (C8 x.1 Q').length fc) (C8 x.1 Q').length ((C8 x.1 Q').map Prod.fst))(hg7:w.grownBy w7 v.ownBlock)(hl7:∀g,(Value.slice fa (C8 x.1 Q').length fc).ownBlock=some g->v.ownBlock=some g)(hN8:Gk w8 b x m (.slice fa (C8 x.1 Q').length fc))(ht8:Turned w7 w8 b) :
  NF w8 base gb mb a d L bs (V.set m (.slice fa (C8 x.1 Q').length fc)) (λi=>if i=m then Q' else QQ i)/\EB base w w8:=by
 exact ur
def EV(adr:F->Addr)(fs:Ab):Fs:=fs.map λg=>(pV adr g,g)
def U_{x adr fs}:C8 x (EV adr fs)=EV adr (fs.filter (Ah x)):=by
 unfold C8 EV;rw[YV];rfl
def Zu{adr fs}:(EV adr fs).map Prod.fst=fs.map (pV adr):=by
 unfold EV;rw[Yl];rfl
def Pu{adr fs}:(EV adr fs).length=fs.length:=by simp[EV]
def rf{α:Type}{p q}{l:List α}:(l.filter p).filter q=(l.filter q).filter p:=by grind[List.filter_filter]
def BB.ft{base w w' p}(h:BB w p)(d:EB base w w'):BB w' p:=λa O=>by
 obtain⟨c,b⟩:=h a O;exact⟨c,d.kept _ _ _ _ b qi qi⟩
def ztl(base n mb K E L j V adr fs a w)(hp:∀g∈fs,BB w (some (adr g)))(ha:BB w (some a))(B:NF w base n mb K E L j V (λ_=>EV adr fs))(hB:base<=w.heap.size)(hL:L.length<=1000) :
  Ca 160 #[.pointer (some ⟨n,0,none⟩),.pointer (some a)] w λe w'=>e=.returned (.tuple #[])/\(∃V',NF w' base n mb K E L j V' (λ_=>EV adr (fs.filter λg=>!decide (adr g=a))))/\EB base w w':=by
 obtain⟨HP,HA⟩:=An hp ha;have ai:∀x:Al,C8 x (EV adr (fs.filter λg=>!decide (adr g=a)))=EV adr ((fs.filter (Ah x)).filter λg=>!decide (adr g=a)):=λx=>by rw[U_,rf]
 have N:=Ad ai;obtain⟨W,r⟩:=AF (w.alloc (.cells #[.pointer (some a)] 106 (0,0)));have Y:Bw w W:=by rw[r];exact Ar
 have ah:=Ad (B.C Y);have aq:Bk W (w.heap.size) #[.pointer (some a)] 106:=by rw[r];exact heap_alloc_new w _
 have ao:=Ad aq;have ar:Hid (∀(i:Nat)(u:Value),V[i]?=some u->∀g,u.ownBlock=some g->g<w.heap.size):=by
  intro i u hu g d;have hi:i<V.length:=(yf.1 hu).1;have e1:=B.aP;have e2:=B.aW;exact((B.node i (L[i]'(by omega)) (j[i]'(by omega)) u qf qf hu).2.2.2.lt g d).2
 have aC:=Ad Y;have aE:W.heap.size=w.heap.size+1:=by rw[r];simp
 obtain⟨⟨g0,g1⟩,_,aF⟩:=ah.box.J;subst r;go_enter func160,ntmps160;go_wp2_with fail
 go_loopw [11] (λiv wr=>∃(k:Nat)(V':Aj),iv=.int .i64 (k:Int)/\k<=L.length/\NF wr base n mb K E L j V' (λi=>if i<k then EV adr (fs.filter λg=>!decide (adr g=a)) else EV adr fs)/\EB base w wr/\Bk wr (w.heap.size) #[.pointer (some a)] 106/\(∀(i:Nat)(u:Value),V'[i]?=some u->∀g,u.ownBlock=some g->g<w.heap.size)) (mz L.length)
 .exact⟨0,V,rfl,yn _,ah.same (λi x _=>qf),EB.u aC qd,ao,ar⟩
 obtain⟨k,V',rfl,aI,aw,Z,aA,aD⟩:=hrel;obtain⟨NR,FR,A,p⟩:=BP aw Z aA aD;have aH:=Z.rest.size;by_cases s:k<L.length
 .obtain⟨x,R⟩:=Bq s;obtain⟨nb,D⟩:∃b,j[k]?=some b:=⟨j[k]'(by rw[NR.o.aW];exact s),qf⟩
  obtain⟨v,hv⟩:∃v,V'[k]?=some v:=⟨V'[k]'(by rw[NR.o.aP];exact s),qf⟩
  obtain⟨rb,rfl,_,r0,_⟩:=CG NR.row (show(Gb j)[k]?=some (.pointer (some ⟨nb,0,none⟩)) by simp[Gb,D]);obtain⟨f,n2,⟨fa,fc,rfl⟩,I⟩:=NR.node k x nb v R D hv;simp only[WR,if_false,U_,Pu,Zu]at hv f I;have H:∀g,(Value.slice fa (fs.filter (Ah x.1)).length fc).ownBlock=some g->g≠w.heap.size:=λg d e=>by
   have:=p k _ hv g d;omega
  have HD:=Ad (zop wr base fa fc w.heap.size adr (fs.filter (Ah x.1)) a I (λg d=>(HP g (yh.1 d).1).ft FR) (HA.ft FR) A H);obtain⟨z0,z1⟩:=CZ s;obtain⟨HX,aB,O,N1,N4⟩:=Ei R D hv f I;obtain⟨⟨_,_,_,y4⟩,_,aG⟩:=f.J;go_wp2_with fail;refine HD.rtn λw7⟨M,l⟩=>?_;obtain⟨N7,az,T⟩:=AK (show Gk w7 nb x k (.slice fa (fs.filter (Ah x.1)).length fc) from E5 N1 l (λg d=>A7 N4 d) qi) M l;obtain⟨_,z4,_⟩:=N7.J;go_upto_region 5 with fail;refine sJ N7 ?_;intro w8 G m;have hR:=NF.eH (QQ:=λi=>if i<k then EV adr (fs.filter λg=>!decide (adr g=a)) else EV adr fs) (Q':=EV adr (fs.filter λg=>!decide (adr g=a))) (fa:=fa) (fc:=fc) NR HX aB O qd (by rw[N.o,Pu,Zu];exact az) T (by rw[N.o,Pu];intro g d;cases fa with|none=>cases d|some a'=>exact d) (by rw[N.o,Pu,YC];exact G) m;have U:=Ad hR;have ay:Hid (Bk w8 (w.heap.size) #[.pointer (some a)] 106):=by
   have hlt:=(yk.1 A).1;have t:w.heap.size≠nb:=λe=>by
    have f:=N1.o;unfold Gk at f;rw[<-e,A.o]at f;injection f with f;injection f with _ f;exact absurd f qi
   have q:some w.heap.size≠(Value.slice fa (fs.filter (Ah x.1)).length fc).ownBlock:=λe=>by
    have:=p k _ O _ e.z;omega
   exact(m.block _ t).c ((T.block _ hlt q).c A)
  have au:Hid (∀(i:Nat)(u:Value),(V'.set k (.slice fa (C8 x.1 (EV adr (fs.filter λg=>!decide (adr g=a)))).length fc))[i]?=some u->∀g,u.ownBlock=some g->g<w.heap.size):=by
   intro i u hu g d;by_cases hi:i=k
   .subst hi;have hlt:=(yf.1 O).1;rw[Y3 hlt]at hu;cases hu;refine p i _ O g ?_;cases fa with
    |none=>cases d
    |some a'=>exact d
   rw[YO (λe=>hi e.z)]at hu;exact p i u hu g d
  go_wp2;go_roundw
  case rel=>
   refine⟨k+1,_,qm,qd,U.1.same (λi y hy=>?_),FR.c U.2,ay,au⟩;by_cases t:i<k
   .simp[t,show i<k+1 by omega,show i≠k by omega]
   .by_cases q:i=k
    .subst q;simp
    .simp[t,q,show¬i<k+1 by omega]
  case measure=>(simp;omega)
 have ax:k=L.length:=qd;subst ax;exact ix
end
def Sl:A5->Nat->Nat
 |[],_=>0
 |x::l,b=>if x=b then 0 else Sl l b+1
def yU:∀{l:A5}{i b:Nat},l[i]?=some b->l[Sl l b]?=some b:=by intro l;induction l<;>grind[Sl]
def GV(L:CD)(bs:A5)(V:Aj)(fs:Ab):Vw:=λb=>
 match V[Sl bs b]?,L[Sl bs b]? with
 |some (.slice a _ c),some x=>(a,c,fs.filter (Ah x.1))
 |_,_=>(none,0,[])
def NF.inj{w base d mb e f L a V QQ}(h:NF w base d mb e f L a V QQ){i j b:Nat}(c:a[i]?=some b)(hj:a[j]?=some b):i=j:=by
 have g:=h.aW;have l:=h.aP;have k:=(yf.1 c).1;have O:=(yf.1 hj).1;exact(h.node i (L[i]'(by omega)) b (V[i]'(by omega)) qf c qf).1.num (h.node j (L[j]'(by omega)) b (V[j]'(by omega)) qf hj qf).1
def XR{w base f mb j k L a V adr fs}(h:NF w base f mb j k L a V (λ_=>EV adr fs)){i b:Nat}{x}(c:L[i]?=some x)(d:a[i]?=some b):∃fa fc,V[i]?=some (.slice fa (fs.filter (Ah x.1)).length fc)/\GV L a V fs b=(fa,fc,fs.filter (Ah x.1)):=by
 have m:=h.aP;have l:=(yf.1 c).1;obtain⟨v,hv⟩:∃v,V[i]?=some v:=⟨V[i]'(by omega),qf⟩
 obtain⟨_,_,⟨fa,fc,e⟩,_⟩:=h.node i x b v c d hv;rw[U_,Pu]at e;subst e;refine⟨fa,fc,hv,?_⟩;have g:Sl a b=i:=h.inj (yU d) d;simp only[GV,g,hv,c]
def PD.dZ{w B ca cc g f X k a}{L:CD}(h:PD w B ca cc g f X k (L.map Prod.fst) a):∀c∈X,∃(i:Nat)(x:QS),L[i]?=some x/\x.1=c.cp.H/\a[i]?=some c.node:=λc j=>by
 obtain⟨i,b,e⟩:=h.aI c j;rw[yE]at b;obtain⟨x,d,O⟩:=Ye.1 b;exact⟨i,x,d,O,e⟩
def PD.eI{w B base A mb I D L l V adr fs ca X cc N E K U}(h:PD w B ca cc N E X K (L.map Prod.fst) l)(o:NF w base A mb I D L l V (λ_=>EV adr fs))(C:JB adr U w)(T:∀f∈fs,f∈U):(∀(k:Nat)(c:Cx),X[k]?=some c->Eb adr (GV L l V fs) ca w k c)/\∀c∈X,gV (GV L l V fs) c=fs.filter (Ah c.cp.H):=by
 refine⟨λi c d=>?_,λc d=>?_⟩
 .have key:=λj u(hj:(Ly c)[j]?=some u)=>CG h.conds (Hf (cells:=Ly) (m:=4) (λ_=>rfl) X i c j u d hj);obtain⟨k,p,_,h0,_⟩:=key 0 _ rfl;obtain⟨Y,t,_,h1,_⟩:=key 1 _ rfl;obtain⟨Z,r,_,h2,_⟩:=key 2 _ rfl;obtain⟨W,v,_,h3,_⟩:=key 3 _ rfl;rw[p]at t r v;cases t;cases r;cases v;have z:=yd d;obtain⟨n,x,a,q,b⟩:=h.dZ c z;obtain⟨fa,fc,hv,O⟩:=XR o a b;obtain⟨M,_,_,s⟩:=o.node n x c.node _ a b hv;obtain⟨⟨_,_,_,R⟩,_⟩:=M.J;rw[U_,Pu,Zu]at s;refine⟨k,p,⟨qK,qx,qw,OM⟩,EJ.owns (h.y c z),?_,?_⟩
  .rw[O];exact R
  rw[O];intro j f hj;obtain⟨g,e,_,G,_⟩:=CG s (show((fs.filter (Ah x.1)).map (pV adr))[j]?=some (pV adr f) by rw[yE,show(fs.filter (Ah x.1))[j]?=some f from hj];rfl);exact⟨g,0,e,by simpa[pV] using G,C f (T f (yh.1 (yd hj)).1)⟩
 obtain⟨n,x,a,q,b⟩:=h.dZ c d;obtain⟨fa,fc,hv,O⟩:=XR o a b;unfold gV;rw[O,<-q]
def PD.aV{w B base j mb r l L b V adr fs m cc y q u U}(h:PD w B m.ca cc y q m.X u (L.map Prod.fst) b)(d:NF w base j mb r l L b V (λ_=>EV adr fs))(g:Ch adr U w)(k:∀f∈fs,f∈U):IR m adr U (GV L b V fs) w/\∀c∈m.X,gV (GV L b V fs) c=fs.filter (Ah c.cp.H):=by
 obtain⟨o,t⟩:=h.eI d g.a k;refine⟨⟨o,λc s=>?_,g⟩,t⟩;obtain⟨n,x,e,v,i⟩:=h.dZ c s;obtain⟨fa,fc,hv,A⟩:=XR d e i;obtain⟨p,z,O⟩:=(d.node n x c.node _ e i hv).1.nd (d.aM x (yd e));rw[v]at O;exact⟨p,z,O⟩
def k9{U fs:Ab}{X vw}(e:∀c∈X,gV vw c=fs.filter (Ah c.cp.H))(O:∀f∈fs,f∈U)(b:fs.Nodup)(hl:fs.length<=900):FL U X (gV vw):=λc d=>by
 rw[e c d];exact⟨λf a=>yh.2 ⟨O f (yh.1 a).1,(yh.1 a).2⟩,b.sublist Yt,yi (Yi _ _) hl⟩
def zqB{p fs f}:Hp 1 (p f) f (fs.filter p) ((fs++[f]).filter p):=by simp_all[Hp]
def zrp{p adr}{U fs:Ab}{f}(k:BV adr U)(O:∀g∈fs,g∈U)(l:fs.Nodup)(d:f∈fs):Hp (-1) (p f) f (fs.filter p) ((fs.filter λg=>!decide (adr g=adr f)).filter p):=by
 have e:∀g∈fs,adr g=adr f↔g=f:=λg a=>⟨λq=>k g (O g a) f (O f d) q,λq=>by rw[q]⟩
 rw[rf];unfold Hp;cases h:p f
 .rw[if_neg qi];refine Yp.2 λg a=>?_;obtain⟨i,c⟩:=yh.1 a;have:adr g≠adr f:=λq=>by
   rw[(e g i).1 q,h]at c;cases c
  simp[this]
 rw[if_pos rfl,if_neg qi];have j:f∈fs.filter p:=yh.2 ⟨d,h⟩;have b:(fs.filter p).Nodup:=l.sublist Yt;refine(Wn b (Yo.2 ⟨λq=>by simpa using(yh.1 q).2,b.sublist Yt⟩)).2 λg=>?_;rw[yW,yh (p:=λg=>!decide (adr g=adr f))];constructor
 .intro q;by_cases q':g=f
  .exact .inl q'
  exact .inr ⟨q,by simpa usingλr=>q' ((e g (yh.1 q).1).1 r)⟩
 rintro(q|q)
 .exact q▸j
 exact q.1
section
open Go.Maps
def ztE (b w):Sem.run prog (method 525 248 (Pn b) "loop.example/s01311/impl.add") w=.ok (301,Pn b) w:=by kernel_rfl
def zsj (b w):Sem.run prog (method 525 256 (Pn b) "loop.example/s01311/impl.add") w=.ok (306,Pn b) w:=by kernel_rfl
def ztx (b w):Sem.run prog (method 525 248 (Pn b) "loop.example/s01311/impl.remove") w=.ok (303,Pn b) w:=by kernel_rfl
def zsV (b w):Sem.run prog (method 525 256 (Pn b) "loop.example/s01311/impl.remove") w=.ok (308,Pn b) w:=by kernel_rfl
def ztQ (b w):Sem.run prog (method 525 248 (Pn b) "loop.example/s01311/impl.size") w=.ok (304,Pn b) w:=by kernel_rfl
def ztj (b w):Sem.run prog (method 525 256 (Pn b) "loop.example/s01311/impl.size") w=.ok (309,Pn b) w:=by kernel_rfl
def wZ (b w):Sem.run prog (method 525 248 (Pn b) "loop.example/s01311/impl.conflict") w=.ok (302,Pn b) w:=by kernel_rfl
def wK (b w):Sem.run prog (method 525 256 (Pn b) "loop.example/s01311/impl.conflict") w=.ok (307,Pn b) w:=by kernel_rfl
structure Ic(adr:F->Addr) (fs:Ab) (D:DataW Unit):Prop where
 cI:∀t:Int,Maps.has D (.int .i64 t)=true↔∃f∈fs,f.tag=t
 Y:∀f∈fs,∀zd,D.atKey (.int .i64 f.tag) zd=.lit (.int .i64 ((adr f).block:Int))
def Qu(t):WideAt.IsKeyLit (.int .i64 t):=trivial
def Ic.put{adr adr' fs D f b}(h:Ic adr fs D)(c:IsMap D)(O:∀g∈fs,adr' g=adr g)(i:adr' f=⟨b,0,none⟩)(d:∀g∈fs,g.tag≠f.tag):Ic adr' (fs++[f]) (D.put (.int .i64 f.tag) (.lit (.int .i64 (b:Int)))):=by
 refine⟨λt=>?_,λg a j=>?_⟩
 .by_cases e:t=f.tag
  .subst e;rw[has_put_same c (Qu _)];exact⟨λ_=>⟨f,qf,rfl⟩,λ_=>rfl⟩
  rw[has_put_other (λq=>e (by injection q)),h.cI];constructor
  .rintro⟨g,a,q⟩;exact⟨g,by simp[a],q⟩
  rintro⟨g,a,q⟩;rcases yp.1 a with a|a
  .exact⟨g,a,q⟩
  rw[yw.1 a]at q;exact absurd q.z e
 rcases yp.1 a with a|a
 .rw[atKey_put_other (λq=>d g a (by injection q)),h.Y g a,O g a]
 rw[yw.1 a,atKey_put_same c (Qu _),i]
def Ic.del{adr U fs D f}(h:Ic adr fs D)(j:BV adr U)(O:∀g∈fs,g∈U)(d:f∈fs)(i:∀g∈fs,∀k∈fs,g.tag=k.tag->g=k):Ic adr (fs.filter λg=>!decide (adr g=adr f)) (D.del (.int .i64 f.tag)):=by
 have key:∀g∈fs,(g.tag=f.tag↔adr g=adr f):=λg a=>⟨λq=>by rw[i g a f d q],λq=>by rw[j g (O g a) f (O f d) q]⟩
 refine⟨λt=>?_,λg a l=>?_⟩
 .by_cases e:t=f.tag
  .subst e;rw[has_del_same];refine⟨λq=>Qj,?_⟩;rintro⟨g,a,q⟩;obtain⟨b,c⟩:=yh.1 a;simp[(key g b).1 q]at c
  rw[has_del_other (λq=>e (by injection q)),h.cI];constructor
  .rintro⟨g,a,q⟩;exact⟨g,yh.2 ⟨a,by simpa usingλr=>e (by rw[<-q];exact(key g a).2 r)⟩,q⟩
  rintro⟨g,a,q⟩;exact⟨g,(yh.1 a).1,q⟩
 obtain⟨b,c⟩:=yh.1 a;rw[atKey_del_other (λq=>by injection q with _ q;simp[(key g b).1 q]at c),h.Y g b]
structure NT where
 nw:Nat
 gb:Nat
 mb:Nat
 base:Nat
 la:Af
 lc:Nat
 L:CD
 bs:A5
 fb:Nat
 ma:Af
 mc:Nat
 Ms:List MK
 B:Nat
structure G_(N:NT):Prop where
 ok:∀m∈N.Ms,m.Ok
 apart:∀(i j:Nat)(m m':MK),N.Ms[i]?=some m->N.Ms[j]?=some m'->i≠j->∀g,m.S g->¬m'.S g
 dr:∀m∈N.Ms,¬m.S N.fb
 cr:∀x∈N.L,x.1.y.length<=1048576
 len:N.L.length<=1000
 cJ:N.Ms.length<=1000
 dQ:∀m∈N.Ms,∀g,m.S g->N.base<=g
 eJ:N.base<=N.fb
structure Fj(N:NT) (adr:F->Addr) (U fs:Ab) (V:Aj) (w:Aa):Prop where
 box:Bk w (N.nw) #[.pointer (some ⟨N.gb,0,none⟩),.map (some N.fb),.slice N.ma N.Ms.length N.mc] 159
 nf:NF w N.base N.gb N.mb N.la N.lc N.L N.bs V (λ_=>EV adr fs)
 row:w.ownsRow N.B 165 1 (.slice N.ma N.Ms.length N.mc) N.Ms.length (N.Ms.map MK.val)
 pd:∀m∈N.Ms,∃cc va vc Vs,PD w N.B m.ca cc va vc m.X Vs (N.L.map Prod.fst) N.bs
 us:Jg adr U w
 hb:N.base<=w.heap.size
structure Id(adr:F->Addr) (U fs:Ab):Prop where
 inj:BV adr U
 sub:∀f∈fs,f∈U
 nd:fs.Nodup
 few:fs.length<=900
def NT.vw(N:NT)(V:Aj)(fs:Ab):Vw:=GV N.L N.bs V fs
def Db(N:NT)(adr:F->Addr)(U:Ab)(vw:Vw)(g:Nat->Cx->Ab)(olds:C_)(w:Aa):Prop:=∀(i:Nat)(m:MK)(old:Av),N.Ms[i]?=some m->olds[i]?=some old->m.St adr U vw (g i) old w
def Fj.aV{N adr U fs V w}(h:Fj N adr U fs V w)(a:Id adr U fs){m}(e:m∈N.Ms):IR m adr U (N.vw V fs) w/\(∀c∈m.X,gV (N.vw V fs) c=fs.filter (Ah c.cp.H))/\FL U m.X (gV (N.vw V fs)):=by
 obtain⟨cc,g,j,i,d⟩:=h.pd m e;obtain⟨f,b⟩:=d.aV h.nf h.us.J a.sub;exact⟨f,b,k9 b a.sub a.nd a.few⟩
end
def t8(h:P:=by exact⟨⟨k+1,_,by go_num,by omega,rfl,trivial⟩,by simp[intOf];omega⟩):=h
def zqa(N)(l:G_ N)(adr U fs V a w)(h:Fj N adr U fs V w)(hF:Id adr U fs)(r:Db N adr U (N.vw V fs) (λ_=>gV (N.vw V fs)) a w)(q:a.length=N.Ms.length) :
  Ca 47 #[.pointer (some ⟨N.nw,0,none⟩)] w λe w'=>(∃z,e=.returned (.int .i64 z))/\w'=w:=by
 obtain⟨y,x,W,J,D⟩:=Ei h hF r q l;have M:=Bf (L:=[_,_,_]) h.box (j:=2) rfl;obtain⟨A,i⟩:=AF N.ma;rw[<-i]at M;have C:=Ad i;clear i;have aq:=l.cJ;clear h hF r q l;go_enter func47,ntmps47;go_wp2
 go_loopw [3,11] (λI iv wr=>∃(k:Nat)(s:Int),iv=.int .i64 (k:Int)/\k<=N.Ms.length/\I=.int .i64 s/\wr=w) (λ_ iv _=>N.Ms.length-(intOf iv).toNat)
 .exact⟨0,0,rfl,yn _,rfl,rfl⟩
 obtain⟨k,s,rfl,ao,rfl,rfl⟩:=hrel;by_cases g:k<N.Ms.length
 .obtain⟨m,b⟩:=Bq g;obtain⟨old,O⟩:∃o,a[k]?=some o:=⟨a[k]'(by rw[J.o];exact g),qf⟩
  have f:=yd b;obtain⟨rb,B,_,p,_⟩:=CG y.row (show(N.Ms.map MK.val)[k]?=some m.val by rw[yE,b];rfl);obtain⟨Y,G,n⟩:=y.aV x f;have d:=Ad (zqv m adr U (N.vw V fs) old wr (W k m old b O) (D.ok m f) x.inj n);obtain⟨Z,z1⟩:=CZ g;have K:=C.c B;subst K;clear b O f Y G n B;cases m with
  |inl H=>
   obtain⟨R,c⟩:=H;simp only[MK.val,MK.dn,MK.bv]at d p;have E:=λu=>ztQ R.rb u;go_wp2_with (first|(go_at_call 304;refine d.j ?_;rintro e T ⟨⟨z,rfl⟩,rfl⟩)|fail);exact t8
  |inr t=>
   simp only[MK.val,MK.dn,MK.bv]at d p;have E:=λu=>ztj t.mb u;go_wp2_with (first|(go_at_call 309;refine d.j ?_;rintro e T ⟨⟨z,rfl⟩,rfl⟩)|fail);exact t8
 obtain rfl:k=N.Ms.length:=qd;have hy:¬(N.Ms.length:Int)<(N.Ms.length:Int):=qd;go_wp2;exact bodyPost_ret (v:=.int .i64 s) (by simp[results,results47,go_sem]) rfl ⟨⟨_,rfl⟩,rfl⟩
section
open Go.Maps
def UP{w w' base e m v n xs}(h:w.ownsRow base e m v n xs)(a:CK w w'):w'.ownsRow base e m v n xs:=by grind[CK,A7,Ci]
theorem NF.W{w w' base e mb f g L j V QQ}(h:NF w base e mb f g L j V QQ)(a:CK w w'):NF w' base e mb f g L j V QQ:=
 ⟨a _ _ _ _ h.box,UP h.row a,h.aW,h.aP,λi x b v c d hv=>by
  obtain⟨k,l,m,n⟩:=h.node i x b v c d hv
  exact⟨a _ _ _ _ k,l,m,UP n a⟩,λx c=>⟨(h.aM x c).1,UP (h.aM x c).2 a⟩,h.apart⟩
theorem Fj.W{N adr U fs V w w'}(h:Fj N adr U fs V w)(a:CK w w')(d:w.heap.size<=w'.heap.size):Fj N adr U fs V w':=
 ⟨a _ _ _ _ h.box,h.nf.W a,UP h.row a,λm i=>by
  obtain⟨cc,g,e,j,b⟩:=h.pd m i
  exact⟨cc,g,e,j,b.ar λk c t l f _=>a _ _ _ _ f⟩,h.us.W a,yi h.hb d⟩
structure EP(N:NT) (w w':Aa):Prop where
 rest:Below 0 w w'
 kept:∀(k:Nat)(c:Bl)(t:TypeId)(fr:Nat × Nat),w.heap[k]?=some (.cells c t fr)->t≠247->t≠106->w'.heap[k]?=some (.cells c t fr)
 ao:∀(k:Nat)(o:Obj),w.heap[k]?=some o->(∀c t fr,o≠.cells c t fr)->k≠N.fb->(∀m∈N.Ms,¬m.S k)->w'.heap[k]?=some o
 low:∀b,b<=N.base->b<=w.heap.size->Below b w w'
def EP.refl(N w):EP N w w:=⟨Au,λ_ _ _ _ h _ _=>h,λ_ _ h _ _ _=>h,λ_ _ _=>Au⟩
def EP.c{N u v w}(h:EP N u v)(k:EP N v w):EP N u w:=⟨h.rest.c k.rest,λj c t f hj a d=>k.kept j c t f (h.kept j c t f hj a d) a d,λj o hj e a d=>k.ao j o (h.ao j o hj e a d) e a d,λb a d=>(h.low b a d).c (k.low b a (yi d h.rest.size))⟩
def EP.dq{N w w'}(h:EB N.base w w'):EP N w w':=⟨h.rest.j (yn _),h.kept,λk o b c _ _=>h.ao k o b c,λ_ a _=>h.rest.j a⟩
def EP.aF{N S w w'}(i:G_ N)(j:CK w w')(a:AM S w w')(f:∀g,S g->g=N.fb∨∃m∈N.Ms,m.S g):EP N w w':=⟨a.rest,λk c t p d _ _=>j k c t p d,λk o d _ l n=>(a.block k (yk.1 d).1 (λq=>by
 rcases f k q with e|⟨m,O,e⟩
 .exact l e
 .exact n m O e)).c d,λb u r=>⟨a.rest.os,a.rest.tape,a.rest.output,a.rest.size,λk s=>a.block k qd (λq=>by
 rcases f k q with e|⟨m,O,e⟩
 .have:=i.eJ;omega
 have:=i.dQ m O k e;omega)⟩⟩
def CK.an{w w' b}(f:w.grownBy w' (some b))(d:∀c t a,w.heap[b]?≠some (.cells c t a)):CK w w':=λg c t a h=>(f.block g (Ap h) (λe=>by injection e with e;exact d c t a (e▸h))).c h
def AM.an{w w' b}(a:w.grownBy w' (some b)):AM (λg=>g=b) w w':=⟨⟨a.os,a.tape,a.output,a.size,λ_ h=>absurd h qd⟩,λg hl c=>a.block g hl (λe=>c MT)⟩
def rC{w:Aa}{k b n D}(h:w.ownsMap prog k Ck b n D):∀c t a,w.heap[b]?≠some (.cells c t a):=by grind[Ck,Lt]
def Db.keep{N adr U vw g a S w w'}(h:Db N adr U vw g a w)(e:CK w w')(d:AM S w w')(c:∀m∈N.Ms,∀x,m.S x->¬S x):Db N adr U vw g a w':=λi m old b f=>(h i m old b f).keep e d (c m (yd b))
def zqX{adr adr' fs}(h:∀f∈fs,adr' f=adr f):EV adr' fs=EV adr fs:=Ym λf a=>by
 unfold pV;rw[h f a]
def uH(h:P:=by obtain⟨cc,va,vc,Vs,hp⟩:=h.pd m hm;exact⟨cc,va,vc,Vs,hp.ar λk c t fr hg ht=>O.kept _ _ _ _ hg (by rcases ht with rfl|rfl|rfl<;>decide) (by rcases ht with rfl|rfl|rfl<;>decide)⟩):=h
def Fj.bS{N adr adr' U fs V d f w w'}(h:Fj N adr U fs V w)(O:EB N.base w w')(a:NF w' N.base N.gb N.mb N.la N.lc N.L N.bs d (λ_=>EV adr fs++[(.pointer (some (adr' f)),f)]))(b:∀g∈U,adr' g=adr g)(i:∀g∈fs,g∈U)(j:Dc w (adr' f) f):Fj N adr' (U++[f]) (fs++[f]) d w':=by
 have e:EV adr fs++[(.pointer (some (adr' f)),f)]=EV adr' (fs++[f]):=by
  unfold EV;rw[yz];congr 1;exact(zqX (λg hg=>b g (i g hg))).z
 rw[e]at a;refine⟨O.kept _ _ _ _ h.box qi qi,a,O.aa h.row qi qi,λm hm=>?_,λg hg=>?_,yi h.hb O.rest.size⟩
 .exact uH
 rcases yp.1 hg with hg|hg
 .rw[b g hg];exact(h.us g hg).ft O
 rw[yw.1 hg];exact j.ft O
def Fj.bk{N adr U fs a V b w w'}(h:Fj N adr U fs V w)(O:EB N.base w w')(d:NF w' N.base N.gb N.mb N.la N.lc N.L N.bs b (λ_=>EV adr a)):Fj N adr U a b w':=by
 refine⟨O.kept _ _ _ _ h.box qi qi,d,O.aa h.row qi qi,λm hm=>?_,h.us.ft O,yi h.hb O.rest.size⟩;exact uH
def Id.bS{adr adr' U fs f}(h:Id adr U fs)(d:BV adr' (U++[f]))(j:f ∉ U)(hl:fs.length<900):Id adr' (U++[f]) (fs++[f]):=
 ⟨d,λg c=>by
  rcases yp.1 c with c|c
  .exact Ww _ (h.sub g c)
  exact YD _ c,yL.2 ⟨h.nd,qf,λa O b i e=>j (by rw[<-yw.1 i,<-e];exact h.sub a O)⟩,qe⟩
def Id.bk{adr U fs p}(h:Id adr U fs):Id adr U (fs.filter p):=
 ⟨h.inj,λg a=>h.sub g (yh.1 a).1,h.nd.sublist Yt,yi (Yi _ _) h.few⟩
def Db.bF{N adr adr' U O fs b V f a w w'}(h:Db N adr U (N.vw V fs) (λ_=>gV (N.vw V fs)) a w)(q:G_ N)(l:Fj N adr U fs V w)(hF:Id adr U fs)(d:Fj N adr' O b f w')(j:Id adr' O b)(o:∀g∈U,adr' g=adr g)(p:EB N.base w w'):Db N adr' O (N.vw f b) (λ_=>gV (N.vw V fs)) a w':=λi m old e n=>by
 have c:=yd e;exact(h i m old e n).bF (q.ok m c) o (l.aV hF c).2.2 (d.aV j c).1 p.k
def FL.more{U O X g}(h:FL U X g)(a:∀f∈U,f∈O):FL O X g:=by grind[Ah,FL]
def Db.next{N adr U vw g d a k m old w w'}(h:Db N adr U vw (λi=>if i<k then d else g) a w)(p:G_ N)(f:N.Ms[k]?=some m)(n:a[k]?=some old)(o:m.St adr U vw d old w')(l:CK w w')(j:AM m.S w w'):Db N adr U vw (λi=>if i<k+1 then d else g) a w':=λi m' O b c=>by
 by_cases e:i=k
 .subst e;rw[f]at b;rw[n]at c;cases b;cases c;simpa using o
 have:=(h i m' O b c).keep l j (p.apart i k m' m b f e);by_cases q:i<k
 .simpa[q,show i<k+1 by omega] using this
 simpa[q,show¬i<k+1 by omega] using this
def th(h:P:=by have hi:=(yf.1 h1).1;simpa[hi] using MR.o i m old h1 h2):=h
def s9(h:P:=by exact⟨0,rfl,yn _,λi m old h1 h2=>by simpa using M2.o i m old h1 h2,λ_ _ _ _ h=>h,AM.refl _ _⟩):=h
def uK(h:P:=by
 go_wp2_with fail;refine HS.rtn λw3⟨aB,O,af⟩=>?_;obtain⟨ao,am,ax⟩:=AK (MR.next HN HX aF aB O af) (CR.c O) (PR.c (af.j λg hg=>⟨_,aC,hg⟩));go_wp2;exact⟨⟨k+1,by go_num,by omega,ao,am,ax⟩,by simp;omega⟩
 ):=h
def ztw(N)(r:G_ N)(adr adr' U fs V a n D f b w)(h:Fj N adr U fs V w)(hF:Id adr U fs)(hM:Db N adr U (N.vw V fs) (λ_=>gV (N.vw V fs)) a w)(ho:a.length=N.Ms.length)(C:w.ownsMap prog 3 Ck N.fb n D)(hI:Ic adr fs D)(hn:n<100000)(au:Dc w ⟨b,0,none⟩ f)(ha:∀g∈U,adr' g=adr g)(K:adr' f=⟨b,0,none⟩)(hA:BV adr' (U++[f]))(aH:f ∉ U)(ak:∀g∈fs,g.tag≠f.tag)(aO:(Lit.int .i64 f.tag).wf=true)(hl:fs.length<900) :
  Ca 98 #[Pn N.nw,Pn b] w λe w'=>e=.returned (.tuple #[])/\(∃l,Fj N adr' (U++[f]) (fs++[f]) l w'/\Db N adr' (U++[f]) (N.vw l (fs++[f])) (λ_=>gV (N.vw l (fs++[f]))) a w'/\∃D',w'.ownsMap prog 3 Ck N.fb (n+1) D'/\Ic adr' (fs++[f]) D')/\EP N w w':=by
 obtain⟨HN,HA,J,HO,HF,aA⟩:=Ma r ha K ho hF (hF.bS hA aH hl);have aJ:=hI.put C.isMap (λg hg=>ha g (hF.sub g hg)) K ak;have HI:=Ad aJ;obtain⟨H,aK,aD,I⟩:=(C.drew).update IC (t:=156) underlying156 qj (keyOf_int_mk underlying3 aO) (mA b);have O:CK w H:=CK.an (w:=w.drew) I (rC C.drew);have af:AM (λg=>g=N.fb) w H:=(AM.u (y8 _ w).drew).c (AM.an I);obtain⟨p,M1,T1,F1,O1⟩:=Ei (h.W O af.rest.size) (hM.keep O af (λm d x hx e=>r.dr m d (e▸hx))) (au.W O) (EP.aF (N:=N) r O af (λg e=>.inl e)) aD;have c1:=Bf (L:=[_,_,_]) h.box (j:=1) rfl;obtain⟨b',o',y,t0,_⟩:=au.Y;injection y with y;injection y with y;injection y with e1 e2;subst e1;subst e2;have c0:=Bf (L:=[_,_,_]) p.box (j:=0) rfl;have c2:=Bf (L:=[_,_,_]) p.box (j:=2) rfl;have s:=r.len;have aM:=r.cJ;have aR:=hF.few;have aE:=Ad (zrP N.base N.gb N.mb N.la N.lc N.L N.bs V (EV adr fs) (Pn b) f H ⟨b,0,none⟩ rfl T1 p.nf p.hb s (by rw[Pu];omega) r.cr);clear h hF hM ho C hI aJ au ha K r aD I O af aH ak hA;go_enter func98,ntmps98;go_wp2;go_region;go_wp2_with fail;refine aE.rtn λT⟨⟨l,aG⟩,v⟩=>?_;have G:=Ad (p.bS (adr':=adr') (f:=f) v (by rw[J.o];exact aG) HA HF.sub (by rw[J.o];exact T1));have M2:=Ad (M1.bF HN p HF G aA HA v);have F2:=Ad (F1.c (EP.dq v));have O2:=Ad (show T.ownsMap prog 3 Ck N.fb (n+1) _ from by
  obtain⟨es,cl,hb⟩:=Lt O1;exact J_ O1 ((v.ao _ _ hb (λ_ _ _ q=>Qj)).c hb.z))
 have aP:=Bf (L:=[_,_,_]) G.box (j:=2) rfl;obtain⟨A,ay⟩:=AF N.ma;rw[<-ay]at aP;have aQ:=Ad ay;clear ay;clear aG v aE c0 c1 c2 t0;go_wp2
 go_loopw [26] (λiv wr=>∃k:Nat,iv=I6 (k:Int)/\k<=N.Ms.length/\Db N adr' (U++[f]) (N.vw l (fs++[f])) (λi=>if i<k then gV (N.vw l (fs++[f])) else gV (N.vw V fs)) a wr/\CK T wr/\AM (λg=>∃m∈N.Ms,m.S g) T wr) (mz N.Ms.length)
 .exact s9
 obtain⟨k,rfl,aS,aI,ar,Z⟩:=hrel;obtain⟨MR,CR,PR,E⟩:=BP aI ar Z (G.W ar Z.rest.size);clear aI ar Z;by_cases M:k<N.Ms.length
 .obtain⟨m,d⟩:=Bq M;obtain⟨old,aj⟩:∃o,a[k]?=some o:=⟨a[k]'(by rw[HO.o];exact M),qf⟩
  have B:=yd d;obtain⟨rb,aL,_,r0,_⟩:=CG E.row (show(N.Ms.map MK.val)[k]?=some m.val by rw[yE,d];rfl);obtain⟨p1,p2,p3⟩:=E.aV aA B;obtain⟨o1,o2,o3⟩:=p.aV HF B;have HS:=Ad (zsf m (HN.ok m B) adr' (U++[f]) aA.inj (N.vw l (fs++[f])) p3 (gV (N.vw V fs)) (o3.more (λg hg=>by simp[hg])) old f qf wr (by simpa using MR.o k m old d aj) p1 (λc hc=>by rw[p2 c hc,o2 c hc];exact zqB));rw[J.o]at HS;obtain⟨aC,HX,aF⟩:=AK B d aj;obtain⟨z0,z1⟩:=CZ M;have aN:=aQ.c aL;subst aN;cases m with
  |inl Rc=>
   obtain⟨R,c⟩:=Rc;simp only[MK.val,MK.dl,MK.bv]at HS r0;have q1:=λu=>ztE R.rb u;exact uK
  |inr t=>
   simp only[MK.val,MK.dl,MK.bv]at HS r0;have q1:=λu=>zsj t.mb u;exact uK
 obtain rfl:k=N.Ms.length:=qd;have hy:¬(N.Ms.length:Int)<(N.Ms.length:Int):=qd;go_wp2_with fail;go_end0;refine⟨rfl,⟨l,E,λi m old h1 h2=>?_,_,J_ O2 (PR.block _ O2.lt ?_),HI⟩,F2.c (EP.aF HN CR PR (λg hg=>.inr hg))⟩
 .exact th
 rintro⟨m,d,hs⟩;exact HN.dr m d hs
def rK{w w':Aa}{k b r n D left cnt}(h:w.ranges prog k Ck b r n D left cnt)(f:w'.heap[b]?=w.heap[b]?)(m:w'.heap[r]?=w.heap[r]?):w'.ranges prog k Ck b r n D left cnt:=by
 obtain⟨es,a,since,seen,e,g,l,j,o,d,i⟩:=h;exact⟨es,a,since,seen,e,f.c g,l,j,o,m.c d,i⟩
def nj{w:Aa}{k b r n D left cnt}(h:w.ranges prog k Ck b r n D left cnt):∃m s e c,w.heap[r]?=some (.mapIter m s e c):=by
 obtain⟨es,a,since,seen,f,g,l,j,o,d,i⟩:=h;exact⟨_,_,_,_,d⟩
def uJ(h:P:=by
 go_wp2_with fail;refine HS.rtn λw3⟨aF,af,O⟩=>?_;obtain⟨aw,au,aB⟩:=AK (MR.next HN HX aI aF af O) (CR.c af) (PR.c (O.j λg hg=>⟨_,aG,hg⟩));go_wp2;exact⟨⟨k+1,by go_num,by omega,aw,au,aB⟩,by simp;omega⟩
 ):=h
def zsU(N)(y:G_ N)(adr U fs V a r n cnt left D f b w)(h:Fj N adr U fs V w)(hF:Id adr U fs)(hM:Db N adr U (N.vw V fs) (λ_=>gV (N.vw V fs)) a w)(ho:a.length=N.Ms.length)(hD:w.ranges prog 3 Ck N.fb r n D left cnt)(aM:∀m∈N.Ms,¬m.S r)(hI:Ic adr fs D)(E:f∈fs)(J:adr f=⟨b,0,none⟩)(ar:∀g∈fs,∀k∈fs,g.tag=k.tag->g=k)(aU:(Lit.int .i64 f.tag).wf=true) :
  Ca 97 #[.pointer (some ⟨N.nw,0,none⟩),.pointer (some ⟨b,0,none⟩)] w λe w'=>e=.returned (.tuple #[])/\(∃s,Fj N adr U (fs.filter λg=>!decide (adr g=adr f)) s w'/\Db N adr U (N.vw s (fs.filter λg=>!decide (adr g=adr f))) (λ_=>gV (N.vw s (fs.filter λg=>!decide (adr g=adr f)))) a w'/\∃Z,w'.ranges prog 3 Ck N.fb r n (D.del (.int .i64 f.tag)) (λz=>left z&&!z.sameKey (.int .i64 f.tag)) Z/\Z<=cnt/\Ic adr (fs.filter λg=>!decide (adr g=adr f)) (D.del (.int .i64 f.tag)))/\EP N w w':=by
 obtain⟨G,B⟩:=AF (fs.filter λg=>!decide (adr g=adr f));rw[<-B];obtain⟨HG,aV,HN,HO,C,aQ,aP,T⟩:=XD B J y ho hF aM E (hF.bk (p:=λg=>!decide (adr g=adr f)));rw[<-B]at T;have aE:=hI.del hF.inj hF.sub E ar;rw[<-B]at aE;have aJ:w.drew.ranges prog 3 Ck N.fb r n D left cnt:=hD;obtain⟨K,Z,aj,aH,aL,aO⟩:=aJ.drop IC (t:=156) underlying156 (keyOf_int_mk underlying3 aU) 0;have ax:=aO.grown;have HC:=Ad (And.intro aL aE);have aY:∀ty,(Builtin.delete_ #[156,3] ty #[.map (some N.fb),.int .i64 f.tag]).run prog w.drew=.ok (.tuple #[]) K:=λ_=>aj;have af:CK w K:=CK.an (w:=w.drew) ax (rC hD.owns);have O:AM (λg=>g=N.fb) w K:=(AM.u (y8 _ w).drew).c (AM.an ax);obtain⟨l,M1,F1,O1⟩:=BP (h.W af O.rest.size) (hM.keep af O (λm d x hx e=>y.dr m d (e▸hx))) (EP.aF (N:=N) y af O (λg e=>.inl e)) aH;have c1:=Bf (L:=[_,_,_]) h.box (j:=1) rfl;have aA:=h.us f (hF.sub f E);rw[J]at aA;obtain⟨b',o',I,t0,_⟩:=aA.Y;injection I with I;injection I with I;injection I with e1 e2;subst e1;subst e2;have c0:=Bf (L:=[_,_,_]) l.box (j:=0) rfl;have c2:=Bf (L:=[_,_,_]) l.box (j:=2) rfl;have H:=y.len;have aS:=y.cJ;have ay:=Ad (ztl N.base N.gb N.mb N.la N.lc N.L N.bs V adr fs (adr f) K (λg hg=>(l.us g (hF.sub g hg)).pt) (l.us f (hF.sub f E)).pt l.nf l.hb H);rw[<-B,J]at ay;clear h hF hM ho hD aJ hI aE aA y aH ax af O ar aM E aO aL aj B J;go_enter func97,ntmps97;go_wp2;go_region;go_wp2_with fail;refine ay.rtn λw2⟨⟨s,aK⟩,v⟩=>?_;have H2:=Ad (l.bk v aK);have M2:=Ad (M1.bF HN l C H2 T (λ_ _=>rfl) v);have F2:=Ad (F1.c (EP.dq v));have O2:=Ad (show w2.ranges prog 3 Ck N.fb r n (D.del (.int .i64 f.tag)) (λz=>left z&&!z.sameKey (.int .i64 f.tag)) Z from by
  obtain⟨es,cl,hb⟩:=Lt O1.owns;obtain⟨_,_,_,_,hr⟩:=nj O1;exact rK O1 ((v.ao _ _ hb (λ_ _ _ q=>Qj)).c hb.z) ((v.ao _ _ hr (λ_ _ _ q=>Qj)).c hr.z))
 have aW:=Bf (L:=[_,_,_]) H2.box (j:=2) rfl;obtain⟨A,aC⟩:=AF N.ma;rw[<-aC]at aW;have aX:=Ad aC;clear aC;clear aK v ay c0 c1 c2 t0;go_wp2
 go_loopw [25] (λiv wr=>∃k:Nat,iv=.int .i64 (k:Int)/\k<=N.Ms.length/\Db N adr U (N.vw s G) (λi=>if i<k then gV (N.vw s G) else gV (N.vw V fs)) a wr/\CK w2 wr/\AM (λg=>∃m∈N.Ms,m.S g) w2 wr) (mz N.Ms.length)
 .exact s9
 obtain⟨k,rfl,aZ,aN,az,aD⟩:=hrel;obtain⟨MR,CR,PR,HR⟩:=BP aN az aD (H2.W az aD.rest.size);clear aN az aD;by_cases hk:k<N.Ms.length
 .obtain⟨m,d⟩:=Bq hk;obtain⟨old,aq⟩:∃o,a[k]?=some o:=⟨a[k]'(by rw[HO.o];exact hk),qf⟩
  have M:=yd d;obtain⟨rb,aR,_,r0,_⟩:=CG HR.row (show(N.Ms.map MK.val)[k]?=some m.val by rw[yE,d];rfl);obtain⟨p1,p2,p3⟩:=HR.aV T M;obtain⟨o1,o2,o3⟩:=l.aV C M;have HS:=Ad (zsJ m (HN.ok m M) adr U T.inj (N.vw s G) p3 (gV (N.vw V fs)) o3 old f (C.sub f aP) wr (by simpa using MR.o k m old d aq) p1 (λc hc=>by rw[p2 c hc,o2 c hc];rw[HG.o];exact zrp C.inj C.sub C.nd aP));rw[aV.o]at HS;obtain⟨aG,HX,aI⟩:=AK M d aq;obtain⟨z0,z1⟩:=CZ hk;have aT:=aX.c aR;subst aT;cases m with
  |inl Rc=>
   obtain⟨R,c⟩:=Rc;simp only[MK.val,MK.dm,MK.bv]at HS r0;have q1:=λu=>ztx R.rb u;exact uJ
  |inr t=>
   simp only[MK.val,MK.dm,MK.bv]at HS r0;have q1:=λu=>zsV t.mb u;exact uJ
 obtain rfl:k=N.Ms.length:=qd;have hy:¬(N.Ms.length:Int)<(N.Ms.length:Int):=qd;go_wp2_with fail;go_end0;refine⟨rfl,⟨s,HR,λi m old h1 h2=>?_,_,rK O2 (PR.block _ O2.owns.lt ?_) (PR.block _ O2.lt ?_),HC⟩,F2.c (EP.aF HN CR PR (λg hg=>.inr hg))⟩
 .exact th
 .rintro⟨m,d,hs⟩;exact HN.dr m d hs
 rintro⟨m,d,hs⟩;exact aQ m d hs
theorem MK.St.lt{m:MK}{adr U vw g old w}(h:m.St adr U vw g old w):∀x,m.S x->x<w.heap.size:=by
 cases m with
 |inl O=>
  obtain⟨R,c⟩:=O;obtain⟨⟨a,e,_⟩,_⟩:=h;exactλx d=>UT e x (Ji.2 d)
 |inr t=>
  obtain⟨K,M,_,_,b⟩:=h.2.ex;rintro x (rfl|rfl)
  .exact b.now.lt
  exact b.ak.lt
theorem Db.lt{N adr U vw g a w}(h:Db N adr U vw g a w)(d:a.length=N.Ms.length){m}(c:m∈N.Ms):∀x,m.S x->x<w.heap.size:=by
 obtain⟨i,b⟩:=YQ c;have hl:=(yf.1 b).1;exact(h i m (a[i]'(by omega)) b qf).lt
def FX(w:Aa)(a:Af)(gs:Ab):Prop:=∀(i:Nat)(f:F),gs[i]?=some f->∃b o,a=some ⟨b,o,none⟩/\Dc w ⟨b,o+i*3,none⟩ f
def FX.Y{w a gs}(h:FX w a gs):Cs w a gs:=λi f d=>by
 obtain⟨b,o,e,p⟩:=h i f d;obtain⟨q,o',O,j,k,sa,c,l,m⟩:=p.Y;injection O with O;injection O with O;injection O with g n;subst g;subst n;exact⟨b,o,e,j,k,sa,c,l,m⟩
theorem Dc.fn{N w w' a f}(h:Dc w a f)(e:EP N w w'):Dc w' a f:=h.keep λg c t d b ht=>e.kept g c t d b qB qB
theorem FX.fn{N w w' a gs}(h:FX w a gs)(b:EP N w w'):FX w' a gs:=by grind[FX,Dc.fn]
def EP.u{N w w'}(h:Bw w w'):EP N w w':=⟨h.j (yn _),λk _ _ _ a _ _=>(h.block k (Ap a)).c a,λk _ a _ _ _=>(h.block k (yk.1 a).1).c a,λ_ _ b=>h.j b⟩
def VW{w w':Aa}{k e b n}{D:DataW Unit}(h:w.ownsMap prog k (plainElem prog e) b n D)(d:w'.heap[b]?=w.heap[b]?):w'.ownsMap prog k (plainElem prog e) b n D:=by
 obtain⟨es,a,f,g⟩:=h;exact⟨es,a,d.c f,g⟩
def zmI{w:Aa}{k e b n}{D:DataW Unit}(h:w.ownsMap prog k (plainElem prog e) b n D):∃es c,w.heap[b]?=some (.map es c):=by
 obtain⟨es,a,d,_⟩:=h;exact⟨es,a,d⟩
def mx{a b}:(Lit.int .i64 a).sameKey (.int .i64 b)=decide (a=b):=by
 by_cases h:a=b
 .subst h;rw[WideAt.sameKey_self (Qu a)];simp
 rw[sameKey_ne (λe=>h MT)];simp[h]
structure Lf(N:NT) (adr:F->Addr) (U fs gs:Ab) (olds:C_) (r n pb:Nat) (DP:DataW Unit) (p:F->Bool) (V:Aj) (D:DataW Unit) (left:Lit->Bool) (cnt:Nat) (wr:Aa):Prop where
 bx:Fj N adr U (fs.filter p) V wr
 ms:Db N adr U (N.vw V (fs.filter p)) (λ_=>gV (N.vw V (fs.filter p))) olds wr
 rg:wr.ranges prog 3 Ck N.fb r n D left cnt
 mv:Ic adr (fs.filter p) D
 no:∀f∈fs,p f=false->(Bb f.tag gs).isSome=false
 cL:∀f∈fs,p f=true->left (.int .i64 f.tag)=false->(Bb f.tag gs).isSome=true
 pl:wr.ownsMap prog 3 (plainElem prog 3) pb gs.length DP
def Lf.eK{N adr U fs gs a r n pb g p V D left cnt O wr w' t}(h:Lf N adr U fs gs a r n pb g p V D left cnt wr)(d:CK wr w')(c:wr.grownBy w' (some r))(s:∀m∈N.Ms,¬m.S r)(i:pb≠r)(q:w'.ranges prog 3 Ck N.fb r n D (λz=>left z&&!z.sameKey (.int .i64 t)) O)(o:(Bb t gs).isSome=true):Lf N adr U fs gs a r n pb g p V D (λz=>left z&&!z.sameKey (.int .i64 t)) O w':=by
 refine⟨h.bx.W d c.size,h.ms.keep d (AM.an c) (λm l x k e=>s m l (e▸k)),q,h.mv,h.no,λf u j hl=>?_,VW h.pl (c.block pb h.pl.lt (λe=>i MT))⟩;rw[mx]at hl;cases b:left (.int .i64 f.tag)
 .exact h.cL f u j b
 rw[b]at hl;have:f.tag=t:=NB;rw[this];exact o
def zpd{fs:Ab}{p q}:(fs.filter p).filter q=fs.filter (λg=>q g&&p g):=YC
def Lf.cd{N adr U fs gs a r n pb d p V D left cnt wr}(h:Lf N adr U fs gs a r n pb d p V D left cnt wr)(hl:∀e,left e=false):fs.filter p=fs.filter (λf=>(Bb f.tag gs).isSome):=YS λf c=>by
 cases b:p f
 .exact(h.no f c b).z
 exact(h.cL f c b (hl _)).z
def zoY(a c fs nx cp sg w)(hv:Cs w a fs)(hl:fs.length<=1048576)(l:CL 0 fs=true)(p:∀f∈fs,Do f) :
  Ca 96 #[.agg #[.slice a fs.length c,I6 nx,I6 cp,.bool sg]] w λe w'=>
   ∃b D,e=.returned (.map (some b))/\w'.ownsMap prog 3 (plainElem prog 3) b fs.length D/\FK fs fs.length D/\w.heap.size<=b/\Bw w w':=by
 have A:=iO (P:=prog) (t:=172) underlying172;go_enter func96,ntmps96;go_wp2
 go_loopw [13] (λi wr=>∃(k:Nat)(D:DataW Unit),k<=fs.length/\i=I6 k/\wr.ownsMap prog 3 (plainElem prog 3) (w.heap.size+1) k D/\FK fs k D/\Bw w wr) (mz fs.length)
 .exact⟨0,.map [],qd,rfl,by have:=Wl (H:=Unit) (w.alloc (.cells #[.slice a fs.length c,I6 nx,I6 cp,.bool sg] 27)) prog 3 (plainElem prog 3);simpa using this,FK.start fs,Ar.alloc qf _⟩
 obtain⟨k,D,r,rfl,hown,d,hb⟩:=hrel;by_cases g:k<fs.length
 .obtain⟨f,O⟩:=Bq g;obtain⟨b,o,rfl,q,z,s,cs,x,m⟩:=hv.e hb k f O;have n:=(p f (yd O)).1;have am:=d.step hown.isMap l O;obtain⟨y,u,ai,ah⟩:=(hown.alloc (.cells #[I6 f.tag,.string f.E,.slice s f.v.length cs] 145)).update IC (t:=172) underlying172 qj (keyOf_int_mk underlying3 n) (plainElem_int underlying3 (xE (k:=k) qd));exact uI
 go_wp2;go_ret;obtain rfl:k=fs.length:=qd;exact⟨_,D,rfl,hown,d,qd,hb⟩
def Vm{tag}:∀{gs:Ab},(Bb tag gs).isSome=true↔∃g∈gs,g.tag=tag:=by intro gs;induction gs<;>grind[Bb]
def kn(fs:Ab)(g:F):Bool:=fs.any λf=>decide (f.tag=g.tag)
def UM{fs g}:kn fs g=true↔∃f∈fs,f.tag=g.tag:=by simp[kn]
def stay(fs gs:Ab):Ab:=fs.filter λf=>(Bb f.tag gs).isSome
structure Gt(N:NT) (adr:F->Addr) (U fs gs:Ab) (olds:C_) (n k:Nat) (adr':F->Addr) (ad:Ab) (V:Aj) (D:DataW Unit) (wr:Aa):Prop where
 ag:∀g∈U,adr' g=adr g
 ae:ad=(gs.take k).filter λg=>!kn fs g
 bx:Fj N adr' (U++ad) (stay fs gs++ad) V wr
 lk:Id adr' (U++ad) (stay fs gs++ad)
 ms:Db N adr' (U++ad) (N.vw V (stay fs gs++ad)) (λ_=>gV (N.vw V (stay fs gs++ad))) olds wr
 mp:wr.ownsMap prog 3 Ck N.fb (n+ad.length) D
 mv:Ic adr' (stay fs gs++ad) D
 bz:∀f∈stay fs gs++ad,adr' f=⟨(adr' f).block,0,none⟩
theorem Gt.e{N adr U fs gs a n k adr' c V D wr w'}(h:Gt N adr U fs gs a n k adr' c V D wr)(b:Bw wr w'):Gt N adr U fs gs a n k adr' c V D w':=
 ⟨h.ag,h.ae,h.bx.W (CK.u b) b.size,h.lk,h.ms.keep (S:=λ_=>False) (CK.u b) (AM.u b) (λ_ _ _ _ q=>q),J_ h.mp (b.block _ h.mp.lt),h.mv,h.bz⟩
def Gt.known{N adr U fs gs a n k adr' b V D wr f}(h:Gt N adr U fs gs a n k adr' b V D wr)(d:gs[k]?=some f)(j:CL 0 gs=true):Maps.has D (.int .i64 f.tag)=kn fs f/\(kn fs f=false->∀g∈stay fs gs++b,g.tag≠f.tag):=by
 have key:(∃g∈stay fs gs++b,g.tag=f.tag)↔∃g∈fs,g.tag=f.tag:=by
  constructor
  .rintro⟨g,O,e⟩;rcases yp.1 O with q|q
   .exact⟨g,(yh.1 q).1,e⟩
   rw[h.ae]at q;have i:=(yh.1 q).1;have:=gn j d;have c:(Bb f.tag (gs.take k)).isSome=true:=Vm.2 ⟨g,i,e⟩;rw[this]at c;cases c
  rintro⟨g,O,e⟩;exact⟨g,Ww _ (yh.2 ⟨O,Vm.2 ⟨f,yd d,e.z⟩⟩),e⟩
 refine⟨?_,λq g O e=>?_⟩
 .rw[iW,h.mv.cI,UM,key]
 have:=UM.2 (key.1 ⟨g,O,e⟩);rw[q]at this;cases this
def Gt.skip{N adr U fs gs a n k adr' b V D wr f}(h:Gt N adr U fs gs a n k adr' b V D wr)(d:gs[k]?=some f)(c:kn fs f=true):Gt N adr U fs gs a n (k+1) adr' b V D wr:=
 ⟨h.ag,by rw[Yc,d,yV];simp[c,h.ae],h.bx,h.lk,h.ms,h.mp,h.mv,h.bz⟩
def ztA(adr:F->Addr)(U:Ab)(f b)(c:f ∉ U):∃adr':F->Addr,(∀g∈U,adr' g=adr g)/\adr' f=⟨b,0,none⟩:=by
 classical
 refine⟨λg=>if g=f then⟨b,0,none⟩ else adr g,λg d=>?_,qf⟩;have a:g≠f:=λe=>c (e▸d);simp[a]
def zpG{adr adr' U f b}(h:BV adr U)(O:∀g∈U,adr' g=adr g)(c:adr' f=⟨b,0,none⟩)(a:∀g∈U,(adr g).block≠b):BV adr' (U++[f]):=by grind[BV]
def zFp(w):(zeroValue 106).run prog w=.ok (.pointer none) w:=qg
def EP.iter{N w wr i r}(h:EP N w wr)(a:wr.grownBy i (some r))(p:w.heap.size<=r):EP N w i:=by
 have key:∀k o,w.heap[k]?=some o->wr.heap[k]?=some o->i.heap[k]?=some o:=λk o g f=>by
  have d:k<w.heap.size:=(yk.1 g).1;exact(a.block k (yk.1 f).1 (λe=>qO)).c f
 exact⟨⟨a.os.c h.rest.os,a.tape.c h.rest.tape,a.output.c h.rest.output,yi h.rest.size a.size,λ_ q=>absurd q qd⟩,λk c t m d g f=>key k _ d (h.kept k c t m d g f),λk o d g f n=>key k o d (h.ao k o d g f n),λb l j=>⟨a.os.c h.rest.os,a.tape.c h.rest.tape,a.output.c h.rest.output,yi h.rest.size a.size,λk O=>(a.block k jU (λe=>qO)).c ((h.low b l j).block k O)⟩⟩
def Lf.bk{N adr U fs gs a r n pb j p V i D left cnt O wr l d f}(h:Lf N adr U fs gs a r n pb j p V D left cnt wr)(hF:Id adr U fs)(C:∀f∈fs,∀g∈fs,f.tag=g.tag->f=g)(u:f∈fs)(B:(Bb f.tag gs).isSome=false)(t:Fj N adr U ((fs.filter p).filter λg=>!decide (adr g=adr f)) i d)(v:Db N adr U (N.vw i ((fs.filter p).filter λg=>!decide (adr g=adr f))) (λ_=>gV (N.vw i ((fs.filter p).filter λg=>!decide (adr g=adr f)))) a d)(G:d.ranges prog 3 Ck N.fb r n (D.del (.int .i64 f.tag)) (λz=>(left z&&!z.sameKey (.int .i64 f.tag))&&!z.sameKey (.int .i64 f.tag)) O)(s:Ic adr ((fs.filter p).filter λg=>!decide (adr g=adr f)) (D.del (.int .i64 f.tag)))(k:l.ownsMap prog 3 (plainElem prog 3) pb gs.length j)(w:EP N l d)(y:pb≠N.fb)(E:∀m∈N.Ms,¬m.S pb):∃x,Lf N adr U fs gs a r n pb j (λg=>!decide (adr g=adr f)&&p g) i (D.del (.int .i64 f.tag)) x O d:=by
 rw[zpd]at t v s;refine⟨_,t,v,G,s,λg b q=>?_,λg b q hl=>?_,?_⟩
 .by_cases e:adr g=adr f
  .rw[hF.inj g (hF.sub g b) f (hF.sub f u) e];exact B
  exact h.no g b (by simpa[e] using q)
 .have e:adr g≠adr f:=λe=>by simp[e]at q
  have H:p g=true:=by simpa[e] using q
  have A:g.tag≠f.tag:=λq'=>e (by rw[C g b f u q']);refine h.cL g b H ?_;rw[mx]at hl;simpa[A] using hl
 obtain⟨es,I,o⟩:=zmI k;exact VW k ((w.ao _ _ o (λ_ _ _ q=>Qj) y E).c o.z)
def Dc.copy{w d a f sa b}(h:Dc w a f)(q:At w a.block (a.off+2) (.slice sa f.v.length b))(p:Cj w sa f.v)(l:Bw w d)(j:Bk d (w.heap.size) #[I6 f.tag,.string f.E,.slice sa f.v.length b] 145):Dc d ⟨w.heap.size,0,none⟩ f:=by
 obtain⟨r,A,k⟩:=Ea j rfl;refine⟨⟨w.heap.size,0,rfl,r,A,sa,b,k,p.e l⟩,λD O=>?_,λC n B t o s e i=>?_⟩
 .injection O with O;subst O;exact⟨_,j⟩
 have g:=k.z.c t;injection g with g;injection g with x _ _;subst x;obtain⟨y,u,m⟩:=h.sl sa _ b q o s e i;exact⟨y,u,(l.block o (Ap m)).c m⟩
def Gt.more{N adr U fs gs d n k b adr' O a V i D o wr j f}(h:Gt N adr U fs gs d n k adr' a V D wr)(w:gs[k]?=some f)(t:kn fs f=false)(s:∀g∈U++a,O g=adr' g)(u:O f=⟨b,0,none⟩)(m:Id O ((U++a)++[f]) ((stay fs gs++a)++[f]))(p:Fj N O ((U++a)++[f]) ((stay fs gs++a)++[f]) i j)(l:Db N O ((U++a)++[f]) (N.vw i ((stay fs gs++a)++[f])) (λ_=>gV (N.vw i ((stay fs gs++a)++[f]))) d j)(v:j.ownsMap prog 3 Ck N.fb (n+a.length+1) o)(r:Ic O ((stay fs gs++a)++[f]) o):Gt N adr U fs gs d n (k+1) O (a++[f]) i o j:=by
 rw[yY]at m p l r;rw[yY]at m p l;refine⟨λg e=>(s g (Ww _ e)).c (h.ag g e),by rw[Yc,w,yV];simp[t,h.ae],p,m,l,by rw[yM];exact v,r,λg e=>?_⟩;rw[<-yY]at e;rcases yp.1 e with q|q
 .rw[s g (h.lk.sub g q)];exact h.bz g q
 rw[yw.1 q,u]
def zpl(N)(hN:G_ N)(adr U fs gs V d n D a c w)(h:Fj N adr U fs V w)(hF:Id adr U fs)(hM:Db N adr U (N.vw V fs) (λ_=>gV (N.vw V fs)) d w)(ho:d.length=N.Ms.length)(hD:w.ownsMap prog 3 Ck N.fb n D)(hI:Ic adr fs D)(hn:n+gs.length<100000)(a9:FX w a gs)(C:CL 0 gs=true)(hr:∀f∈gs,Do f)(cd:gs.length<=100)(cm:fs.length<=100)(bu:∀f∈fs,(Lit.int .i64 f.tag).wf=true)(aW:∀f∈fs,∀g∈fs,f.tag=g.tag->f=g)(aU:∀g∈gs,kn fs g=false->g ∉ U)(bj:∀f∈fs,adr f=⟨(adr f).block,0,none⟩) :
  Ca 46 #[.pointer (some ⟨N.nw,0,none⟩),.slice a gs.length c] w λe w'=>e=.returned (.tuple #[])/\(∃adr' l K M,Gt N adr U fs gs d n gs.length adr' l K M w')/\EP N w w':=by
 obtain⟨HN,HF,HO,HH,HM,HD,HI,bM,HG⟩:=L_ hN hF ho h hM hD hI a9 C;obtain⟨HR,cg,bn,bJ,bo,bm⟩:=Ma hr bu aW aU bj (zoY a c gs 0 0 false w a9.Y qd C hr);clear h hF hM ho hD hI a9 C hr bu aW aU bj hN;go_enter func46,ntmps46;go_wp2_with fail;refine bm.j ?_;rintro e E ⟨pb,DP,rfl,aS,bE,ce,A⟩;obtain⟨cw,bS,ci,H1,M1⟩:=Ei aS bE A (HH.W (CK.u A) A.size) (HM.keep (S:=λ_=>False) (CK.u A) (AM.u A) (λ_ _ _ _ q=>q));have bt:=J_ HD (A.block _ HD.lt);have b4:=HD.lt;have ab:=A.size;have c1:=Bf (L:=[_,_,_]) H1.box (j:=1) rfl;obtain⟨w2,bQ,aX,I,b5⟩:=bt.range IC (t:=156) underlying156;have G:Bw E w2:=⟨I.os,I.tape,I.output,I.size,λk R=>I.block k R qf⟩
 have b7:=Ad G;have bi:=aS.lt;have L2:=Ad (show Lf N adr U fs gs d E.heap.size n pb DP (λ_=>true) V D (Maps.has D) (Maps.size D) w2 from by
  have e:fs.filter (λ_=>true)=fs:=Yp.2 (λ_ _=>rfl);have br:=(CK.u G)
  refine⟨by rw[e];exact H1.W br G.size,by rw[e];exact M1.keep (S:=λ_=>False) br (AM.u G) (λ_ _ _ _ q=>q),aX,by rw[e];exact HI,λf _ q=>Qj,λf hf _ q=>?_,VW aS (G.block _ bi)⟩;rw[(HI.o.cI f.tag).2 ⟨f,hf,rfl⟩]at q;cases q)
 have F2:=Ad ((EP.u (N:=N) A).c (EP.u G));have a6:Hid (∀m∈N.Ms,¬m.S E.heap.size):=λm hm q=>by
  have:=HM.lt HO hm _ q;omega
 have bK:Hid (∀m∈N.Ms,¬m.S pb):=λm hm q=>by
  have:=HM.lt HO hm _ q;omega
 clear aS bE A G aX I bm bt;go_wp2
 go_loopw [] (λwr=>∃p K M left cnt,Lf N adr U fs gs d E.heap.size n pb DP p K M left cnt wr/\EP N w wr) (λwr=>wr.rangeLeft N.fb E.heap.size)
 .exact⟨_,_,_,_,_,L2,F2⟩
 obtain⟨p,K,M,left,cnt,i,aE⟩:=hrel;obtain⟨LR,FR⟩:=An i aE;have cj:=aE.rest.size;have aZ:=i.rg.left_eq;rcases i.rg.next IC 0 with⟨h0,bq,a4⟩|⟨key,v,kl,y,H,bk,aF,bp,hv,aM,a4,ah,hlt,O,bZ,hE⟩
 .have aI:fs.filter p=stay fs gs:=i.cd bq;have G0:=Ad (show Gt N adr U fs gs d n 0 adr [] K M wr from⟨λ_ _=>rfl,rfl,by rw[yO,yO,<-aI];exact i.bx,by rw[yO,yO];exact HF.bk,by rw[yO,yO,<-aI];exact i.ms,i.rg.owns,by rw[yO,<-aI];exact i.mv,λf hf=>bo f (by rw[yO]at hf;exact(yh.1 hf).1)⟩);clear i aE aI LR bq aZ;go_wp2
  go_loopw [39] (λiv wq=>∃(k:Nat)(adr':F->Addr)(l:Ab)(a8:Aj)(bc:DataW Unit),iv=.int .i64 (k:Int)/\k<=gs.length/\Gt N adr U fs gs d n k adr' l a8 bc wq/\EP N w wq) (λiv _=>gs.length-(intOf iv).toNat)
  .exact⟨0,_,_,_,_,rfl,yn _,G0,FR⟩
  obtain⟨k,adr',l,a8,bc,rfl,cr,bv,bD⟩:=hrel;obtain⟨GQ,FQ⟩:=An bv bD;clear bv bD;by_cases R:k<gs.length
  .obtain⟨f,aL⟩:=Bq R;obtain⟨b0,o0,rfl,a7⟩:=(bM.fn FQ) k f aL;obtain⟨b',o',eb,c0,bl,sa,sc,c2,aa⟩:=a7.Y;injection eb with eb;injection eb with eb;injection eb with e1 e2;subst e1;subst e2;obtain⟨bV,bN,bP,aK⟩:=BP a7 aa c2 aL;have aG:=(HR f (yd aL)).1;obtain⟨z0,z1⟩:=CZ R;clear a7 aa aL;go_upto_region 10 with fail;refine BF ?_;intro H aB aT;obtain⟨T3,G3,F3⟩:=AK (bV.copy bP bN aB aT) (GQ.e aB) (FQ.c (EP.u aB));obtain⟨s0,_,_⟩:=Ea aT rfl;have d1:=Bf (L:=[_,_,_]) G3.bx.box (j:=1) rfl;obtain⟨aA,am⟩:=G3.known aK HG;obtain⟨v,ps,aJ,_⟩:=(G3.mp.drew).look_ok IC (t:=156) underlying156 (zFp H.drew) (show Ck (.pointer none)=some (.lit (.bool false),[]) from rfl) (keyOf_int_mk underlying3 aG);rw[aA]at aJ;have aC:Bw H H.drew:=Au.drew;obtain⟨s,T4,F4⟩:=AK (G3.e aC) (T3.e aC) (F3.c (EP.u aC));obtain⟨b,B⟩:=AF wr.heap.size;obtain⟨cy,cn⟩:=An B am
   cases r:kn fs f
   .have bU:=Ad r;rw[r]at aJ;have aN:f ∉ U++l:=λq=>by
     rcases yp.1 q with q|q
     .exact bJ f (yd aK) r q
     exact am r f (YD _ q) rfl
    obtain⟨bC,aQ,aO⟩:=ztA adr' (U++l) f wr.heap.size aN;have bd:=zpG s.lk.inj aQ aO (λg C e=>by
     obtain⟨c',bT⟩:=(GQ.bx.us g C).pt _ rfl;have:=Ap bT;omega)
    have aI:(stay fs gs).length<=fs.length:=Yi _ _;have co:l.length<=gs.length:=by rw[GQ.o.ae];exact yi (Yi _ _) qe
    have a0:(stay fs gs++l).length<900:=by rw[yM];omega
    obtain⟨bw,HLK,bW,bI⟩:=BP (ztw N HN adr' bC (U++l) (stay fs gs++l) a8 d (n+l.length) bc f wr.heap.size H.drew s.bx s.lk s.ms HO s.mp s.mv qd T4 aQ aO bd aN (am r) aG a0) (s.lk.bS bd aN a0) aQ aO;clear aB aT aA am aC B r aN aQ aO bd a0 c0 bl c2;go_region;go_wp2_with fail;refine bw.rtn λw5⟨⟨V5,aD,ay,D5,bz,ax⟩,aV⟩=>?_;obtain⟨G5,F5⟩:=An (s.more aK bU bW bI HLK aD ay bz ax) (F4.c aV);clear aD ay bz ax aV bw;go_wp2;exact⟨⟨k+1,_,_,_,_,qm,qd,G5,F5⟩,qp⟩
   have G5:=Ad (s.skip aK r);rw[r]at aJ;clear aB aT aA am aC B r c0 bl c2;go_region;go_wp2;exact⟨⟨k+1,_,_,_,_,qm,qd,G5,F4⟩,qp⟩
  obtain rfl:k=gs.length:=qd;have hy:¬(gs.length:Int)<(gs.length:Int):=qd;go_wp2_with fail;go_end0;exact⟨rfl,⟨_,_,_,_,GQ⟩,FQ⟩
 obtain⟨t,rfl,rfl,aG⟩:=Maps.keyOf_int_inv underlying3 aF;obtain⟨f,Z,bO⟩:=(i.mv.cI t).1 (has_true_of_atKey aM);subst bO;have hy:y.1=.lit (.int .i64 ((adr f).block:Int)):=(aM .nil).z.c (i.mv.Y f Z .nil);have a5:Ck v=some (.lit (.int .i64 ((adr f).block:Int)),y.2):=by rw[hv,<-hy]
 have bY:=nU a5;subst bY;have aR:=(yh.1 Z).1;obtain⟨b,B⟩:=AF ((adr f).block);have aP:adr f=⟨b,0,none⟩:=by rw[B];exact bo f aR
 rw[<-B]at a4 hE;obtain⟨_,_,_,_,bg⟩:=nj i.rg;have J:CK wr H:=CK.an O (λc t fr e=>by rw[bg]at e;cases e);have aY:pb≠E.heap.size:=qd;have ar:=VW i.pl (O.block pb i.pl.lt (λe=>aY MT));have aq:=Vk ar bS aG;obtain⟨cu,ch,b8,bX,cf,bL,cq⟩:=LG ah O J ar Z aR aP;have bF:=ah.left_eq;have F3:=Ad (FR.iter O qd);cases T:(Bb f.tag gs).isSome
 .have bR:=Ad T;have bA:=i.bx.W J O.size;have bB:=i.ms.keep J (AM.an O) (λm hm x hx e=>a6 m hm (e▸hx));have bh:=Ad (zsU N HN adr U (fs.filter p) K d E.heap.size n bk _ M f b H bA (HF.bk) bB HO ah a6 i.mv Z aP (λg C k R=>bn g (yh.1 C).1 k (yh.1 R).1) aG);rw[T]at aq;clear i aE aF bp hv aM ah O hy a5 Z aR aP bg J ar bA bB T B;go_wp2_with fail;refine bh.rtn λw4⟨⟨V4,aD,ay,b6,az,cv,ax⟩,aH⟩=>?_;have bf:=Ad (LR.bk HF bn bL bR aD ay az ax bX aH qd bK);have bG:=az.left_eq;have F4:=Ad (F3.c aH);clear aD ay az ax aH bh aq a4 hE;go_wp2;go_roundw
  case rel=>
   obtain⟨bH,h4⟩:=bf.o;exact⟨_,_,_,_,_,h4,F4⟩
  case measure=>omega
 have bf:=Ad (i.eK J O a6 aY ah T);rw[T]at aq;clear i aE aF bp hv aM ah O hy a5 Z aR aP bg J ar T B;go_wp2;go_roundw
 case rel=>exact⟨_,_,_,_,_,bf,F3⟩
 case measure=>omega
end
def DQ(X:Ak):Nat:=(X.filter λc=>!c.cp.neg).length
def XQ(vw B)(i:1<=B):∀(X:Ak)(TT:Am),(∀c∈X,(gV vw c).length<=B)->((XC vw X TT).map List.length).sum<=(X.length+1)*(TT.length*B^DQ X)/\(TT.flatMap (DD (X.map (DV vw)))).length<=TT.length*B^DQ X
 |[],TT,_=>by
  have e:TT.flatMap (DD (([]:Ak).map (DV vw)))=TT:=by
   exact ig
  rw[e];simp[XC,DQ]
 |c::X,TT,h=>by
  rw[XC,<-gD];have m:=h c qf;cases j:c.cp.neg
  focus
   have O:=XQ vw B i X (TT.flatMap (λT=>((vw c.node).2.2.filter (λf=>c.cp.y.all (AA T f))).map (λf=>T++[f]))) (λd hd=>h d LE);have hl:(TT.flatMap (λT=>((vw c.node).2.2.filter (λf=>c.cp.y.all (AA T f))).map (λf=>T++[f]))).length<=TT.length*B:=by
    rw[List.length_flatMap];have key:∀l:Am,((l.map λT=>(((vw c.node).2.2.filter (λf=>c.cp.y.all (AA T f))).map (λf=>T++[f])).length)).sum<=l.length*B:=λl=>by
     induction l with
     |nil=>simp
     |cons T l O=>
      have o:(((vw c.node).2.2.filter (λf=>c.cp.y.all (AA T f))).map (λf=>T++[f])).length<=B:=by
       rw[yu];exact yi (Yi _ _) m
      rw[yx,K9,Ya,Nat.add_mul];omega
    exact key TT
   have a:DQ (c::X)=DQ X+1:=by simp[DQ,j]
   rw[if_neg qi];obtain⟨L,g⟩:=AF (TT.flatMap (λT=>((vw c.node).2.2.filter (λf=>c.cp.y.all (AA T f))).map (λf=>T++[f])));rw[<-g]at O hl⊢;have b:L.length*B^DQ X<=TT.length*B^DQ (c::X):=by
    rw[a,Nat.pow_succ,Nat.mul_comm (B^DQ X) B,<-Nat.mul_assoc];exact YI _ hl
   have k:TT.length<=TT.length*B^DQ (c::X):=Nat.le_mul_of_pos_right _ (Nat.pow_pos qd)
  rotate_left
  focus
   have O:=XQ vw B i X (TT.filter (λT=>decide (nBar c.cp.y (vw c.node).2.2 T=0))) (λd hd=>h d LE);have hl:(TT.filter (λT=>decide (nBar c.cp.y (vw c.node).2.2 T=0))).length<=TT.length:=Yi _ _;have a:DQ (c::X)=DQ X:=by simp[DQ,j]
   rw[if_pos rfl];obtain⟨L,g⟩:=AF (TT.filter (λT=>decide (nBar c.cp.y (vw c.node).2.2 T=0)));rw[<-g]at O hl⊢;rw[a];have b:L.length*B^DQ X<=TT.length*B^DQ X:=YI _ hl;have k:TT.length<=TT.length*B^DQ X:=Nat.le_mul_of_pos_right _ (Nat.pow_pos qd)
  rotate_left
  all_goals
   refine⟨?_,yi O.2 b⟩;rw[yx,K9,Ya];have p:=Nat.mul_le_mul_left (X.length+1) b;have n:=O.1;rw[Nat.add_mul (X.length+1) 1,K6];omega
def mD{X:Ak}{r:Ru}(O:X.map Cx.cp=CO r.x [] 0)(f:JQ r.x [] 0)(g:Ag r.x<=3)(U):Ff (X.map (CB U)) []:=by
 have hl:(X.map (CB U)).length=(CO r.x [] 0).length:=by
  rw[<-O];simp
 have e:∀(k:Nat)(c:Cn)(d:Cp),(X.map (CB U))[k]?=some c->(CO r.x [] 0)[k]?=some d->Ln U c d:=by
  intro k c d a hd;rw[<-O,yE]at hd;rw[yE]at a;obtain⟨x,b,rfl⟩:=Ye.1 a;rw[b]at hd;cases hd;exact lX U x
 exact gE (fs:=U) r.x [] [] _ f (λv hv=>by simp at hv) qe hl e
def zoF:∀(a:Bi)(vs:AY)(n:Nat),((CO a vs n).filter λd=>!d.neg).length=Ag a/\∀d∈CO a vs n,d.neg=false->d.Y<n+Ag a:=by intro a;induction a<;>grind[DW,La,Dr,Dw,CO,Ag]
def zxn{pre r}(h:(CC pre r).1=0):1<=Ag r.x:=by grind[AO,Ag,Bp,CC,CU]
theorem zp6:∀(l pre:Az)(k:Nat),(Gj pre l k).1=0->∀r∈l,1<=Ag r.x:=by intro l;induction l<;>grind[Ag,Gj,CC]
def wY{rs}(h:(Cf rs).1=0){r}(a:r∈rs):1<=Ag r.x:=by grind[Ag,Cf,Gj,zp6]
structure QG(X:Ak):Prop where
 small:∀c∈X,c.cp.y.length<=6/\c.cp.H.y.length<=1048576/\(c.cp.neg=false->c.cp.Y<3)
 sr:∀U,Ff (X.map (CB U)) []
 X6:X.length<=6
 pos:DQ X<=3
 ne:X≠[]
def XW{rs}(f:(Cf rs).1=0){r}(g:r∈rs){X}(a:X.map Cx.cp=CO r.x [] 0):QG X:=by
 obtain⟨s,n,j⟩:=Oy f g;obtain⟨q,m⟩:=zoF r.x [] 0;have k:∀c∈X,c.cp∈CO r.x [] 0:=λc b=>by rw[<-a];exact yS b
 have O:DQ X=Ag r.x:=by
  have e:DQ X=((X.map Cx.cp).filter λd=>!d.neg).length:=by
   unfold DQ;rw[YV,yu];rfl
  rw[e,a,q]
 refine⟨λc b=>?_,mD a (Vz f g) j,?_,by rw[O];exact j,λe=>?_⟩
 .obtain⟨l,o⟩:=TF r.x [] 0 n c.cp (k c b);refine⟨l,yi o qi,λp=>?_⟩;have:=m c.cp (k c b) p;omega
 .have:=congrArg List.length a;rw[yu,pM]at this;omega
 have i:=wY f g;rw[<-O,e]at i;simp[DQ]at i
def QG.eM{X}(h:QG X){adr U vw ca}(hv:FL U X (gV vw))(b:BV adr U):QO X adr U vw ca:=⟨h.small,h.sr U,h.ne,h.X6,hv,b⟩
def Ml.all{R U}(h:Ml R U)(b:QG R.X)(O):Ml R O:=⟨h.len,h.ao,h.cR,h.small,b.sr O⟩
def MK.bA(d:Int):MK->Prop
 |.inl _=>d=0
 |.inr _=>d=1
def UA(X:Ak)(adr:F->Addr)(U:Ab)(vw:Vw)(ca:Af)(d:Int)(w:Aa)(e:Ending)(w':Aa):Prop:=
 ∃m:MK,e=.returned m.val/\m.X=X/\m.ca=ca/\m.Ok/\m.bA d/\m.St adr U vw (gV vw) [] w'/\(∀g,m.S g->w.heap.size<=g)/\Bw w w'
def zkz(X adr U vw ca cc a n f)(d:QG X)(hv:FL U X (gV vw))(r:BV adr U)(w)(O:∀(k:Nat)(c:Cx),X[k]?=some c->Eb adr vw ca w k c)(i:Ch adr U w) :
  Ca 92 #[.agg #[.slice ca X.length cc,.slice a n f]] w (UA X adr U vw ca 0 w):=by
 refine(zmk X adr U vw ca cc a n f (d.eM hv r) w O i).j λe w' q=>?_;obtain⟨R,b,m,l,p,s,o⟩:=q;exact⟨.inl (R,ca),m,b,rfl,λg=>l.all (b▸d) g,rfl,p,s.2.2,o⟩
def zjP(X adr U vw ca cc d n f)(O:QG X)(hv:FL U X (gV vw))(y:BV adr U)(w)(af:∀(k:Nat)(c:Cx),X[k]?=some c->Eb adr vw ca w k c)(ah:∀c∈X,∃a n,DG w c.node c.cp.H a n)(A:Ch adr U w) :
  Ca 93 #[.agg #[.slice ca X.length cc,.slice d n f]] w (UA X adr U vw ca 1 w):=by
 have p:Gz (⟨adr,U,X,vw,ca,cc,d,n,f,0,0,0,0⟩:TD):=⟨λc b=>⟨(O.small c b).1,(O.small c b).2.1⟩,O.X6,λc b=>yi (hv c b).2.2 qd,λc b x r=>yh.1 ((hv c b).1 x r),O.sr U,y⟩
 refine(zkK ⟨adr,U,X,vw,ca,cc,d,n,f,0,0,0,0⟩ p w ⟨af,ah,A⟩).j λe w' q=>?_;obtain⟨mb,cb,nb,wb,t,m,s,u,z⟩:=q;refine⟨.inr ⟨X,ca,cc,d,n,f,mb,cb,nb,wb⟩,t,rfl,rfl,⟨p.small,O.X6,O.sr⟩,rfl,⟨s,u⟩,?_,z⟩;rintro g (rfl|rfl)
 .exact m.2.2.1
 exact m.2.2.2
section
open Go.Maps
structure FM(w w':Aa):Prop where
 rest:Below 0 w w'
 kept:∀(k:Nat)(c:Bl)(t:TypeId)(fr:Nat × Nat),w.heap[k]?=some (.cells c t fr)->t≠165->t≠159->w'.heap[k]?=some (.cells c t fr)
 ao:∀(k:Nat)(o:Obj),w.heap[k]?=some o->(∀c t fr,o≠.cells c t fr)->w'.heap[k]?=some o
def FM.c{u v w}(h:FM u v)(k:FM v w):FM u w:=⟨h.rest.c k.rest,λj c t a hj b d=>k.kept j c t a (h.kept j c t a hj b d) b d,λj o hj e=>k.ao j o (h.ao j o hj e) e⟩
def FM.u{w w'}(h:Bw w w'):FM w w':=⟨h.j (yn _),λk _ _ _ a _ _=>(h.block k (Ap a)).c a,λk _ a _=>(h.block k (yk.1 a).1).c a⟩
def FM.an{w w' g}(h:w.grownBy w' g)(b:∀k,g=some k->∃c,w.heap[k]?=some (.cells c 165 (0,0))):FM w w':=
 ⟨⟨h.os,h.tape,h.output,h.size,λ_ q=>absurd q qd⟩,λk _ _ _ a f _=>(h.block k (Ap a) (λe=>by
  obtain⟨d,O⟩:=b k e.z
  exact Cw a O f)).c a,λk o a i=>(h.block k (yk.1 a).1 (λe=>by
  obtain⟨d,O⟩:=b k e.z
  rw[a]at O
  cases O
  exact i _ _ _ rfl)).c a⟩
def FM.bo{w w' b f O}(h:Turned w w' b)(d:w.heap[b]?=some (.cells f 159 O)):FM w w':=
 ⟨h.e (yn _),λk _ _ _ a _ g=>(h.block k (λe=>by
  subst e
  exact Cw a d g)).c a,λk o a i=>(h.block k (λe=>by
  subst e
  rw[a]at d
  cases d
  exact i _ _ _ rfl)).c a⟩
def FM.k{S w w'}(h:FM w w'):Sy S w w':=⟨λk c t b a ht=>h.kept k c t b a qy qy,λk _ _ _ a=>h.ao k _ a (λ_ _ _ e=>qo)⟩
def FM.aa{B w w' e m v n xs}(h:FM w w')(b:w.ownsRow B e m v n xs)(f:e≠165)(g:e≠159):w'.ownsRow B e m v n xs:=
 Ci b λk d=>by
  obtain⟨c,a⟩:=A7 b d
  rw[h.kept k _ _ _ a f g,a]
def NF.fm{w w' base e mb f g L j V QQ}(h:NF w base e mb f g L j V QQ)(a:FM w w'):NF w' base e mb f g L j V QQ:=
 ⟨a.kept _ _ _ _ h.box qi qi,a.aa h.row qi qi,h.aW,h.aP,λi x b v c d hv=>by
  obtain⟨k,l,m,n⟩:=h.node i x b v c d hv
  exact⟨a.kept _ _ _ _ k qi qi,l,m,a.aa n qi qi⟩,λx c=>⟨(h.aM x c).1,a.aa (h.aM x c).2 qi qi⟩,h.apart⟩
def PD.fm{w w' B ca cc a d X U A b}(h:PD w B ca cc a d X U A b)(e:FM w w'):PD w' B ca cc a d X U A b:=
 h.ar λk c t g f ht=>e.kept k c t g f qE qE
def Gg.fm{w w' B a c P A b}(h:Gg w B a c P A b)(f:FM w w'):Gg w' B a c P A b:=
 h.ar λk c t e d ht=>f.kept k c t e d qt qt
def Jg.fm{adr U w w'}(h:Jg adr U w)(d:FM w w'):Jg adr U w':=λf e=>(h f e).keep λg c t b a ht=>d.kept g c t b a qB qB
structure Mg(N:NT) (adr:F->Addr) (U fs:Ab) (V:Aj) (olds:C_) (ms:As) (P:List Px) (w:Aa):Prop where
 ok:G_ N
 bx:Fj N adr U fs V w
 st:Db N adr U (N.vw V fs) (λ_=>gV (N.vw V fs)) olds w
 ol:olds.length=N.Ms.length
 bz:∀(i:Nat)(m:MK),N.Ms[i]?=some m->∃x d,P[i]?=some x/\ms[i]?=some d/\m.X=x.X/\m.ca=x.ca/\m.bA d
 bB:∀(i:Nat)(m:MK)(old:Av),N.Ms[i]?=some m->olds[i]?=some old->old.Perm ((DD (m.X.map (DV (N.vw V fs))) []).map (Ae adr))
def MK.ea:MK->TypeId
 |.inl _=>248
 |.inr _=>256
def MK.cm(m:MK):m.val=.iface m.ea m.bv:=by cases m<;>rfl
def Ze (m:MK) (u):Sem.run prog (method 525 m.ea m.bv "loop.example/s01311/impl.conflict") u=.ok (m.dG,m.bv) u:=by
 cases m with
 |inl O=>exact wZ _ _
 |inr t=>exact wK _ _
def ZY(m:MK):∀args w,(callFunc m.dG args).run prog w=.ok (.enter m.dG args) w:=by
 cases m with
 |inl O=>exact enters_of func302 qg rfl
 |inr t=>exact enters_of func307 qg rfl
def Nm{α:Type}{l}{x y:α}{i}(h:(l++[x])[i]?=some y):l[i]?=some y∨(i=l.length/\y=x):=by grind
def NT.more(N:NT)(ma:Af)(mc:Nat)(m:MK):NT:={ N with ma:=ma,mc:=mc,Ms:=N.Ms++[m] }
def tS(h:P:=by
 rcases Nm h2 with h2|⟨_,rfl⟩
 .have:=(yf.1 h2).1;have:=h.ol;omega
 rfl
 ):=h
def Mg.more{N adr U fs V b ms P w T s f m K x d n p}(h:Mg N adr U fs V b ms P w)(hF:Id adr U fs)(aG:N.fb<w.heap.size)(hx:P[N.Ms.length]?=some x)(hd:ms[N.Ms.length]?=some d)(hl:N.Ms.length<1000)(aF:PD w N.B x.ca x.cc x.va x.vc x.X x.U (N.L.map Prod.fst) N.bs)(W:m.X=x.X)(Y:m.ca=x.ca)(o:m.Ok)(aA:m.bA d)(l:∀g,m.S g->w.heap.size<=g)(ax:Bw w T)(aD:m.St adr U (N.vw V fs) (gV (N.vw V fs)) K s)(hK:K.Perm ((DD (m.X.map (DV (N.vw V fs))) []).map (Ae adr)))(ay:AM m.S T s)(t:FM s f)(Z:Bk f (N.nw) #[Pn N.gb,.map (some N.fb),.slice n (N.Ms.length+1) p] 159)(aw:f.ownsRow N.B 165 1 (.slice n (N.Ms.length+1) p) (N.Ms.length+1) (N.Ms.map MK.val++[m.val])) :
  Mg (N.more n p m) adr U fs V (b++[K]) ms P f:=by
 have C:Bw w s:=AM.aU ax ay l;have hlt:=λm'(O:m'∈N.Ms)g(q:MK.S m' g)=>h.st.lt h.ol O g q;have r:FM w f:=(FM.u C).c t;have az:=h.bx.nf.fm r;have aB:=h.bx.us.fm r;have aE:∀m'∈(N.more n p m).Ms,∃cc z y D,PD f N.B m'.ca cc z y m'.X D (N.L.map Prod.fst) N.bs:=λm' O=>by
  rcases yp.1 O with O|O
  .obtain⟨cc,z,y,D,hp⟩:=h.bx.pd m' O;exact⟨cc,z,y,D,hp.fm r⟩
  rw[yw.1 O,W,Y];exact⟨_,_,_,_,aF.fm r⟩
 have M:Fj (N.more n p m) adr U fs V f:=⟨by simpa[NT.more] using Z,az,by simpa[NT.more] using aw,aE,aB,yi h.bx.hb r.rest.size⟩
 have hbase:N.base<=w.heap.size:=h.bx.hb;refine⟨⟨λm' O=>?_,λi j m1 m2 a h2 aC g v A=>?_,λm' O q=>?_,h.ok.cr,h.ok.len,by simp[NT.more];omega,λm' O g q=>?_,h.ok.eJ⟩,M,λi m' old a h2=>?_,by simp[NT.more,h.ol],λi m' a=>?_,λi m' old a h2=>?_⟩
 .rcases yp.1 O with O|O
  .exact h.ok.ok m' O
  rw[yw.1 O];exact o
 .rcases Nm a with G|⟨J,f1⟩<;>rcases Nm h2 with E|⟨H,f2⟩
  .exact h.ok.apart i j m1 m2 G E aC g v A
  .have:=hlt m1 (yd G) g v;have:=l g (f2▸A);omega
  .have:=hlt m2 (yd E) g A;have:=l g (f1▸v);omega
  omega
 .rcases yp.1 O with O|O
  .exact h.ok.dr m' O q
  rw[yw.1 O]at q;have:w.heap.size<=N.fb:=l _ q;omega
 .rcases yp.1 O with O|O
  .exact h.ok.dQ m' O g q
  rw[yw.1 O]at q;exact yi hbase (l g q)
 .obtain⟨R,p2,I⟩:=M.aV hF (yd a);rcases Nm a with a|⟨J,rfl⟩
  .rcases Nm h2 with h2|⟨H,rfl⟩
   .exact((h.st i m' old a h2).keep (S:=λ_=>False) (CK.u C) (AM.u C) (λ_ _ q=>q)).bF (h.ok.ok m' (yd a)) (λ_ _=>rfl) I R t.k
   have:=(yf.1 a).1;have:=h.ol;omega
  have e:old=K:=by
   exact tS
  rw[e];exact aD.bF o (λ_ _=>rfl) I R t.k
 .rcases Nm a with a|⟨rfl,rfl⟩
  .exact h.bz i m' a
  exact⟨x,d,hx,hd,W,Y,aA⟩
 rcases Nm a with a|⟨J,rfl⟩
 .rcases Nm h2 with h2|⟨H,rfl⟩
  .exact h.bB i m' old a h2
  have:=(yf.1 a).1;have:=h.ol;omega
 have e:old=K:=by
  exact tS
 rw[e];exact hK
end
def IB(m:Int):Bool:=decide (m=0)||decide (m=1)
def Jw(ms:As)(count:Int):Bool:=ms.all IB&&decide ((ms.length:Int)=count)
def si(h:P:=by go_wp2;exact⟨⟨k+1,by go_num,by omega,by rw[Yc,HX.o,iZ,HA.o];rfl,trivial⟩,by simp;omega⟩):=h
def zjO(a c ms count){q}(w)(hv:CJ q w a ms)(hl:ms.length<=1048576) :
  Ca 43 #[.slice a ms.length c,I6 count] w λe w'=>e=.returned (.bool (Jw ms count))/\w'=w:=by
 have l:=Ad hv;go_enter func43,ntmps43;go_wp2
 go_loopw [9] (λiv wr=>∃k:Nat,iv=I6 (k:Int)/\k<=ms.length/\(ms.take k).all IB=true/\wr=w) (mz ms.length)
 .exact⟨0,rfl,yn _,rfl,rfl⟩
 obtain⟨k,rfl,x,O,rfl⟩:=hrel;have HA:=Ad O;by_cases d:k<ms.length
 .obtain⟨m,f⟩:=Bq d;obtain⟨b,o,rfl,_,n⟩:=l.get f;obtain⟨s,t⟩:=CZ d;have HX:=Ad f;by_cases h0:m=0
  .subst h0;exact si
  by_cases h1:m=1
  .subst h1;exact si
  have r:(m != 0)=true:=qK;have u:(m != 1)=true:=qx;go_wp2_with fail;have i:Jw ms count=false:=by
   have j:ms.all IB=false:=by
    rw[List.all_eq_false];exact⟨m,yd HX,by simp[IB,h0,h1]⟩
   simp[Jw,j]
  exact bodyPost_ret (v:=.bool false) (by simp[results,results43,go_sem]) rfl ⟨by rw[i],rfl⟩
 obtain rfl:k=ms.length:=qd;have p:¬(ms.length:Int)<(ms.length:Int):=qd;go_wp2_with fail;have g:Jw ms count=decide ((ms.length:Int)=count):=by
  have:=HA.o;rw[yZ]at this;simp[Jw,this]
 rw[g];go_ret;exact⟨rfl,rfl⟩
section
open Go.Maps
def L6(nw gb base:Nat)(la:Af)(lc:Nat)(L:CD)(bs:A5)(fb:Nat)(ma:Af)(mc:Nat)(Ms:List MK):NT:=⟨nw,gb,base,base,la,lc,L,bs,fb,ma,mc,Ms,base⟩
def adr0:F->Addr:=λ_=>⟨0,0,none⟩
structure N0(N:NT) (adr:F->Addr) (U fs:Ab) (V:Aj) (olds:C_) (rs:Az) (ms:As) (w:Aa):Prop where
 ok:G_ N
 bx:Fj N adr U fs V w
 st:Db N adr U (N.vw V fs) (λ_=>gV (N.vw V fs)) olds w
 ol:olds.length=N.Ms.length
 len:N.Ms.length=rs.length
 bz:∀(i:Nat)(m:MK)(r:Ru),N.Ms[i]?=some m->rs[i]?=some r->∃d,ms[i]?=some d/\m.X.map Cx.cp=CO r.x [] 0/\m.bA d
 bB:∀(i:Nat)(m:MK)(old:Av),N.Ms[i]?=some m->olds[i]?=some old->old.Perm ((DD (m.X.map (DV (N.vw V fs))) []).map (Ae adr))
def Mg.aG{N:NT}{adr:F->Addr}{U fs:Ab}{V:Aj}{a:C_}{rs:Az}{ms:As}{P:List Px}{w:Aa}(h:Mg N adr U fs V a ms P w)(O:IL P rs rs.length)(hl:N.Ms.length=rs.length):N0 N adr U fs V a rs ms w:=
 ⟨h.ok,h.bx,h.st,h.ol,hl,λi m r b j=>by
  obtain⟨x,d,g,f,c,_,e⟩:=h.bz i m b
  exact⟨d,f,by rw[c];exact(O.2 i x r g j).1,e⟩,h.bB⟩
def xW(rs:Az)(ms:As)(w:Aa)(e:Ending)(w':Aa):Prop:=∃(N:NT)(adr:F->Addr)(V:Aj)(olds:C_),e=.returned (.pointer (some ⟨N.nw,0,none⟩))/\N0 N adr [] [] V olds rs ms w'/\w'.heap[N.fb]?=some (.map #[] 0)/\Bw w w'/\N.base=w.heap.size/\N.B=w.heap.size
def Lc:Aj:=[.func (.func 92) #[] #[],.func (.func 93) #[] #[]]
def wD:(prog.info? 165).map (λi=>(i.zero,i.size,i.bytes))=some (some .nilIface,1,16):=qg
def zqY{P:Aa->Prop}{w:Aa}{b:Nat}{t:TypeId}{x0 x1 c O:Value}(a:Bk w b #[x0,x1,c] t)(h:∀wt,Bk wt b #[x0,x1,O] t->Turned w wt b->P wt):P (w.setCell ⟨b,2,none⟩ O):=h _ (by have:=C7 (i:=2) a O;simpa using this) (Turned.setCells [O] 2 w b)
def x8:(prog.info? 163).map (·.size)=some 2:=qg
def zsm:∀v∈Lc,v.oneCell'=true:=by
 intro v hv;simp only[Lc,yW,Yw,or_false]at hv;rcases hv with rfl|rfl<;>rfl
def tC(h:P:=by injection this with this;injection this with _ this;exact absurd this (by decide)):=h
def zo9(rs:Az)(ms:As)(a:Af)(c:Nat)(am:Af)(cm:Nat){q q':AD}(w:Aa)(hv:Fg q w a rs)(cr:FD Ru.le 1048576 rs)(cu:∀r∈rs,∀p∈r.x,∀t∈p.s,ER t.val)(bg:(Cf rs).1=0)(cw:CJ q' w am ms)(cI:ms.all IB=true)(cV:ms.length=rs.length) :
  Ca 44 #[.slice a rs.length c,.slice am ms.length cm,.slice none 0 0] w (xW rs ms w):=by
 obtain⟨kl,K⟩:=N9.bP;obtain⟨HV,dj,dR,dP⟩:=BP hv cr cu cw;have ea:=(Tc bg).1;obtain⟨dF,dX,dV,ce⟩:=BP (λr(hr:r∈rs)=>Oy bg hr) bg cI cV;have dE:=rq (P:=prog) 156;clear hv cr cu cw bg cI cV;go_enter func44,ntmps44;go_wp2_with fail;refine(rp kl w).rtn λw3⟨br,bB⟩=>?_;obtain⟨G3,B3⟩:=An br bB;have ds:=bB.size;clear br bB;go_upto_region 2 with fail;refine BF ?_;intro b O af;have hA:Bw w3 (w3.alloc (.map #[] 0)):=Ar;have hz:(w3.alloc (.map #[] 0)).heap.size=w3.heap.size+1:=qf;unfold Bw at O;rw[hz]at af O;have bR:b.heap[w3.heap.size]?=some (.map #[] 0):=(O.block _ qd).c (heap_alloc_new w3 _);have hW:Bw w3 b:=hA.c (O.j qd);obtain⟨T,B5⟩:=An (G3.C hW) (B3.thn hW);have dD:w3.heap.size+1<b.heap.size:=Ap af;obtain⟨H,de⟩:=AF (w3.heap.size+1);obtain⟨I,cJ⟩:=AF w3.heap.size;obtain⟨R,cG⟩:=AF (w.heap.size+1);obtain⟨base,bM⟩:=AF w.heap.size;rw[<-de]at af dD⊢;rw[<-cJ]at af bR;rw[<-cG]at af T;have d7:base<=R:=qd;have cT:Hid (NS kl b base R base none 0 [] [] (.map [])):=by rw[bM];exact T
 obtain⟨Q5,M5⟩:=An af bR;have ah:w.heap.size<=base:=qd;have cY:base<=b.heap.size:=by have:=B5.size;omega
 have dI:base<=H:=by have:=B3.size;omega
 have dU:base<=I:=by have:=B3.size;omega
 have cv:I≠base:=by have:=G3.map.lt;omega
 have cL:=Ad bM;clear hA hz bR hW O af T G3 B3 de cJ cG bM dE ds;go_wp2
 go_loopw [22,8] (λiv pv wr=>∃(k:Nat)(pa:Af)(pc:Nat)(P:List Px)(la:Af)(lc:Nat)(L:CD)(bs:A5)(D:DataW Unit),iv=I6 (k:Int)/\pv=.slice pa P.length pc/\k<=rs.length/\P.length<=k/\IL P rs k/\L.length<=6*k/\(∀x∈L,x.1.y.length<=6)/\NS kl wr base R base la lc L bs D/\Gg wr base pa pc P (L.map Prod.fst) bs/\Bw w wr/\base<=wr.heap.size/\Bk wr H #[Pn R,.map (some I),.slice none 0 0] 159/\wr.heap[I]?=some (.map #[] 0)) (λiv _ _=>rs.length-(intOf iv).toNat)
 .exact⟨0,none,0,[],none,0,[],[],_,rfl,rfl,yn _,yA _,⟨rfl,λi x r hx=>qF⟩,yA _,λx hx=>qF,cT,⟨yJ _ _ _ _,λx hx=>qF⟩,B5,cY,Q5,M5⟩
 obtain⟨k,pa,pc,P,la,lc,L,bs,D,rfl,rfl,dW,ed,cy,d9,bz,cF,bo,hB,cC,hQ,df⟩:=hrel;obtain⟨PX,cO,G,PL,B,QN,Z⟩:=LG cy bz cF bo hB hQ df;clear cy bz cF bo hB hQ df cT B5 Q5 M5;by_cases hk:k<rs.length
 .obtain⟨r,hr⟩:=Bq hk;obtain⟨rb,ro,aL,aR,aT,aV,aU,aY,rfl,_,c0,c1,c2,c3,c4,cR,_,_,_⟩:=HV.get hr;have d0:=zab B c0;have d1:=zab B c1;have d2:=zab B c2;have d3:=zab B c3;have d4:=zab B c4;have a5:=yd hr;obtain⟨dN,cH,_⟩:=dF r a5;obtain⟨co,HR⟩:=An (λw'(hN:NS kl w' base R base la lc L bs D)(hA:Bw w w')(hb:base<=w'.heap.size)=>rV kl K r aL aR aT aV aU aY base R base la lc L bs D w w' hA ah hb cR hN dN cH (dj.2 r a5).2.1.2 (dR r a5) qd cO) hr;obtain⟨z0,z1⟩:=CZ hk;clear c0 c1 c2 c3 c4 cR hr cH a5;go_upto_region 6 with fail;refine BF ?_;intro b O af;have y0:At b wr.heap.size 0 (.string r.name):=T_;have y1:At b wr.heap.size 1 (I6 r.aq):=T_;have y2:At b wr.heap.size 2 (.slice aL r.x.length aR):=T_;have y3:At b wr.heap.size 3 (.slice aT r.A.length aV):=T_;have y4:At b wr.heap.size 4 (.slice aU r.K.length aY):=T_;obtain⟨aD,aZ⟩:=An ((O.block _ (Ap QN)).c QN) ((O.block _ (yk.1 Z).1).c Z);have q0:=Bf (L:=[_,_,_]) aD (j:=0) rfl;obtain⟨T,dq,B5⟩:=AK (G.C O) (PL.C O) (B.thn O);have d5:=O.size;have cf:base<=b.heap.size:=qd;have aX:=Ad af;clear O af d0 d1 d2 d3 d4 G PL B QN Z;have bG:Bw b b.drew:=Au.drew;obtain⟨ay,bv,bE⟩:=AK (T.C bG) (dq.C bG) (B5.thn bG);refine wp_region_noPanic ?_;refine wp_region_held_drew (S:=(λu=>At u wr.heap.size 0 (.string r.name)/\At u wr.heap.size 1 (I6 r.aq)/\At u wr.heap.size 2 (.slice aL r.x.length aR)/\At u wr.heap.size 3 (.slice aT r.A.length aV)/\At u wr.heap.size 4 (.slice aU r.K.length aY)/\At u H 0 (Pn R))) qg ?_ (λhHeld=>?_)
  ·(try dsimp only);exact⟨y0,y1,y2,y3,y4,q0⟩
  refine sr 0 6 ?_;refine r1 6 λK hK=>?_;go_simp;refine(co b.drew ay bE cf).j ?_;rintro e M ⟨ap,ae,L',ag,D',ca,cc,va,vc,X,rfl,hX,cD,aC,ak,_,cK,bm,dZ,h6⟩;obtain⟨aJ,G6,dk,dQ,EX,dS,HX,H6⟩:=XD (ak.aa bv.row ay qi qi) cD (aC.lower (show base<=b.drew.heap.size from cf)) ak cK bm hX h6;have ec:b.heap.size<=M.heap.size:=ak.rest.size;have dz:base<=M.heap.size:=qd;have aS:∀k cs t,Bk b k cs t->t≠194->(Value.slice la L.length lc).ownBlock≠some k:=λk cs t hk ht e=>by
   obtain⟨c',ai⟩:=A7 T.row e;exact Cw hk ai ht
  have aM:Bk M H #[Pn R,.map (some I),.slice none 0 0] 159:=by
   have hl:=Ap aD;obtain⟨es,cl,aP⟩:=Lt T.map;refine(ak.block H hl (λe=>?_) (λe=>?_) (aS H _ _ aD qi)).c aD
   .have:=T.box;unfold GB at this;rw[<-e,aD.o]at this;exact tC
   rw[<-e,aD.o]at aP;cases aP
  have aO:Bk M (wr.heap.size) #[.string r.name,I6 r.aq,.slice aL r.x.length aR,.slice aT r.A.length aV,.slice aU r.K.length aY] 53:=by
   obtain⟨es,cl,aP⟩:=Lt T.map;refine(ak.block _ (Ap aX) (λe=>?_) (λe=>?_) (aS _ _ _ aX qi)).c aX
   .have:=T.box;unfold GB at this;rw[<-e,aX.o]at this;exact tC
   rw[<-e,aX.o]at aP;cases aP
  have hS:∀u:Aa,u.heap[H]?=M.heap[H]?->u.heap[wr.heap.size]?=M.heap[wr.heap.size]?->(At u wr.heap.size 0 (.string r.name)/\At u wr.heap.size 1 (I6 r.aq)/\At u wr.heap.size 2 (.slice aL r.x.length aR)/\At u wr.heap.size 3 (.slice aT r.A.length aV)/\At u wr.heap.size 4 (.slice aU r.K.length aY)/\At u H 0 (Pn R)):=λu Y h2=>by
   have k1:=Y.c aM;have k2:=h2.c aO;obtain⟨x0,x1,x2,x3,x4⟩:=Fq k2;exact⟨x0,x1,x2,x3,x4,Bf (L:=[_,_,_]) k1 (j:=0) rfl⟩
  have B6:=Ad (bE.c (ak.e bE.size (yi ah ay.bd.1) (yi ah ay.bd.2) (λg hg=>yi ah (ay.row.lt g hg).1)));have bu:M.heap[I]?=some (.map #[] 0):=by
   refine(ak.block I (yk.1 aZ).1 (λe=>?_) (λe=>cv e) (λe=>?_)).c aZ
   .have:=T.box;unfold GB at this;rw[<-e,aZ.o]at this;cases this
   obtain⟨c',ai⟩:=A7 T.row e;rw[Bk,aZ.o]at ai;cases ai
  obtain⟨bL,bJ,bU,bT,N⟩:=Ei bu hS aM aO (λo=>Au.alloc Bg o:∀o,Bw M (M.alloc o));have TY:=Ad (λo g hg=>A7 (AZ aJ (N o)) (k:=g) hg);clear hX cD aC ak cK bm h6 y0 y1 y2 y3 y4 q0 co aM aO hS aS bu;(try go_wp2_with fail);refine hK _ _ ?hS1 (λbk=>?_)
  case hS1=>exact bJ _ rfl rfl
  clear hK K hHeld;(try simp only[pQ]);refine r1 7 λK hK=>?_;go_simp;refine hK _ _ ?hS2 (λa4=>?_)
  case hS2=>exact bJ _ ((N _).block _ (Ap bU)) ((N _).block _ (Ap bT))
  clear hK K bk;(try simp only[pQ]);refine r1 8 λK hK=>?_;refine GG qh (.tmp 26) (.tmp 33) 97 qh base 102 _ 2 48 underlying97 kH qh qd _ P.length _ qh (AZ aJ (N _)) (some ⟨_,0,none⟩) 1 1 qh (JG ⟨ca,cc,va,vc,X,Ev r.x [] 0⟩) qh (λe=>qo) (CH _ _ _ _ qD) (kq _) qj qd (yi dz (N _).size) ?_;intro a7 c7 w7 ac n al;have dJ:=n.size;simp at dJ;have aI:∀(k:Nat)(cs:Bl)(t:TypeId),Bk M k cs t->t≠102->Bk w7 k cs t:=λk cs t hk ht=>by
   have aN:=Ap hk;refine(n.block k (yg aN (N _).size) (λe=>?_)).c (((N _).block k aN).c hk);obtain⟨c',ai⟩:=A7 aJ e.z;exact Cw hk ai ht
  have cS:=Ad (aI _ _ _ bU qi);have dM:=Ad (aI _ _ _ bT qi);have dw:=Ad (show w7.heap[I]?=some (.map #[] 0) from by
   have aN:=(yk.1 bL).1;refine(n.block I (yg aN (N _).size) (λe=>?_)).c (((N _).block I aN).c bL);obtain⟨c',ai⟩:=A7 aJ e.z;rw[Bk,bL.o]at ai;cases ai)
  obtain⟨dr,G7,B7,dt⟩:=BP (bv.push (x:=⟨ca,cc,va,vc,X,Ev r.x [] 0⟩) ay dQ EX dS dk n ac) ((G6.C (N _)).grown n (TY _) OI) ((B6.c ((N _).j B6.size)).grown n (yi B6.size (N _).size) (λg hg=>yi ah (aJ.lt g hg).1)) (PX.snoc (x:=⟨ca,cc,va,vc,X,Ev r.x [] 0⟩) HR HX rfl);have bY:base<=w7.heap.size:=qd;refine hK _ _ ?hS3 (λbc=>?_)
  case hS3=>exact bJ _ (cS.c bU.z) (dM.c bT.z)
  clear hK K a4 al ac n aI;(try simp only[pQ]);refine tk 9 bc ?_;(try simp only[pA,pZ,pS]);refine wpAnyH_done qg ?_ _;refine Yb ?_;go_wp2;exact⟨⟨k+1,a7,c7,P++[⟨ca,cc,va,vc,X,Ev r.x [] 0⟩],ap,ae,L',ag,D',qm,qf,qd,qe,dt.o,qd,H6.o,G7.o,dr.o,B7.o,bY,cS.o,dw.o⟩,qp⟩
 obtain rfl:k=rs.length:=qd;have hy:¬(rs.length:Int)<(rs.length:Int):=qd;have bQ:=Ad (NF.dN G);obtain⟨wQ,dd⟩:=AF wr;rw[<-dd]at bQ PL B QN Z cC⊢;clear G dd;go_wp2
 go_loopw [38] (λiv wr=>iv=I6 0/\wr=wQ) (λ_ _=>0)
 .exact⟨rfl,rfl⟩
 obtain⟨rfl,rfl⟩:=hrel;go_upto_region 15 with(first|(refine Ec qh 163 (.tmp 12) (.tmp 62) qh wr.heap.size Lc qh qh _ 163 (FP _ _ _ rfl) qh x8 zsm ?_;intro w8 cE ad)|fail);have aq:Bw wr w8:=Ar.c (ad.e Bg);obtain⟨b0,B8,ci⟩:=AK (PL.C aq) (B.thn aq) ((aq.block _ (yk.1 Z).1).c Z);have dm:L.length<=1000:=qd;have bV:base<=w8.heap.size:=yi cC aq.size;obtain⟨cg,bP⟩:=An (show Mg (L6 H R base la lc L bs I none 0 []) adr0 [] [] (List.replicate L.length (.slice none 0 0)) [] ms P w8 from⟨⟨λm hm=>(by cases hm),λi j m m' Y=>(by simp[L6]at Y),λm hm=>(by cases hm),λx hx=>yi (cO x hx) qd,dm,yn _,λm hm=>(by cases hm),dU⟩,⟨(aq.block _ (Ap QN)).c QN,bQ.C aq,yJ _ _ _ _,λm hm=>(by cases hm),λf hf=>JK,bV⟩,λi m old Y=>(by simp[L6]at Y),rfl,λi m Y=>(by simp[L6]at Y),λi m old Y=>(by simp[L6]at Y)⟩) cE;obtain⟨ab,b8⟩:=AF wr.heap.size;rw[<-b8]at bP⊢;have cP:P.length=rs.length:=PX.1;have cz:=Ad cP;clear b8 aq cE ad bQ PL B QN Z cP;go_wp2
 go_loopw [65] (λiv wr=>∃(ma:Af)(mc:Nat)(Ms:List MK)(E:C_),iv=I6 (Ms.length:Int)/\Ms.length<=P.length/\Mg (L6 H R base la lc L bs I ma mc Ms) adr0 [] [] (List.replicate L.length (.slice none 0 0)) E ms P wr/\Gg wr base pa pc P (L.map Prod.fst) bs/\wr.heap[I]?=some (.map #[] 0)/\Bk wr ab (Lc.toArray) 163/\Bw w wr) (λiv _=>P.length-(intOf iv).toNat)
 .exact⟨none,0,[],[],rfl,yn _,cg,b0,ci,bP,B8⟩
 obtain⟨ma,mc,Ms,E,rfl,dW,bW,b5,cQ,cd,hB⟩:=hrel;obtain⟨MG,PL,Z,AB,B⟩:=Ei bW b5 cQ cd hB;clear bW b5 cQ cd hB cg b0 ci bP B8;by_cases hk:Ms.length<P.length
 .obtain⟨x,hx⟩:∃x,P[Ms.length]?=some x:=⟨P[Ms.length],LV⟩
  have cn:Ms.length<rs.length:=by rw[<-cz.o];exact hk
  obtain⟨r,hr⟩:∃r,rs[Ms.length]?=some r:=⟨rs[Ms.length],by simp[cn]⟩
  obtain⟨d,hd⟩:∃d,ms[Ms.length]?=some d:=⟨ms[Ms.length]'(by rw[ce.o];exact cn),qf⟩
  obtain⟨xX,xU⟩:=PX.2 _ x r hx hr;have bw:=XW dX (yd hr) xX;have aC:=PL.V x (yd hx);obtain⟨p1,p2⟩:=aC.aV (m:=.inr ⟨x.X,x.ca,0,none,0,0,0,0,0,0⟩) (U:=[]) (fs:=[]) MG.bx.nf MG.bx.us.J (λf hf=>hf);have cB:=k9 (U:=[]) (fs:=[]) p2 (λf hf=>hf) Y4 qf;have bj:BV adr0 []:=λf hf=>by cases hf
  have key:=λj u(hj:(JG x)[j]?=some u)=>CG PL.row (Hf (cells:=JG) (m:=2) (λ_=>rfl) P Ms.length x j u hx hj);obtain⟨pb,di,_,h0,_⟩:=key 0 _ rfl;obtain⟨d6,az,_,Y,_⟩:=key 1 _ rfl;rw[di]at az;injection az with az;injection az with az;subst az;obtain⟨aH,aB,aA,aE,aF,aG⟩:=x;obtain⟨ef,dv,bC,bH,b6,dA,HD⟩:=LG xX aC cB p1 bw hx hd;obtain⟨cN,mo,dC,_,m0⟩:=dP.get hd;subst dC;subst di;have cq:=zab B m0;have dH:d=0∨d=1:=by
   have:=Y7.1 dV d (yd hd);simpa[IB] using this
  have z0:(0:Int)<=(Ms.length:Int):=qd;have z1:(Ms.length:Int)<(P.length:Int):=qd;have z2:(Ms.length:Int)<(ms.length:Int):=by rw[ce.o];omega
  have bZ:Ms.length<1000:=qd;have f0:=Bf (L:=Lc) AB (j:=0) rfl;have f1:=Bf (L:=Lc) AB (j:=1) rfl;simp only[Nat.add_zero]at h0;clear xX aC cB p1 p2 bw hx hd hr xU m0 key;have dl:JG ⟨aH,aB,aA,aE,aF,aG⟩=[.slice aH aF.length aB,.slice aA aG.length aE]:=rfl;clear dl;go_upto_region 18 with fail;refine BF ?_;intro b O af;have d8:=Ad O;obtain⟨y0,y1⟩:=AE af;have g0:=zab O f0;have g1:=zab O f1;have gm:=zab O cq;have cU:Bw wr b.drew:=O.drew;have bd:=Ad cU;have a1:=O.size;clear O af f0 f1 cq h0 Y cU;rcases dH with rfl|rfl
  focus
   have a6:=Ad (λ(u:Aa)(hb:Bw wr u)=>zkz aF adr0 [] (GV L bs (List.replicate L.length (.slice none 0 0)) []) aH aB aA aG.length aE b6 bC bj u (bH.W (CK.u hb)).cx (λf hf=>JK))
   go_region_held3 (λu=>At u cN (mo+Ms.length) (I6 0)/\At u ab 0 (.func (.func 92) #[] #[])/\At u wr.heap.size 0 (.slice aH aF.length aB)/\At u wr.heap.size 1 (.slice aA aG.length aE))
    ((go_split_ands;first|done|(refine⟨?_,?_,?_,?_⟩<;>first|assumption|with_reducible exact zab aK qk|exact zab Au.drew qk)))
    (first|(go_at_call 92;refine(a6 _ bd).j ?_;rintro e M ⟨m,rfl,a0,bS,bi,bD,aQ,bO,aK⟩)|fail)
  rotate_left
  focus
   have a6:=Ad (λ(u:Aa)(hb:Bw wr u)=>zjP aF adr0 [] (GV L bs (List.replicate L.length (.slice none 0 0)) []) aH aB aA aG.length aE b6 bC bj u (bH.W (CK.u hb)).cx (bH.W (CK.u hb)).nd (λf hf=>JK))
   go_region_held3 (λu=>At u cN (mo+Ms.length) (I6 1)/\At u ab 1 (.func (.func 93) #[] #[])/\At u wr.heap.size 0 (.slice aH aF.length aB)/\At u wr.heap.size 1 (.slice aA aG.length aE))
    ((go_split_ands;first|done|(refine⟨?_,?_,?_,?_⟩<;>first|assumption|with_reducible exact zab aK qk|exact zab Au.drew qk)))
    (first|(go_at_call 93;refine(a6 _ bd).j ?_;rintro e M ⟨m,rfl,a0,bS,bi,bD,aQ,bO,aK⟩)|fail)
  rotate_left
  all_goals
   obtain⟨dh,dY,du,dO,dT,ee,bX,bN,bK⟩:=L_ (bd.thn aK) a0 bS bi bD aQ (λg q=>yi bd.size (bO g q):∀g,m.S g->wr.heap.size<=g) (gh m aQ) (sD m adr0 [] _ [] M aQ bi bj (by rw[a0];exact bC));clear a0 bS bi bD aQ bO aK a6 y0 y1 g0 g1 gm;obtain⟨eb,bq⟩:=AF m.cb;rw[<-bq]at bN bK;clear bq;rw[MK.cm m];have q1:=λu=>Ze m u;have q2:=ZY m;go_wp2_with fail;refine bN.rtn λw7 dL=>?_;subst dL;go_wp2_with fail;refine bK.rtn λw8⟨⟨K,b7,dg⟩,cj,aW⟩=>?_;obtain⟨dy,dx,cM⟩:=AK b7 dg aW;have ao:Bw wr w8:=AM.aU dh aW bX;obtain⟨cZ,bl,bh⟩:=AK ao ((ao.block _ (Ap MG.bx.box)).c MG.bx.box) (AZ MG.bx.row ao);have bn:=Bf (L:=[_,_,_]) bl (j:=2) rfl;have ch:w8.frozen? ⟨H,2,none⟩=false:=by have:=bl.o;simp only[L6]at this;simp[World.frozen?,this]
   have bF:=ao.size;have ar:=Ad (λo=>Au.alloc Bg o:∀o,Bw w8 (w8.alloc o));have av:base<=w8.heap.size:=yi MG.bx.hb bF;simp only[L6]at bn;have dB:=Ad (MK.cm m);clear b7 dg cj aW ao bN bK q1 q2;go_upto_region 21 with(first|(at_builtin;refine Dp qh (.tmp 85) (.tmp 87) 157 qh base 165 _ 1 16 underlying157 wD qh qd _ Ms.length _ qh (AZ bh (ar _)) (some ⟨_,0,none⟩) 1 1 qh [.iface m.ea m.bv] qh (λe=>qo) (CH _ _ _ _ qD) (by intro u hu;rw[yw.1 hu];rfl) qj qd qe ?_;intro a9 c9 w9 bA bf dp;have aj:=Ad (E5 ((ar _).block _ (Ap bl) |>.c bl) bf (λk hk=>A7 (AZ bh (ar _)) hk) qi);have bt:=Bf (L:=[_,_,_]) aj (j:=2) rfl;have cA:w9.frozen? ⟨H,2,none⟩=false:=(by have:=aj.o;simp only[L6]at this;simp[World.frozen?,this]);simp only[L6]at bt)|fail);refine zqY aj ?_;intro a8 bp ax;have bI:FM w8 a8:=((FM.u (ar _)).c (FM.an bf (λk hk=>A7 (AZ bh (ar _)) hk))).c (FM.bo ax aj);have au:a8.ownsRow base 165 1 (.slice a9 (Ms.length+1) c9) (Ms.length+1) (Ms.map MK.val++[m.val]):=by
    rw[dB.o];refine Ci bA λk hk=>ax.block k λe=>?_;obtain⟨c',ai⟩:=A7 bA hk;subst e;exact Cw ai aj qi
   have c8:=Ad (MG.more (Id.mk bj (λf hf=>hf) Y4 qf) (yk.1 Z).1 dA HD bZ dv dY du dO dT bX dh dx dy cM bI bp au);have aw:FM wr a8:=(FM.u cZ).c bI;obtain⟨cW,b4,cX,dK⟩:=BP (PL.fm aw) (aw.ao _ _ Z (λ_ _ _ e=>qo)) (aw.kept _ _ _ _ AB qi qi) (show Bw w a8 from(((B.thn cZ).c ((ar _).j (yi B.size bF))).grown bf (yi (yi B.size bF) (ar _).size) (λg hg=>yi ah (bh.lt g hg).1)).c (ax.e (yi ah dI)));clear bp ax bI au aw bA bf dp aj bt cA bn ch;go_wp2;exact⟨⟨a9,c9,Ms++[m],E++[K],qf,(by rw[yM];exact hk),c8,cW,b4,cX,dK⟩,qp⟩
 obtain dG:Ms.length=P.length:=qd;have hy:¬(Ms.length:Int)<(P.length:Int):=qd;go_wp2;go_ret;exact⟨L6 H R base la lc L bs I ma mc Ms,adr0,_,E,rfl,MG.aG PX (dG.c cz),Z,B,cL,cL⟩
def Cg.fB{w base a n c fs xs}(h:Cg w base (.slice a n c) n fs xs):FX w a fs:=λi f d=>by
 obtain⟨b,o,e,H,J,sa,s,B,y⟩:=h.at i f d;refine⟨b,o,e,⟨⟨b,o+i*3,rfl,H,J,sa,s,B,y⟩,λN g=>?_,λr C K L G M t u=>?_⟩⟩
 .injection g with g;subst g;have j:(Value.slice a n c).ownBlock=some b:=by rw[e];rfl
  obtain⟨cs,O⟩:=A7 h.aa j;exact⟨cs,O⟩
 have D:=(yf.1 d).1;obtain⟨x,m⟩:∃x,xs[i]?=some x:=⟨xs[i]'(by rw[h.len];exact D),qf⟩
 obtain⟨⟨E,p,rfl⟩,A⟩:=h.V i f x d m;have l:some (Value.slice r C K)=some (.slice E f.v.length p):=by
  rw[<-L];obtain⟨k,q,_,I,_⟩:=CG h.aa ((Ry fs xs h.len i f _ d m 2 qd).c rfl);rw[e]at q;cases q;simpa using I
 injection l with l;injection l with z _ _;subst z;have j:(Value.slice r f.v.length p).ownBlock=some G:=by rw[t];rfl
 obtain⟨cs,O⟩:=A7 A j;exact⟨cs,_,O⟩
def zqz(k tag d sa n f a m c nx cp sg w)(h1:k≠1)(h2:k≠2)(h3:k≠3) :
  Ca 45 #[.agg #[I6 k,I6 tag,.string d,.slice sa n f],.agg #[.slice a m c,I6 nx,I6 cp,.bool sg]] w λe w'=>
   (∃q r xs,e=.returned (C6.ai.val q r)/\Cg w' w.heap.size (.slice q C6.ai.fs.length r) C6.ai.fs.length C6.ai.fs xs)/\Bw w w':=by
 have T:(k==1)=false:=qx;have U:(k==2)=false:=qw;have M:(k==3)=false:=OM;clear h1 h2 h3;go_enter func45,ntmps45;go_upto_region 1 with fail;refine BF ?_;intro l g o;have t:Bw w l:=(((y8 w.heap.size w).alloc Bg _).alloc qf _).c (g.j qe);have u:w.heap.size<=(w.alloc (.cells #[I6 k,I6 tag,.string d,.slice sa n f] 40)).heap.size:=qf;have E:At l w.heap.size 0 (I6 k):=by
  have s:(w.alloc (.cells #[I6 k,I6 tag,.string d,.slice sa n f] 40)).heap[w.heap.size]?=some (.cells #[I6 k,I6 tag,.string d,.slice sa n f] 40 (0,0)):=heap_alloc_new w _;have h1:Bk l (w.heap.size) #[I6 k,I6 tag,.string d,.slice sa n f] 40:=(g.block _ qe).c ((yN _ _ _ qf).c s);exact Bf (L:=[_,_,_,_]) h1 (j:=0) rfl
 obtain⟨b,i⟩:=AF (w.heap.size+1+1);have O:w.heap.size<=b:=qd;have p:((w.alloc (.cells #[I6 k,I6 tag,.string d,.slice sa n f] 40)).alloc (.cells #[.slice a m c,I6 nx,I6 cp,.bool sg] 27)).heap.size=b:=by simp[i]
 rw[p]at o;obtain⟨x0,x1,J,D,C,R,G,H,I,B,W,y,z,Y,N,A,K,x⟩:=Qc o rfl;clear g o u p;simp only[<-i];clear i;go_wp2;refine bodyPost_ret (v:=C6.ai.val none 0) (by simp[results,results45,go_sem,C6.val,C6.ai, *]) rfl ⟨⟨none,0,[],rfl,Cg.nil _ _⟩,?_⟩;exact(((((t.setCell O _).setCell O _).setCell O _).setCell O _).setCell O _).setCell O _
end
end Go.Proofs.YtikojfajahnhgaaGreat
