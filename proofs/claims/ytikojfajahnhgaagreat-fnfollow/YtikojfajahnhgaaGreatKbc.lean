import Derived.Test.YtikojfajahnhgaaGreatKaz
import Derived.Test.YtikojfajahnhgaaGreatKba
set_option linter.all false
set_option maxHeartbeats 12800000
set_option maxRecDepth 100000
namespace Go.Proofs.YtikojfajahnhgaaGreat
open Go.RowKit Go.Proofs.Tryz
attribute [local go_sem ↓] wp_at_zero wp_at_succ
attribute [local simp] At I6 Pn mzI Bk
attribute [local go_sem] At I6 Pn Bk
variable{P:Prop}
section
open Go.Maps
def Uj(t:TypeId):Bool:=[159,238,194,247,106,320,165,197,330,277,145,187,263,339,336,252,258].contains t
def NT.Sm(N:NT)(k:Nat):Prop:=∃m∈N.Ms,m.S k
structure K0(S:Nat->Prop) (A B:Aa):Prop where
 rest:Below 0 A B
 kept:∀(k:Nat)(c:Bl)(t:TypeId)(fr:Nat × Nat),A.heap[k]?=some (.cells c t fr)->Uj t=true->B.heap[k]?=some (.cells c t fr)
 ao:∀(k:Nat)es cl,A.heap[k]?=some (.map es cl)->S k->B.heap[k]?=some (.map es cl)
structure KN(S:Nat->Prop) (A B:Aa):Prop extends K0 S A B where
 eN:∀(k:Nat)(o:Obj),A.heap[k]?=some o->NG o=true->B.heap[k]?=some o
def KN.c{S A B C}(h:KN S A B)(k:KN S B C):KN S A C:=⟨⟨h.rest.c k.rest,λj c t e hj f=>k.kept j c t e (h.kept j c t e hj f) f,λj es d hj a=>k.ao j es d (h.ao j es d hj a) a⟩,λj o hj b=>k.eN j o (h.eN j o hj b) b⟩
def KN.u{S A B}(h:Bw A B):KN S A B:=⟨⟨h.j (yn _),λk _ _ _ a _=>(h.block k (Ap a)).c a,λk _ _ a _=>(h.block k (yk.1 a).1).c a⟩,λk _ a _=>(h.block k (yk.1 a).1).c a⟩
def KN.bg{S A l o o'}(h:A.heap[l]?=some o)(b:FF o=true)(f:NG o=false):KN S A (A.putObj l o'):=⟨⟨⟨rfl,rfl,rfl,by simp[World.putObj],λ_ q=>absurd q qd⟩,λk c t i a _=>by
 rw[Yr (λe=>by subst e;rw[h]at a;cases a;cases b)];exact a,λk es g a _=>by
 rw[Yr (λe=>by subst e;rw[h]at a;cases a;cases b)];exact a⟩,λk O a d=>by
 rw[Yr (λe=>by subst e;rw[h]at a;cases a;rw[f]at d;cases d)];exact a⟩
def K0.aa{S B w w' e m v n xs}(h:K0 S w w')(b:w.ownsRow B e m v n xs)(f:Uj e=true):w'.ownsRow B e m v n xs:=
 Ci b λk d=>by
  obtain⟨c,a⟩:=A7 b d
  rw[h.kept k _ _ _ a f,a]
def NF.kn{S w w' base e mb f g L j V QQ}(h:NF w base e mb f g L j V QQ)(a:K0 S w w'):NF w' base e mb f g L j V QQ:=
 ⟨a.kept _ _ _ _ h.box qi,a.aa h.row qi,h.aW,h.aP,λi x b v c d hv=>by
  obtain⟨k,l,m,n⟩:=h.node i x b v c d hv
  exact⟨a.kept _ _ _ _ k qi,l,m,a.aa n qi⟩,λx c=>⟨(h.aM x c).1,a.aa (h.aM x c).2 qi⟩,h.apart⟩
def Jg.kn{S adr U w w'}(h:Jg adr U w)(d:K0 S w w'):Jg adr U w':=λf e=>(h f e).keep λg c t b a ht=>d.kept g c t b a qB
def Fj.kn{S N adr U fs V w w'}(h:Fj N adr U fs V w)(a:K0 S w w'):Fj N adr U fs V w':=
 ⟨a.kept _ _ _ _ h.box qi,h.nf.kn a,a.aa h.row qi,λm g=>by
  obtain⟨cc,f,d,i,b⟩:=h.pd m g
  exact⟨cc,f,d,i,b.ar λk c t j e ht=>a.kept _ _ _ _ e qE⟩,h.us.kn a,yi h.hb a.rest.size⟩
structure Ft(N:NT) (adr:F->Addr) (U fs:Ab) (V:Aj) (olds:C_) (w:Aa):Prop where
 ok:G_ N
 bx:Fj N adr U fs V w
 lk:Id adr U fs
 st:Db N adr U (N.vw V fs) (λ_=>gV (N.vw V fs)) olds w
 ol:olds.length=N.Ms.length
def Ft.kn{N adr U fs V a w w'}(h:Ft N adr U fs V a w)(b:K0 N.Sm w w'):Ft N adr U fs V a w':=
 ⟨h.ok,h.bx.kn b,h.lk,λi m old f n=>by
  have d:=yd f
  obtain⟨l,q,g⟩:=(h.bx.kn b).aV h.lk d
  exact(h.st i m old f n).bF (h.ok.ok m d) (λ_ _=>rfl) g l ⟨λk c t p e ht=>b.kept k c t p e qy,λk es o j e=>b.ao k es o e ⟨m,d,j⟩⟩,h.ol⟩
def Ft.tn{N adr U fs V b d w w'}(h:Ft N adr U fs V b w)(f:Tn (λ_=>False) FF d w w'):Ft N adr U fs V b w':=by
 have g:CK w w':=λk c t o e=>f.block k _ e (λq=>q) (.inl rfl);exact⟨h.ok,h.bx.W g f.rest.size,h.lk,λi m old n s=>by
  have j:=yd n;obtain⟨r,v,p⟩:=(h.bx.W g f.rest.size).aV h.lk j;exact(h.st i m old n s).bF (h.ok.ok m j) (λ_ _=>rfl) p r ⟨λk c t o e _=>g k c t o e,λk es u _ e=>f.block k _ e (λq=>q) (.inl rfl)⟩,h.ol⟩
theorem Ft.e{N adr U fs V a w w'}(h:Ft N adr U fs V a w)(b:Bw w w'):Ft N adr U fs V a w':=h.kn (KN.u b).toK0
def Ft.set{N adr U fs V a w w' i m K}(h:Ft N adr U fs V a w)(d:N.Ms[i]?=some m)(hS:m.St adr U (N.vw V fs) (gV (N.vw V fs)) K w')(g:CK w w')(f:AM m.S w w'):Ft N adr U fs V (a.set i K) w':=
 ⟨h.ok,h.bx.W g f.rest.size,h.lk,λj m' old b c=>by
  by_cases e:j=i
  .subst e
   rw[d]at b
   cases b
   have hl:j<a.length:=by rw[h.ol];exact(yf.1 d).1
   rw[Y3 hl]at c
   cases c
   exact hS
  rw[YO (λq=>e q.z)]at c
  exact(h.st j m' old b c).keep g f (h.ok.apart j i m' m b d e),by rw[List.length_set];exact h.ol⟩
def BD.kn{S w w' b r L a}(h:BD w b r L a)(e:KN S w w')(j:S b):BD w' b r L a:=by
 obtain⟨es,d,since,seen,i,k,p,n,q,f,m⟩:=h.Y;exact⟨⟨es,d,since,seen,i,e.ao b _ _ k j,p,n,q,e.eN r _ f rfl,m⟩,h.nd,λy l=>(h.ok y l).bc λg c o=>e.kept g c _ _ o qi⟩
def zon{P mt g j w b L}(l:P.underlying mt=some (.map g j))(h:Ao w b L):∃o,(Instr.range mt (.map (some b))).run P w=.ok (Pn w.heap.size) (w.alloc o)/\BD (w.alloc o) b w.heap.size L (L.map Prod.fst):=by
 obtain⟨es,a,d,he,f,O⟩:=h.Y;refine⟨.mapIter (some b) a #[] a,?_,⟨⟨es,a,a,#[],a,?_,he,f,O,heap_alloc_new _ _,O,yA _,yA _,?_⟩,h.nd,λy i=>(h.ok y i).e Ar⟩⟩
 .simp[Instr.range,run_underlying l,gM d,newObj,Sem.run]
 .exact(yN _ _ _ h.lt).c d
 have k:(leftOf es #[]).toList=es.toList:=by simp[leftOf]
 rw[k];exact uC
def wB{adr U T w}(h:Ch adr U w)(c:∀f∈T,f∈U)(hl:T.length<=3):GZ w (Ae adr T).1 (Ae adr T).2.1 (Ae adr T).2.2 T:=by
 have b:∀i,T.length<=i->T[i]?=none:=λi a=>YN a;refine⟨λi f a=>?_,λq=>by simp[Ae,b 0 q],λq=>by simp[Ae,b 1 q],λq=>by simp[Ae,b 2 q],hl⟩;have d:=(h f (c f (yd a))).1;have hi3:i<3:=yg (yf.1 a).1 hl;refine⟨.pointer (some (adr f)),?_,d⟩;rcases(show i=0∨i=1∨i=2 by omega) with rfl|rfl|rfl<;>simp[Ae,a]
structure QP(adr:F->Addr) (U:Ab) (old now:Av) (L:List (Ab × Int)):Prop where
 nd:(L.map (λy=>Ae adr y.1)).Nodup
 ok:∀y∈L,y.1.length<=3/\(∀f∈y.1,f∈U)/\y.2=CF (Ae adr y.1) now-CF (Ae adr y.1) old/\y.2≠0
 all:∀x,CF x now-CF x old≠0->∃y∈L,Ae adr y.1=x
def L7(i:Nat)(L:List (Ab × Int)):List (It × Int):=L.map λy=>(⟨(i:Int),y.1.map (·.tag)⟩,y.2)
def Ht:Nat->List (List (Ab × Int))->List (It × Int)
 |_,[]=>[]
 |i,L::r=>L7 i L++Ht (i+1) r
def ZZ:∀(i:Nat)(a:List (List (Ab × Int)))(L:List (Ab × Int)),Ht i (a++[L])=Ht i a++L7 (i+a.length) L
 |i,[],L=>by simp[Ht]
 |i,M::r,L=>by
  rw[Yz,Ht,Ht,ZZ (i+1) r L,yY,Ya,show i+1+r.length=i+(r.length+1) by omega]
structure Ne where
 it:It
 sl:Value
 sg:Int
abbrev Dl:=List Ne
def j7(e:Ne):Bl:=#[.agg #[.int .i64 e.it.T,e.sl],.int .i64 e.sg]
def Iz(e:Ne):It × Int:=(e.it,e.sg)
def jj(pre:Dl)(e:Ne)(A B:Aa):Prop:=pre.length<=2000000000/\(∃a c,e.sl=.slice a e.it.G.length c)/\B.ownsRow A.heap.size 3 1 e.sl e.it.G.length (Ay e.it.G)/\e.it.G.length<=3/\(e.sg=1∨e.sg = -1)
def Hb(N:NT)(adr:F->Addr)(U fs:Ab)(V:Aj)(olds:C_)(xs:Dl)(W:Aa):Prop:=
 ∃ (Ls:List (List (Ab × Int))) (olds':C_),xs.length<=2000000000/\xs.map Iz=Ht 0 Ls/\Ls.length=N.Ms.length/\Ft N adr U fs V olds' W /\
  (∀(i:Nat)(m:MK)(old:Av)(L:List (Ab × Int)),N.Ms[i]?=some m->olds[i]?=some old->Ls[i]?=some L->QP adr U old ((DD (m.X.map (DV (N.vw V fs))) []).map (Ae adr)) L) /\
  (∀(i:Nat)(m:MK)(old:Av),N.Ms[i]?=some m->olds'[i]?=some old->old.Perm ((DD (m.X.map (DV (N.vw V fs))) []).map (Ae adr)))
def Hb.tn{N adr U fs V b xs d w w'}(h:Hb N adr U fs V b xs w)(f:Tn (λ_=>False) FF d w w'):Hb N adr U fs V b xs w':=by
 obtain⟨j,olds',O,g,n,m,k,e⟩:=h;exact⟨j,olds',O,g,n,m.tn f,k,e⟩
def Hb.kn{N adr U fs V a xs w w'}(h:Hb N adr U fs V a xs w)(c:K0 N.Sm w w'):Hb N adr U fs V a xs w':=by
 obtain⟨e,olds',O,d,g,f,i,b⟩:=h;exact⟨e,olds',O,d,g,f.kn c,i,b⟩
def Tn.dH{S d A B r o}(h:BU (some r) A B)(f:A.heap[r]?=some o)(i:NG o=true)(hd:d<=r):Tn S NG d A B:=⟨h.rest,λg O b _ a=>(h.block g (yk.1 b).1 (λe=>by
 injection e with e;subst e;rw[f]at b;cases b;rcases a with a|a
 .rw[i]at a;cases a
 omega)).c b⟩
def Tn.aF{S O p d A B}(h:AM O A B)(b:∀g,O g->S g):Tn S p d A B:=⟨h.rest,λg _ a e _=>(h.block g (yk.1 a).1 (λq=>e (b g q))).c a⟩
def BD.it{w b r L a}(h:BD w b r L a):∃o,w.heap[r]?=some o/\NG o=true:=by
 obtain⟨es,c,since,seen,e,_,_,_,_,d,_⟩:=h.Y;exact⟨_,d,rfl⟩
def L8(N:NT)(adr:F->Addr)(V:Aj)(fs:Ab)(m:MK):Av:=(DD (m.X.map (DV (N.vw V fs))) []).map (Ae adr)
structure Nl(N:NT) (adr:F->Addr) (U fs:Ab) (V:Aj) (olds:C_) (i:Nat) (Ls:List (List (Ab × Int))) (olds':C_) (pre:Dl) (d:Nat) (w:Aa):Prop where
 st:Ft N adr U fs V olds' w
 len:Ls.length=i
 pr:pre.map Iz=Ht 0 Ls
 fC:∀(j:Nat)(m:MK)(old:Av)(L:List (Ab × Int)),N.Ms[j]?=some m->olds[j]?=some old->Ls[j]?=some L->QP adr U old (L8 N adr V fs m) L
 eR:∀(j:Nat)(m:MK)(old:Av),j<i->N.Ms[j]?=some m->olds'[j]?=some old->old.Perm (L8 N adr V fs m)
 rest:∀j,i<=j->olds'[j]?=olds[j]?
 few:(Ht 0 Ls).length<=i*2000000
 sz:d<=w.heap.size
def Nl.cf{N adr U fs V a c olds' pre w d}(h:Nl N adr U fs V a N.Ms.length c olds' pre d w):Hb N adr U fs V a pre w:=
 ⟨c,olds',by
  have b:=congrArg List.length h.pr
  rw[yu]at b
  have e:=h.few
  have f:=h.st.ok.cJ
  have g:N.Ms.length*2000000<=1000*2000000:=YI _ f
  omega,h.pr,h.len,h.st,h.fC,λi m old b e=>h.eR i m old (yf.1 b).1 b e⟩
def Nl.next{N adr U fs V a i f olds' pre n w w' m old K L d}(h:Nl N adr U fs V a i f olds' pre d w)(k:N.Ms[i]?=some m)(s:a[i]?=some old)(t:QP adr U old (L8 N adr V fs m) L)(r:K.Perm (L8 N adr V fs m))(hS:Ft N adr U fs V (olds'.set i K) w')(o:n.map Iz=Ht 0 f++L7 i L)(u:L.length<=2000000)(l:d<=w'.heap.size):Nl N adr U fs V a (i+1) (f++[L]) (olds'.set i K) n d w':=by
 have hl:=h.len;refine⟨hS,MS,by rw[o,ZZ,Yj,hl],λj m' O p c b g=>?_,λj m' O hj c b=>?_,λj hj=>?_,?_,l⟩
 .rcases Nm g with g|⟨e,rfl⟩
  .exact h.fC j m' O p c b g
  rw[hl]at e;subst e;rw[k]at c;rw[s]at b;cases c;cases b;exact t
 .by_cases e:j=i
  .subst e;rw[k]at c;cases c;have hlt:j<olds'.length:=by rw[h.st.ol];exact(yf.1 k).1
   rw[Y3 hlt]at b;cases b;exact r
  rw[YO (λq=>e q.z)]at b;exact h.eR j m' O qd c b
 .rw[YO qd];exact h.rest j qd
 rw[ZZ,yM];have c:=h.few;have b:(L7 (0+f.length) L).length=L.length:=by simp[L7]
 omega
def Zx{M}(e:(M.map Prod.fst).Nodup){x v}(h:(x,v)∈M):AC x M=v:=by
 have f:M.find? (λy=>decide (y.1=x))=some (x,v):=by
  obtain⟨y,a⟩:∃y,M.find? (λy=>decide (y.1=x))=some y:=by
   cases b:M.find? (λy=>decide (y.1=x)) with
   |none=>exact absurd (KZ.1 b _ h) qf
   |some y=>exact⟨y,rfl⟩
  have c:y.1=x:=by simpa using List.find?_some a
  have d:=K3 a;rw[a,S_ e d h c]
 simp[AC,f]
def zs8{M x}(h:x ∉ M.map Prod.fst):AC x M=0:=by
 have:M.find? (λy=>decide (y.1=x))=none:=KZ.2 λy a q=>h (by
  simp only[decide_eq_true_eq]at q;rw[<-q];exact yS a)
 simp[AC,this]
def xg{adr U old K a M c}(d:CP old K M)(l:K.Perm a)(k:(M.map Prod.fst).Nodup)(g:(M.map Prod.fst).Perm (c.map (λy=>Ae adr y.1)))(hd:∀y∈c,(Ae adr y.1,y.2)∈M/\y.1.length<=3/\∀f∈y.1,f∈U):QP adr U old a c:=by
 refine⟨g.nodup_iff.1 k,λy b=>?_,λx i=>?_⟩
 .obtain⟨j,o,m⟩:=hd y b;refine⟨o,m,?_,d.nz _ j⟩;rw[<-gC l,<-d.cnt,Zx k j]
 rw[<-gC l,<-d.cnt]at i;have n:x∈M.map Prod.fst:=by
  refine W0 λq=>i (zs8 q)
 obtain⟨y,b,e⟩:=yv.1 (g.mem_iff.1 n);exact⟨y,b,e⟩
def Ft.fD{N adr U fs V a S w w'}(h:Ft N adr U fs V a w)(c:CK w w')(b:AM S w w')(d:∀m∈N.Ms,∀x,m.S x->¬S x):Ft N adr U fs V a w':=⟨h.ok,h.bx.W c b.rest.size,h.lk,h.st.keep c b d,h.ol⟩
def MK.cu(m:MK)(b:m.Ok){U vw}(hv:FL U m.X (gV vw)){T}(n:T∈DD (m.X.map (DV vw)) []):T.length<=3/\∀f∈T,f∈U:=by
 obtain⟨W,e,q⟩:=(Nr _ _ _).1 n;rw[Yg]at e;subst e;have hs:Ff (m.X.map (CB U)) []:=by
  cases m with
  |inl O=>exact(b U).sr
  |inr t=>exact b.2.2 U
 exact On hs (λc g x d=>yh.1 ((hv c g).1 x d)) q qf qf
def CS.nodup{w cb nb wb T M}(h:CS w cb nb wb T M):(M.map Prod.fst).Nodup:=by
 have:=h.ak.nd;rwa [U6]at this
def nr{α:Type}[DecidableEq α]{x}:∀{l:List α},x∈l->(l.filter (λy=>decide (y≠x))).length<l.length:=qf
def kG{α:Type}[DecidableEq α]:∀{l l':List α},l.Nodup->(∀x∈l,x∈l')->l.length<=l'.length
 |[],_,_,_=>yn _
 |x::l,l',hn,h=>by
  have a:=kG (l:=l) (l':=l'.filter λy=>decide (y≠x)) (Yo.1 hn).2 λy hy=>yh.2 ⟨h y Ny,by
   simp only[ne_eq,decide_eq_true_eq]
   intro e
   exact(Yo.1 hn).1 (e▸hy)⟩
  have b:=nr (h x qf)
  rw[Ya]
  omega
def zsr{adr old K}{E:Am}{M}(e:(M.map Prod.fst).Nodup)(f:CP old K M)(i:K.Perm (E.map (Ae adr))):M.length<=old.length+E.length:=by
 have b:∀x∈M.map Prod.fst,x∈old++K:=λx g=>by
  obtain⟨⟨O,z⟩,c,rfl⟩:=yv.1 g;have b:=Zx e c;rw[f.cnt O]at b;have a:=f.nz _ c;simp only at a;refine yp.2 ?_;by_cases d:O∈K
  .exact .inr d
  refine .inl (W0 λq=>a ?_);rw[<-b,JF d,JF q];rfl
 have a:=kG e b;rw[yu,yM,i.length_eq,yu]at a;exact a
def ztN{adr}{U:Ab}{old K}{E:Am}{M}(m:(M.map Prod.fst).Nodup)(g:CP old K M)(n:K.Perm (E.map (Ae adr)))(o:∀x∈old,∃T,x=Ae adr T/\T.length<=3/\∀f∈T,f∈U)(k:∀T∈E,T.length<=3/\∀f∈T,f∈U){x z}(h:(x,z)∈M):∃T,x=Ae adr T/\T.length<=3/\(∀f∈T,f∈U)/\(z=1∨z = -1):=by
 have a:=Zx m h;rw[g.cnt x]at a;have i:=g.nz _ h;simp only at i;have c:z=1∨z = -1:=by
  rcases RC x K with e|e<;>rcases RC x old with j|j<;>rw[e,j]at a<;>omega
 by_cases b:x∈K
 .obtain⟨T,d,e⟩:=yv.1 (n.mem_iff.1 b);exact⟨T,e.z,(k T d).1,(k T d).2,c⟩
 have O:x∈old:=W0 λq=>i (by rw[<-a,JF b,JF q];rfl);obtain⟨T,e,l,p⟩:=o x O;exact⟨T,e,l,p,c⟩
structure Ni(N:NT) (adr:F->Addr) (U fs:Ab) (V:Aj) (Ls:List (List (Ab × Int))) (olds':C_) (i wb r:Nat) (M:B_) (dn:List (Ab × Int)) (todo:Av) (pre:Dl) (w:Aa):Prop where
 st:Ft N adr U fs V olds' w
 rg:BD w wb r (iv M) todo
 pm:(M.map Prod.fst).Perm (dn.map (λy=>Ae adr y.1)++todo)
 ok:∀y∈dn,(Ae adr y.1,y.2)∈M/\y.1.length<=3/\∀f∈y.1,f∈U
 pr:pre.map Iz=Ht 0 Ls++L7 i dn
def Ni.few{N adr U fs V c olds' i wb r M b a pre w}(h:Ni N adr U fs V c olds' i wb r M b a pre w):b.length<=M.length:=by
 have:=h.pm.length_eq
 grind
def Ni.step{N adr U fs V d olds' i wb r M e a pre w w' x T z m}(h:Ni N adr U fs V d olds' i wb r M e a pre w)(O:x=Ae adr T)(n:(x,z)∈M)(o:T.length<=3)(g:∀f∈T,f∈U)(l:x∈a)(s:(M.map Prod.fst).Nodup)(hS:Ft N adr U fs V olds' w')(p:BD w' wb r (iv M) (a.filter (λy=>decide (y≠x)))):Ni N adr U fs V d olds' i wb r M (e++[(T,z)]) (a.filter (λy=>decide (y≠x))) (pre++[⟨⟨(i:Int),T.map (·.tag)⟩,m,z⟩]) w':=by
 subst O;refine⟨hS,p,?_,λy b=>?_,?_⟩
 .have j:=(h.pm.nodup_iff.1 s)
  have q:(a.map id).Nodup:=by rw[KE];exact(yL.1 j).2.1
  have:=Tf (k:=id) q l;simp only[id]at this;rw[yz,yY];exact h.pm.c (List.Perm.append_left _ this)
 .rcases yp.1 b with b|b
  .exact h.ok y b
  rw[yw.1 b];exact⟨n,o,g⟩
 rw[yz,h.pr];simp[L7,Iz]
def zqj(N adr U fs V a bb l W)(h:Ft N adr U fs V a W)(C:∀(j:Nat)(old:Av),a[j]?=some old->∀x∈old,∃T,x=Ae adr T/\T.length<=3/\∀f∈T,f∈U)(hB:∀(j:Nat)(m:MK)(old:Av),N.Ms[j]?=some m->a[j]?=some old->old.length+(DD (m.X.map (DV (N.vw V fs))) []).length<=2000000)(aa:Bk W bb #[.pointer (some ⟨N.nw,0,none⟩)] 84)(J:Dl->Aa->Prop)(d)(bP:d<=W.heap.size)(hJ:∀pre A B,J pre A->Tn (λg=>∃m∈N.Ms,m.S g) NG d A B->J pre B)(hY:∀(m:Nat)pre x A B,J pre A->Bw A B->jj pre x A B->YieldAt Fence.wide m prog l (j7 x) B λe E=>e=.returned (.bool true)/\J (pre++[x]) E/\KN N.Sm B E)(h0:J [] W) :
  Ca 161 #[.func (.yield l) #[] #[],.pointer (some ⟨bb,0,none⟩)] W λe E=>(∃v,e=.returned v)/\∃xs,J xs E/\Hb N adr U fs V a xs E:=by
 obtain⟨HO,bv,HJ,HY⟩:=BP C hB hJ hY;have b0:=A8 aa;have c2:=Bf (L:=[_,_,_]) h.bx.box (j:=2) rfl;obtain⟨A,aK⟩:=AF N.ma;rw[<-aK]at c2;have bK:=Ad aK;have bT:=h.ok.cJ;obtain⟨HN,H0⟩:=An (show Nl N adr U fs V a 0 [] a [] d W from⟨h,rfl,rfl,λj m old L _ _ q=>by simp at q,λj m old q=>absurd q qd,λj _=>rfl,yA _,bP⟩) h0;clear h C aa hJ hY h0 aK hB;go_enter func161,ntmps161;go_wp2
 go_loopw [12] (λiv wr=>∃(i:Nat)(Ls:List (List (Ab × Int)))(olds':C_)(pre:Dl),iv=.int .i64 (i:Int)/\i<=N.Ms.length/\Nl N adr U fs V a i Ls olds' pre d wr/\J pre wr) (λiv _=>N.Ms.length-(intOf iv).toNat)
 .exact⟨0,[],a,[],rfl,yn _,HN,H0⟩
 obtain⟨i,Ls,olds',pre,rfl,bW,aT,bd⟩:=hrel;obtain⟨b,JR⟩:=An aT bd;clear aT bd;by_cases hi:i<N.Ms.length
 .obtain⟨m,Z⟩:=Bq hi;obtain⟨old,af⟩:∃o,olds'[i]?=some o:=⟨olds'[i]'(by rw[b.o.st.ol];exact hi),qf⟩
  have aq:a[i]?=some old:=by rw[<-b.o.rest i Bg];exact af
  have ay:=yd Z;obtain⟨p1,p2,p3⟩:=b.st.bx.aV b.st.lk ay;have aO:=b.st.st i m old Z af;obtain⟨K,M,au,aG,aJ⟩:=aO.now (b.st.ok.ok m ay) b.st.lk.inj p3;obtain⟨rb,aZ,_,r0,_⟩:=CG b.st.bx.row (show(N.Ms.map MK.val)[i]?=some m.val by rw[yE,Z];rfl);have bC:=bK.c aZ;subst bC;rw[MK.cm m]at r0;have I:=Ad (gh m aO);have q1:=λu=>Ze m u;have q2:=ZY m;have k1:=Bf (L:=[_,_]) au.q (j:=1) rfl;obtain⟨o,hR,aD⟩:=zon (P:=prog) Lu au.ak;obtain⟨HM,Y,bj,bo,aI⟩:=Ei Z ay aq af au;have bF:M.length<=2000000:=by
   have h1:=zsr au.nodup aG aJ;have h2:=bv i m old Z aq;omega
  obtain⟨aU,aY,aM⟩:=AK aG aJ aD;obtain⟨z0,z1⟩:=CZ hi;obtain⟨bU,ax⟩:=AF m.cb;obtain⟨ar,ao⟩:=AF m.wb;obtain⟨bE,bG⟩:=An ax ao;rw[<-ax]at I k1;rw[<-ao]at k1 hR aM;clear Z ay aq af p1 p2 p3 aO au aG aJ aD aZ ax ao b0 c2;go_wp2_with fail;refine I.j ?_;rintro e s ⟨rfl,bB⟩;subst bB;go_wp2_with fail;have J7:=Ad (HJ _ _ _ JR (Tn.u (Au.alloc Bg o)));have bS:s.heap.size<(s.alloc o).heap.size:=qf;have bq:m.S ar:=by
   rw[bG.o];cases m with
   |inl Rc=>exact Ji.1 (JU (l:=Rc.1.l (N.vw V fs))).2
   |inr t=>exact .inr rfl
  have bz:=Ad (λm' aL q=>by
   have:=b.st.st.lt b.st.ol aL _ q;omega:∀m'∈N.Ms,¬m'.S s.heap.size)
  obtain⟨bI,bA⟩:=An (λ(x:Kt)(z:Int)(br:(x,z)∈M)=>ztN aI.nodup aU aY (HO i old bj) (λT hT=>m.cu (b.st.ok.ok m Y) (b.st.bx.aV b.st.lk Y).2.2 hT) br) (show Ni N adr U fs V Ls olds' i ar s.heap.size M [] (M.map Prod.fst) pre (s.alloc o) from⟨b.st.e (Au.alloc Bg o),by rw[<-U6];exact aM,qf,λy w=>(by cases w),by rw[b.o.pr];simp[L7]⟩);clear aM hR k1 I q1 q2 r0
  go_loopw [] (λwr=>∃(dn:List (Ab × Int))(k:Av)(O:Dl),Ni N adr U fs V Ls olds' i ar s.heap.size M dn k O wr/\J O wr) (λwr=>wr.rangeLeft ar s.heap.size)
  .exact⟨[],_,pre,bA,J7⟩
  obtain⟨dn,k,O,H,aE⟩:=hrel;obtain⟨p,JI⟩:=An H aE;rcases Vd (P:=prog) H.rg 0 with⟨h0,hN⟩|⟨x,v,ob,w2,hx,a7,bD,hN,ak,hE⟩
  .have aw:=p.st.st i m old HM bo;obtain⟨p1,p2,p3⟩:=p.st.bx.aV p.st.lk Y;obtain⟨I,aH,bi⟩:=AK (gh m aw) (sD m adr U (N.vw V fs) old wr aw (p.st.ok.ok m Y) p.st.lk.inj p3) (show QP adr U old (L8 N adr V fs m) dn from xg aU aY aI.nodup (by have:=p.pm;rwa [h0,yO]at this) p.ok);have q1:=λu=>Ze m u;have q2:=ZY m;rw[<-bE.o]at I aH;clear H aE aw p1 p2 p3 h0;go_wp2_with fail;refine I.j ?_;rintro e w8 ⟨rfl,bL⟩;subst bL;go_wp2_with fail;refine aH.j ?_;rintro e w9 ⟨rfl,⟨K',a6,bm⟩,aA,aj⟩;obtain⟨bM,J9⟩:=An (b.next HM bj bi a6 (p.st.set HM bm aA aj) p.pr (yi p.few bF) (by have h1:=aj.rest.size;have h2:=p.rg.dC;have h3:=b.sz;omega)) (HJ _ _ _ JI (Tn.aF aj (λg hg=>⟨m,Y,hg⟩)));clear a6 bm aA aj I aH q1 q2;go_wp2;exact⟨⟨i+1,_,_,_,qm,qd,bM,J9⟩,qp⟩
  have C:=VK (r:=s.heap.size) (o:=ob) bD;obtain⟨W2,bh⟩:=AF (ChangeMaps.setBlock w2 s.heap.size ob);rw[<-bh]at hN ak hE C;obtain⟨oi,aR,aB⟩:=H.rg.it;have aC:=C.W H.rg.cO;obtain⟨J2,bw⟩:=An (HJ _ _ _ JI (Tn.dH C aR aB b.sz)) (p.st.fD aC (AM.of (S:=λg=>g=s.heap.size) C rfl) (λm' aL y w e=>bz m' aL (e▸w)));obtain⟨z,hz,rfl⟩:∃z,(x,z)∈M/\v=I6 z:=by
   obtain⟨y,w,e⟩:=yv.1 a7;cases e;exact⟨y.2,w,rfl⟩
  obtain⟨T,aW,bl,aP,a5⟩:=bI x z hz;obtain⟨bg,HZ,aF,aQ,bH,HX⟩:=Ma aW hz bl aP a5 hx;have bc:O.length<=2000000000:=by
   have h1:=congrArg List.length p.pr;rw[yu,yM]at h1;have h2:(L7 i dn).length=dn.length:=by simp[L7]
   have h3:=p.few;have h4:=b.few;have h5:i*2000000<=999*2000000:=YI _ qd;omega
  have aV:=Ad ak;have bV:=H.rg.left;have bQ:=ak.left;have bt:=Ad (show(k.filter (λy=>decide (y≠x))).length<k.length from nr hx);obtain⟨x0,x1,x2⟩:=x;simp only[Bh]at hN hE;clear H aE ak C aR aB aC a7 aW bl aP a5 hz hx bh;go_upto_region 6 with fail;refine BF ?_;intro w3 az bn;obtain⟨t0,t1,t2⟩:=Ax bn;have J3:=Ad (HJ _ _ _ J2 (Tn.u az));have aS:=Ad (bw.e az);have bJ:=Ad (aV.e az);have a0:=Ad (show Ca 59 #[.agg #[.pointer x0,.pointer x1,.pointer x2]] w3 (X8 (T.map (·.tag)) w3) from pF x0 x1 x2 T w3 (by
   have:=wB aS.bx.us.J aQ aF;rw[<-bg.o]at this;exact this))
  have bk:=Ad (λ(G:Af)(D:Nat)(R:Aa)(ho:R.ownsRow w3.heap.size 3 1 (.slice G (T.map (·.tag)).length D) (T.map (·.tag)).length (Ay (T.map (·.tag))))(hb:Bw w3 R)=>HY 5 O ⟨⟨(i:Int),T.map (·.tag)⟩,.slice G (T.map (·.tag)).length D,z⟩ w3 R J3 hb ⟨bc,⟨G,D,rfl⟩,ho,by rw[yu];exact aF,bH⟩);clear az bn hN hE;refine(wpIn_wide (n:=6)).1 ?_;gi_wp2;refine⟨trivial,((callsIn_wide (n:=5)).2 a0).j ?_⟩;rintro e R ⟨⟨G,D,rfl,a9⟩,aN⟩;obtain⟨fn,tm,bO,bu,w,hR⟩:=bk G D R a9 aN;have HR:=Ad hR;have aX:(Instr.yield l #[.agg #[I6 (i:Int),.slice G (T.map (·.tag)).length D],I6 z]).run prog R=.ok (.round l fn tm bO bu) R:=w;have bN:=Ad aN;obtain⟨nt,a8⟩:=AF ((T.map (·.tag)).length);rw[<-a8]at aX⊢;clear w hR a9 aN a8;gi_wp2;refine HR.j ?_;rintro e E ⟨rfl,bp,hk⟩;have KW:=Ad ((KN.u bN).c hk);obtain⟨bf,JW⟩:=An (show Ni N adr U fs V Ls olds' i ar s.heap.size M (dn++[(T,z)]) (k.filter (λy=>decide (y≠(x0,x1,x2)))) (O++[⟨⟨(i:Int),T.map (·.tag)⟩,.slice G (T.map (·.tag)).length D,z⟩]) E from p.step bg HZ aF aQ HX aI.nodup (aS.kn KW.toK0) (bJ.kn KW ⟨m,Y,bq⟩)) bp;have bR:=bf.rg.left;have bX:=bt.o;clear bp hk HR aX bk a0 t0 t1 t2;gi_wp2;go_wp2;go_roundw
  case rel=>exact⟨_,_,_,bf,JW⟩
  case measure=>omega
 obtain rfl:i=N.Ms.length:=qd;have w:¬(N.Ms.length:Int)<(N.Ms.length:Int):=qd;go_wp2_with fail;refine bodyPost_end (results_none rfl _ _ _) rfl ⟨⟨_,rfl⟩,pre,JR,b.cf⟩
end
def Ie(r:Ru)(fs:Ab):Am:=EY (CO r.x [] 0) fs []
def ll{X:Ak}{r:Ru}{fs vw}(O:X.map Cx.cp=CO r.x [] 0)(e:∀c∈X,gV vw c=fs.filter (Ah c.cp.H))(k):DD ((X.take k).map (DV vw)) []=EY ((CO r.x [] 0).take k) fs []:=by
 refine nH (fs:=fs) _ _ ?_ (λj c d b hd=>?_) []
 .rw[<-O,yu,<-List.map_take,yu]
 rw[<-O,<-List.map_take,yE]at hd;rw[yE]at b;obtain⟨x,a,rfl⟩:=Ye.1 b;rw[a]at hd;cases hd;exact⟨rfl,rfl,rfl,rfl,e x (Wv (yd a))⟩
def kB{X:Ak}{r fs vw}(O:X.map Cx.cp=CO r.x [] 0)(a:∀c∈X,gV vw c=fs.filter (Ah c.cp.H)):DD (X.map (DV vw)) []=Ie r fs:=by
 have h:=ll O a X.length;rw[yZ,yR (by rw[<-O];simp)]at h;exact h
/-! ### In order -/
def lY:∀(A B C:As){x y:Int},x<y->Bm (A++x::B) (A++y::C)<0
 |[],B,C,x,y,h=>by
  rcases Iu x y with⟨p,q⟩|⟨p,q⟩|⟨p,q⟩
  .simp[Bm,q]
  .omega
  .omega
 |a::A,B,C,x,y,h=>by
  have O:=lY A B C h
  rcases Iu a a with⟨p,q⟩|⟨p,q⟩|⟨p,q⟩
  .omega
  .omega
  simpa[Bm,q] using O
def Rx{fs}:∀(O:List Cp)(T V:Ab),V∈EY O fs T->∃W,V=T++W/\∀f∈W,f∈fs
 |[],T,V,h=>by
  simp only[EY,yw]at h
  exact⟨[],by simp[h],λf a=>by cases a⟩
 |d::O,T,V,h=>by
  simp only[EY]at h
  split at h
  .split at h
   .simp at h
   exact Rx O T V h
  obtain⟨f,a,i⟩:=Yq.1 h
  obtain⟨W,e,c⟩:=Rx O (T++[f]) V i
  refine⟨f::W,by simp[e],λg b=>?_⟩
  rcases yW.1 b with rfl|b
  .exact(yh.1 a).1
  exact c g b
def ZV{fs}(a:fs.Pairwise λf g=>f.tag<g.tag):∀(O:List Cp)(T:Ab),(EY O fs T).Pairwise λA B=>Bm (A.map (·.tag)) (B.map (·.tag))<0
 |[],T=>WO _ _
 |d::O,T=>by
  simp only[EY]
  split
  .split
   .exact List.Pairwise.nil
   exact ZV a O T
  rw[List.pairwise_flatMap]
  refine⟨λf _=>ZV a O _,?_⟩
  refine(a.filter _).imp λ{f g}e A c B i=>?_
  obtain⟨W,b,_⟩:=Rx O _ _ c
  obtain⟨Z,j,_⟩:=Rx O _ _ i
  rw[b,j]
  simp only[yY,yz,yx,WT]
  exact lY _ _ _ e
def RF:∀{fs:Ab}{last:Int},CL last fs=true->fs.Pairwise λf g=>f.tag<g.tag
 |[],_,_=>List.Pairwise.nil
 |f::r,last,h=>by
  have O:=h
  simp only[CL,ym]at O
  exact Kf.2 ⟨λg a=>Tg O.2 g a,RF O.2⟩
def ly{fs rs}(a:∀r∈rs,JQ r.x [] 0):∀i,Dy fs i rs=(rs.zipIdx i).flatMap λy=>(Ie y.1 fs).map λT=>(⟨(y.2:Int),T.map (·.tag)⟩:It):=by
 induction rs with
 |nil=>intro i;rfl
 |cons r rs O=>
  intro i;rw[Dy,O (λq b=>a q (by simp[b])),UU (a r qf),List.zipIdx_cons,yX,Yl];rfl
def ZS{fs rs}(c:∀r∈rs,JQ r.x [] 0){x}:x∈Dy fs 0 rs↔∃(i:Nat)(r:Ru)(T:Ab),rs[i]?=some r/\T∈Ie r fs/\x=⟨(i:Int),T.map (·.tag)⟩:=by
 rw[ly c,Yq];constructor
 .rintro⟨⟨r,i⟩,d,b⟩;obtain⟨T,a,rfl⟩:=yv.1 b;refine⟨i,r,T,?_,a,rfl⟩;have:=KQ.1 d;exact this
 rintro⟨i,r,T,e,a,rfl⟩;exact⟨(r,i),KQ.2 e,yv.2 ⟨T,a,rfl⟩⟩
def zs3{x y}(h:x.T<y.T):EG x y<0:=by grind[Bm,EG,UL,Iu]
def zsC{i a b}(h:Bm a b<0):EG ⟨i,a⟩ ⟨i,b⟩<0:=by
 rw[UL];rcases Iu i i with⟨p,q⟩|⟨p,q⟩|⟨p,q⟩
 all_goals grind
def Z2{fs}(e:fs.Pairwise λf g=>f.tag<g.tag):∀{rs:Az}(_:∀r∈rs,JQ r.x [] 0)(i:Nat),(Dy fs i rs).Pairwise λx y=>EG x y<0:=by
 intro rs
 induction rs with
 |nil=>intro _ i;exact List.Pairwise.nil
 |cons r rs O=>
  intro c i;rw[Dy,UU (c r qf),Yl];refine YA.2 ⟨?_,O (λq b=>c q (by simp[b])) (i+1),λx d y a=>?_⟩
  .rw[Wc];exact(ZV e _ _).imp λh=>zsC h
  obtain⟨T,_,rfl⟩:=yv.1 d;rw[ly (λq b=>c q (by simp[b]))]at a;obtain⟨⟨q,j⟩,hj,a⟩:=Yq.1 a;obtain⟨Z,_,rfl⟩:=yv.1 a;have:=List.le_snd_of_mem_zipIdx hj;refine zs3 ?_;show(i:Int)<((j:Nat):Int);simp only at this;omega
def xF{A B}(b:GC A)(c:GC B)(a:A.Perm B):A=B:=by
 refine List.Perm.eq_of_pairwise (λx y _ _ d e=>?_) b c a;have:=SF.swap x y;exact mQ qd
def ZD{A}(h:A.Pairwise λx y=>EG x y<0):A.Nodup/\GC A:=⟨h.imp λ{x y}q e=>by
 subst e;have:=SF.swap x x;omega,h.imp λq=>qd⟩
def mf{A B}(a:GC A)(O:A.Nodup)(c:GC B)(b:B.Nodup)(h:∀x,x∈A↔x∈B):A=B:=xF a c ((Wn O b).2 h)
section
open Go.Maps
structure LI(W:Aa) (b pb qb:Nat) (P Q:Bj) (a:Af) (c:Nat) (a':Af) (c':Nat):Prop where
 p:Bk W pb #[.slice a P.length c] 36
 q:Bk W qb #[.slice a' Q.length c'] 36
 ip:Iw W b b a c P
 iq:Iw W b b a' c' Q
 ap:BH (.slice a P.length c) (.slice a' Q.length c')
def LI.swap{W b pb d P Q a c f e}(h:LI W b pb d P Q a c f e):LI W b d pb Q P f e a c:=⟨h.q,h.p,h.iq,h.ip,λg j i=>h.ap g i j⟩
theorem Iw.aR{w w' e base a c L}(h:Iw w e base a c L)(i:∀(k:Nat)c t,(t=45∨t=3)->e<=k∨base<=k->Bk w k c t->w'.heap[k]?=w.heap[k]?):Iw w' e base a c L:=
 ⟨Ci h.row (λg b=>by
  obtain⟨c,f⟩:=A7 h.row b
  exact i g c _ (.inl rfl) (.inl (h.row.lt g b).1) f),λx d=>⟨(h.all x d).ts,Ci (h.all x d).ot (λg b=>by
  obtain⟨c,f⟩:=A7 (h.all x d).ot b
  exact i g c _ (.inr rfl) (.inr ((h.all x d).ot.lt g b).1) f)⟩⟩
def LI.keep{W i b pb f P Q a c j g}(h:LI W b pb f P Q a c j g)(l:b<=pb)(m:b<=f)(d:∀(k:Nat)c t,b<=k->Bk W k c t->i.heap[k]?=W.heap[k]?):LI i b pb f P Q a c j g:=
 ⟨(d _ _ _ l h.p).c h.p,(d _ _ _ m h.q).c h.q,h.ip.aR λk c t _ hb e=>d k c t Xy e,h.iq.aR λk c t _ hb e=>d k c t Xy e,h.ap⟩
def LI.add{W n d o b pb A P Q a c v w x l j}(h:LI W b pb A P Q a c v w)(u:pb≠A)(K:Hi W b x)(i:Bw W n)(R:d.ownsRow b 45 2 (.slice l (P.length+1) j) (P.length+1) (P.flatMap Ef++Ef x))(m:n.grownBy d (Value.slice a P.length c).ownBlock)(hl:(Value.slice l (P.length+1) j).ownBlock=(Value.slice a P.length c).ownBlock∨(Value.slice l (P.length+1) j).ownBlock=some n.heap.size)(I:Bk o pb #[.slice l (P.length+1) j] 36)(D:Turned d o pb):LI o b pb A (P++[x]) Q l j v w:=by
 have H:=h.ip.C i;have B:=h.iq.C i;have L:=Iw.snoc H (K.C i) R m;have r:∀k,(Value.slice a P.length c).ownBlock=some k->∃c,Bk n k c 45:=λk f=>A7 H.row f;have T:=(i.block _ (Ap h.p)).c h.p;have N:=(i.block _ (Ap h.q)).c h.q;have U:Bk d pb #[.slice a P.length c] 36:=E5 T m r qi;have tys:∀(k:Nat)c t,(t=45∨t=3)->Bk d k c t->o.heap[k]?=d.heap[k]?:=λk c t O f=>D.block k λe=>by
  subst e;exact Cw f U (by rcases O with rfl|rfl<;>decide)
 have J:Iw d b b v w Q:=⟨Ci B.row (λg G=>m.block g (B.row.lt g G).2 (λe=>h.ap g e.z G)),λy M=>(B.all y M).grown m r qi⟩
 refine⟨by simpa using I,(D.block _ (λe=>u e.z)).c (E5 N m r qi),?_,?_,?_⟩
 .exact L.aR λk c t O _ f=>tys k c t O f
 .exact J.aR λk c t O _ f=>tys k c t O f
 intro g s E;have Y:=(h.iq.row.lt g E).2;rw[yM]at s;rcases hl with hl|hl
 .exact h.ap g (hl.z.c s) E
 have e:=hl.z.c s;injection e with e;have:=i.size;omega
def k8{S W y m g pb v n xs b E}(d:Bw W y)(s:y.ownsRow b 45 2 v n xs)(j:y.grownBy m v.ownBlock)(C:Bk m pb E 36)(q:Turned m g pb):KN S W g/\(∀(k:Nat)(o:Obj),W.heap[k]?=some o->FF o=true->g.heap[k]?=some o)/\W.heap.size<=g.heap.size/\∀(k:Nat)(o:Obj),W.heap[k]?=some o->k<b->k≠pb->g.heap[k]?=some o:=by
 have key:∀(k:Nat)(o:Obj),W.heap[k]?=some o->k≠pb->v.ownBlock≠some k->g.heap[k]?=some o:=λk o a x w=>by
  have hl:=(yk.1 a).1;rw[q.block k x,j.block k (yg hl d.size) (λe=>w e.z),d.block k hl];exact a
 have B:∀(k:Nat)(o:Obj),W.heap[k]?=some o->(∀c t p,o≠.cells c t p)->g.heap[k]?=some o:=λk o a i=>by
  have hl:=(yk.1 a).1;have O:=(d.block k hl).c a;refine key k o a (λe=>?_) (λe=>?_)
  .subst e;have l:m.heap[k]?=some o:=(j.block k (yg hl d.size) (λe=>by
    obtain⟨c,f⟩:=A7 s e.z;rw[Bk,O]at f;injection f with f;exact i _ _ _ f)).c O
   rw[C]at l;injection l with l;exact i _ _ _ l.z
  obtain⟨c,f⟩:=A7 s e;rw[Bk,O]at f;injection f with f;exact i _ _ _ f
 have u:W.heap.size<=g.heap.size:=by
  have x:=d.size;have w:=j.size;have H:=q.size;omega
 refine⟨⟨⟨⟨q.os.c (j.os.c d.os),q.tape.c (j.tape.c d.tape),q.output.c (j.output.c d.output),u,λk a=>absurd a qd⟩,λk c t p a A=>?_,λk es G a _=>B k _ a (λ_ _ _ e=>qo)⟩,λk o a i=>B k o a (λc t p e=>by subst e;cases i)⟩,λk o a i=>B k o a (λc t p e=>by subst e;cases i),u,λk o a x w=>key k o a w (λe=>by have:=(s.lt k e).1;omega)⟩;have hl:=Ap a;have O:=(d.block k hl).c a;refine key k _ a (λe=>?_) (λe=>?_)
 .subst e;have l:m.heap[k]?=some (.cells c t p):=(j.block k (yg hl d.size) (λe=>by
   obtain⟨D,r⟩:=A7 s e.z;rw[Bk,O]at r;cases r;revert A
   decide)).c O
  rw[C]at l;cases l;revert A
  decide
 obtain⟨D,r⟩:=A7 s e;rw[Bk,O]at r;cases r;revert A
 decide
def nE{S W f b v n xs}(j:W.ownsRow b 45 2 v n xs)(d:W.grownBy f v.ownBlock):KN S W f/\(∀(k:Nat)(o:Obj),W.heap[k]?=some o->(∀c,o≠.cells c 45 (0,0))->f.heap[k]?=some o)/\∀(k:Nat)(o:Obj),W.heap[k]?=some o->k<b->f.heap[k]?=some o:=by
 have key:∀(k:Nat)(o:Obj),W.heap[k]?=some o->(∀c,o≠.cells c 45 (0,0))->f.heap[k]?=some o:=λk o a O=>(d.block k (yk.1 a).1 (λe=>by
  obtain⟨c,g⟩:=A7 j e.z;rw[Bk,a]at g;injection g with g;exact O _ g)).c a
 refine⟨⟨⟨⟨d.os,d.tape,d.output,d.size,λk a=>absurd a qd⟩,λk c t p a hn=>key k _ a (λi e=>Xo),λk es m a _=>key k _ a (λi e=>qo)⟩,λk o a O=>key k o a (λi e=>by subst e;cases O)⟩,key,λk o a l=>(d.block k (yk.1 a).1 (λe=>by have:=(j.lt k e.z).1;omega)).c a⟩
def o_{S W d pb i}(b:W.heap[pb]?=some (.cells i 36 (0,0)))(g:Turned W d pb):KN S W d/\∀(k:Nat)(o:Obj),W.heap[k]?=some o->(∀c,o≠.cells c 36 (0,0))->d.heap[k]?=some o:=by
 have key:∀(k:Nat)(o:Obj),W.heap[k]?=some o->(∀c,o≠.cells c 36 (0,0))->d.heap[k]?=some o:=λk o a O=>(g.block k (λe=>by
  subst e;rw[a]at b;injection b with b;exact O _ b)).c a
 exact⟨⟨⟨g.e (yn _),λk c t l a hn=>key k _ a (λf e=>Xo),λk es j a _=>key k _ a (λf e=>qo)⟩,λk o a O=>key k o a (λf e=>by subst e;cases O)⟩,key⟩
def En(xs:Dl):Bj:=(xs.filter λe=>decide (e.sg=1)).map λe=>(e.it,e.sl)
def DU(xs:Dl):Bj:=(xs.filter λe=>!decide (e.sg=1)).map λe=>(e.it,e.sl)
def oM{xs x}(h:x.sg=1):En (xs++[x])=En xs++[(x.it,x.sl)]/\DU (xs++[x])=DU xs:=by simp_all[Oa,En,DU]
def ml{xs x}(h:x.sg≠1):En (xs++[x])=En xs/\DU (xs++[x])=DU xs++[(x.it,x.sl)]:=by simp_all[Oa,En,DU]
def n8{xs y}(h:y∈En xs∨y∈DU xs):∃e∈xs,y=(e.it,e.sl):=by
 rcases h with h|h<;>obtain⟨e,a,rfl⟩:=yv.1 h<;>exact⟨e,(yh.1 a).1,rfl⟩
def o6(xs):(En xs).length<=xs.length/\(DU xs).length<=xs.length:=by simp_all[Oa,En,DU,Yi,yu]
structure MW(N:NT) (w0:Aa) (ab db:Nat) (xs:Dl) (W:Aa):Prop where
 ex:∃a c a' c',LI W w0.heap.size ab db (En xs) (DU xs) a c a' c'
 ap:xs.Pairwise λx y=>BH x.sl y.sl
 l3:∀x∈xs,x.it.G.length<=3
 fr:AM N.Sm w0 W
def MW.tn{N w0 b e d xs A B}(h:MW N w0 b e xs A)(f:Tn N.Sm FF d A B)(hS:∀g,N.Sm g->g<w0.heap.size)(hd:w0.heap.size<=d)(O:w0.heap.size<=b)(p:w0.heap.size<=e):MW N w0 b e xs B:=by
 obtain⟨a,c,u,r,s⟩:=h.ex;refine⟨⟨a,c,u,r,s.keep O p λk cs t v m=>(f.block k _ m (λq=>by have:=hS k q;omega) (.inl rfl)).c m.z⟩,h.ap,h.l3,⟨h.fr.rest.c f.rest,λg n o=>?_⟩⟩;have hl:g<A.heap.size:=yg n h.fr.rest.size;have j:A.heap[g]?=some A.heap[g]:=MS;rw[f.block g _ j o (.inr qd),<-j];exact h.fr.block g n o
structure O_(N:NT) (w0:Aa) (ab db:Nat) (xs:Dl) (x:Ne) (W:Aa):Prop where
 i:MW N w0 ab db xs W
 p:Hi W w0.heap.size (x.it,x.sl)
 ap:∀y∈xs,BH y.sl x.sl
 l3:x.it.G.length<=3
 few:xs.length<=2000000000
 sg:x.sg=1∨x.sg = -1
def O_.tn{N w0 b e d xs x A B}(h:O_ N w0 b e xs x A)(k:Tn (λ_=>False) FF d A B)(hS:∀g,N.Sm g->g<w0.heap.size)(hd:w0.heap.size<=d)(O:w0.heap.size<=b)(m:w0.heap.size<=e):O_ N w0 b e xs x B:=
 ⟨h.i.tn (k.j (λ_ q=>q.elim) (λ_ q=>q) Bg) hS hd O m,⟨h.p.ts,Ci h.p.ot λg n=>by
  obtain⟨c,f⟩:=A7 h.p.ot n
  rw[k.block g _ f (λq=>q) (.inl rfl),f]⟩,h.ap,h.l3,h.few,h.sg⟩
def MW.eS{N w0 f k xs x A B}(h:MW N w0 f k xs A)(r:Bw A B)(b:jj xs x A B)(hS:∀g,N.Sm g->g<w0.heap.size)(z:w0.heap.size<=f)(hd:w0.heap.size<=k):O_ N w0 f k xs x B:=by
 obtain⟨s,v,n,C,p⟩:=b;have j:=h.fr.rest.size;refine⟨h.tn (d:=w0.heap.size) (Tn.u r) hS Bg z hd,⟨v,C4 n j⟩,λy m g o af=>?_,C,s,p⟩;have D:=(n.lt g af).1;obtain⟨a,c,G,E,t⟩:=h.ex;have O:(y.it,y.sl)∈En xs∨(y.it,y.sl)∈DU xs:=by
  by_cases e:y.sg=1
  .exact .inl (yv.2 ⟨y,yh.2 ⟨m,by simp[e]⟩,rfl⟩)
  exact .inr (yv.2 ⟨y,yh.2 ⟨m,by simp[e]⟩,rfl⟩)
 rcases O with q|q
 .have:=((t.ip.all _ q).ot.lt g o).2;omega
 have:=((t.iq.all _ q).ot.lt g o).2;omega
end
def NJ(L:BN)(x:It):Bool:=L.any λy=>decide (EG x y=0)
theorem zsz(x):EG x x=0:=by
 have:=SF.swap x x;omega
theorem ztR{L x}:NJ L x=true↔x∈L:=by grind[NJ,EG,mQ,zsz]
def JD(A B:BN):BN:=A.filter λx=>!NJ B x
def Ow{A B x}:x∈JD A B↔x∈A/\x ∉ B:=by grind[NJ,JD,ztR]
def ZQ{U:Ab}(d:∀f∈U,∀g∈U,f.tag=g.tag->f=g):∀{A B:Ab},(∀f∈A,f∈U)->(∀f∈B,f∈U)->A.map (·.tag)=B.map (·.tag)->A=B
 |[],[],_,_,_=>rfl
 |[],_::_,_,_,h=>by simp at h
 |_::_,[],_,_,h=>by simp at h
 |a::A,b::B,hA,hB,h=>by
  simp only[yx,Yv]at h
  rw[d a (hA a (by simp)) b (hB b (by simp)) h.1,ZQ d (λf c=>hA f (by simp[c])) (λf c=>hB f (by simp[c])) h.2]
structure Uz(adr:F->Addr) (U:Ab) (rs:Az) (fs0 fs1:Ab) (Ls:List (List (Ab × Int))):Prop where
 inj:BV adr U
 tg:∀f∈U,∀g∈U,f.tag=g.tag->f=g
 len:Ls.length=rs.length
 V:∀(i:Nat)(r:Ru)(L:List (Ab × Int)),rs[i]?=some r->Ls[i]?=some L->∃old now,QP adr U old now L/\old.Perm ((Ie r fs0).map (Ae adr))/\now.Perm ((Ie r fs1).map (Ae adr))
 cv:∀r∈rs,∀T∈Ie r fs0,T.length<=3/\∀f∈T,f∈U
 cy:∀r∈rs,∀T∈Ie r fs1,T.length<=3/\∀f∈T,f∈U
def lJ{adr U}(d:BV adr U){E:Am}(b:∀T∈E,T.length<=3/\∀f∈T,f∈U){T}(g:T.length<=3)(c:∀f∈T,f∈U):Ae adr T∈E.map (Ae adr)↔T∈E:=by
 rw[yv];constructor
 .rintro⟨a,O,e⟩;rw[<-LC d (b a O).2 c (b a O).1 g e];exact O
 intro h;exact⟨T,h,rfl⟩
def UX{adr U}{g c:Am}{old a L}(s:BV adr U)(h:QP adr U old a L)(B:old.Perm (g.map (Ae adr)))(E:a.Perm (c.map (Ae adr)))(p:∀T∈g,T.length<=3/\∀f∈T,f∈U)(n:∀T∈c,T.length<=3/\∀f∈T,f∈U)(T):((T,(1:Int))∈L↔T∈c/\T ∉ g)/\((T,(-1:Int))∈L↔T∈g/\T ∉ c):=by
 have key:∀T,T.length<=3->(∀f∈T,f∈U)->(Ae adr T∈a↔T∈c)/\(Ae adr T∈old↔T∈g):=λT o m=>⟨by rw[E.mem_iff];exact lJ s n o m,by rw[B.mem_iff];exact lJ s p o m⟩
 have t:∀z,(T,z)∈L->z=CF (Ae adr T) a-CF (Ae adr T) old/\(Ae adr T∈a↔T∈c)/\(Ae adr T∈old↔T∈g):=λz j=>by
  obtain⟨o,m,e,_⟩:=h.ok _ j;exact⟨e,key T o m⟩
 have w:(T∈c∨T∈g)->CF (Ae adr T) a-CF (Ae adr T) old≠0->(T,CF (Ae adr T) a-CF (Ae adr T) old)∈L:=λD j=>by
  have x:T.length<=3/\∀f∈T,f∈U:=by
   rcases D with q|q
   .exact n T q
   exact p T q
  obtain⟨y,u,e⟩:=h.all _ j;obtain⟨A,C,v,_⟩:=h.ok y u;have r:y.1=T:=LC s C x.2 A x.1 e;rw[e]at v;rw[<-r,r,<-v];have:y=(y.1,y.2):=rfl;rw[<-r];exact u
 constructor
 .constructor
  .intro j;obtain⟨e,i,d⟩:=t 1 j;by_cases b:Ae adr T∈a<;>by_cases O:Ae adr T∈old
   .rw[MF b,MF O]at e;omega
   .exact⟨i.1 b,λq=>O (d.2 q)⟩
   .rw[JF b,MF O]at e;omega
   rw[JF b,JF O]at e;omega
  rintro⟨l,k⟩;obtain⟨i,d⟩:=key T (n T l).1 (n T l).2;have e:CF (Ae adr T) a-CF (Ae adr T) old=1:=by rw[MF (i.2 l),JF (λq=>k (d.1 q))];rfl
  have:=w (.inl l) qd;rwa [e]at this
 constructor
 .intro j;obtain⟨e,i,d⟩:=t (-1) j;by_cases b:Ae adr T∈a<;>by_cases O:Ae adr T∈old
  .rw[MF b,MF O]at e;omega
  .rw[MF b,JF O]at e;omega
  .exact⟨d.1 O,λq=>b (i.2 q)⟩
  rw[JF b,JF O]at e;omega
 rintro⟨k,l⟩;obtain⟨i,d⟩:=key T (p T k).1 (p T k).2;have e:CF (Ae adr T) a-CF (Ae adr T) old = -1:=by rw[JF (λq=>l (i.1 q)),MF (d.2 k)];rfl
 have:=w (.inr k) qd;rwa [e]at this
def UY{x z}:∀(k:Nat)(c:List (List (Ab × Int))),(x,z)∈Ht k c↔∃(i:Nat)(L:List (Ab × Int))(T:Ab),c[i]?=some L/\(T,z)∈L/\x=⟨((k+i:Nat):Int),T.map (·.tag)⟩
 |_,[]=>by simp[Ht]
 |k,L::r=>by
  rw[Ht,yp,UY (k+1) r]
  constructor
  .rintro(h|⟨i,M,T,h1,a,b⟩)
   .obtain⟨y,d,e⟩:=yv.1 h
    cases e
    exact⟨0,L,y.1,rfl,d,rfl⟩
   exact⟨i+1,M,T,qx,a,by rw[b,show k+1+i=k+(i+1) by omega]⟩
  rintro⟨i,M,T,h1,a,b⟩
  cases i with
  |zero=>
   simp only[yy,Y1]at h1
   subst h1
   exact .inl (yv.2 ⟨(T,z),a,by rw[b];rfl⟩)
  |succ i=>exact .inr ⟨i,M,T,qx,a,by rw[b,show k+1+i=k+(i+1) by omega]⟩
def nZ{adr}{U:Ab}(j:∀f∈U,∀g∈U,f.tag=g.tag->f=g):∀(k:Nat)(m:List (List (Ab × Int))),(∀L∈m,(L.map (λy=>Ae adr y.1)).Nodup/\∀y∈L,∀f∈y.1,f∈U)->((Ht k m).map Prod.fst).Nodup
 |_,[],_=>by simp[Ht]
 |k,L::r,h=>by
  obtain⟨u,l⟩:=h L qf
  rw[Ht,yz]
  refine yL.2 ⟨?_,nZ j (k+1) r (λM A=>h M (by simp[A])),λx p y a e=>?_⟩
  .unfold L7
   rw[Yl]
   have n:L.Pairwise λy z=>Ae adr y.1≠Ae adr z.1:=Wc.1 u
   refine Wc.2 (n.imp_of_mem λ{y z}a w b e=>b ?_)
   simp only[Function.comp_apply,It.mk.injEq,true_and]at e
   rw[ZQ j (l y a) (l z w) e]
  obtain⟨⟨s,z⟩,O,rfl⟩:=yv.1 p
  obtain⟨⟨t,B⟩,o,rfl⟩:=yv.1 a
  obtain⟨q,_,d⟩:=yv.1 O
  obtain⟨i,M,T,_,_,c⟩:=(UY (k+1) r).1 o
  simp only[YF]at d
  have v:s=t:=e
  rw[<-v,<-d.1]at c
  simp only[It.mk.injEq]at c
  have:=c.1
  omega
def s8(h:P:=by rintro⟨e,he,h2⟩;simp only[Iz,YF]at h2;exact⟨e,yh.2 ⟨he,by simp[h2.2]⟩,h2.1⟩):=h
def wM{adr U rs c b o xs}{P Q:Bj}(h:Uz adr U rs c b o)(I:xs.map Iz=Ht 0 o)(v:∀r∈rs,JQ r.x [] 0)(s0:c.Pairwise λf g=>f.tag<g.tag)(s1:b.Pairwise λf g=>f.tag<g.tag)(M:P.Perm (En xs))(G:Q.Perm (DU xs))(W:GC (P.map Prod.fst))(ak:GC (Q.map Prod.fst))(Y:∀e∈xs,e.sg=1∨e.sg = -1) :
  P.map Prod.fst=JD (Dy b 0 rs) (Dy c 0 rs)/\Q.map Prod.fst=JD (Dy c 0 rs) (Dy b 0 rs):=by
 have R:((xs.map Iz).map Prod.fst).Nodup:=by
  rw[I];refine nZ (adr:=adr) h.tg 0 o λL k=>?_;obtain⟨i,N⟩:=YQ k;have hlt:=(yf.1 N).1;obtain⟨r,a⟩:∃r,rs[i]?=some r:=⟨rs[i]'(by rw[<-h.len];exact hlt),qf⟩
  obtain⟨old,n,q,_,_⟩:=h.V i r L a N;exact⟨q.nd,λy hy=>(q.ok y hy).2.1⟩
 have aq:(xs.map Iz).map Prod.fst=xs.map Ne.it:=by rw[Yl];rfl
 rw[aq]at R;have sub:∀(p:Ne->Bool),(((xs.filter p).map λe=>(e.it,e.sl)).map Prod.fst).Nodup:=λp=>by
  rw[Yl];exact R.sublist ((Yt (p:=p)).map _)
 have mem:∀(x:It)(z:Int),(x,z)∈xs.map Iz↔∃(i:Nat)(r:Ru)(L:List (Ab × Int))(T:Ab),rs[i]?=some r/\o[i]?=some L/\(T,z)∈L/\x=⟨(i:Int),T.map (·.tag)⟩:=λx z=>by
  rw[I,UY];constructor
  .rintro⟨i,L,T,m,h2,C⟩;have hlt:=(yf.1 m).1;exact⟨i,rs[i]'(by rw[<-h.len];exact hlt),L,T,qf,m,h2,by rw[C,Yj]⟩
  rintro⟨i,r,L,T,_,m,h2,C⟩;exact⟨i,L,T,m,h2,by rw[C,Yj]⟩
 have adds:∀x,x∈(En xs).map Prod.fst↔(x,(1:Int))∈xs.map Iz:=λx=>by
  unfold En;rw[Yl,yv,yv];constructor
  .rintro⟨e,he,rfl⟩;obtain⟨m,h2⟩:=yh.1 he;exact⟨e,m,by simp only[Iz,of_decide_eq_true h2];rfl⟩
  exact s8
 have drops:∀x,x∈(DU xs).map Prod.fst↔(x,(-1:Int))∈xs.map Iz:=λx=>by
  unfold DU;rw[Yl,yv,yv];constructor
  .rintro⟨e,he,rfl⟩;obtain⟨m,h2⟩:=yh.1 he;rcases Y e m with q|q
   .simp[q]at h2
   exact⟨e,m,by simp only[Iz,q];rfl⟩
  exact s8
 have u:∀{i:Nat}{r:Ru}{T:Ab}{fs:Ab},rs[i]?=some r->(∀r∈rs,∀T∈Ie r fs,T.length<=3/\∀f∈T,f∈U)->(∀f∈T,f∈U)->((⟨(i:Int),T.map (·.tag)⟩:It)∈Dy fs 0 rs↔T∈Ie r fs):=λ{i r T fs}a D d=>by
  rw[ZS v];constructor
  .rintro⟨j,q,Z,H,K,e⟩;simp only[It.mk.injEq]at e;have aj:j=i:=by have:=e.1;omega
   subst aj;rw[a]at H;cases H;rw[ZQ h.tg d (D r (yd a) Z K).2 e.2];exact K
  intro ar;exact⟨i,r,T,a,ar,rfl⟩
 have J:∀x,((x,(1:Int))∈xs.map Iz↔x∈Dy b 0 rs/\x ∉ Dy c 0 rs)/\((x,(-1:Int))∈xs.map Iz↔x∈Dy c 0 rs/\x ∉ Dy b 0 rs):=λx=>by
  constructor
  .rw[mem];constructor
   .rintro⟨i,r,L,T,a,k,d,rfl⟩;obtain⟨old,n,q,t,s⟩:=h.V i r L a k;have O:=yd a;obtain⟨A,w⟩:=(UX h.inj q t s (h.cv r O) (h.cy r O) T).1.1 d;have l:=(h.cy r O T A).2;exact⟨(u a h.cy l).2 A,λz=>w ((u a h.cv l).1 z)⟩
   rintro⟨E,B⟩;obtain⟨i,r,T,a,d,rfl⟩:=(ZS v).1 E;have O:=yd a;have l:=(h.cy r O T d).2;obtain⟨L,k⟩:∃L,o[i]?=some L:=⟨o[i]'(by rw[h.len];exact(yf.1 a).1),qf⟩
   obtain⟨old,n,q,t,s⟩:=h.V i r L a k;exact⟨i,r,L,T,a,k,(UX h.inj q t s (h.cv r O) (h.cy r O) T).1.2 ⟨d,λz=>B ((u a h.cv l).2 z)⟩,rfl⟩
  rw[mem];constructor
  .rintro⟨i,r,L,T,a,k,d,rfl⟩;obtain⟨old,n,q,t,s⟩:=h.V i r L a k;have O:=yd a;obtain⟨w,A⟩:=(UX h.inj q t s (h.cv r O) (h.cy r O) T).2.1 d;have l:=(h.cv r O T w).2;exact⟨(u a h.cv l).2 w,λz=>A ((u a h.cy l).1 z)⟩
  rintro⟨B,E⟩;obtain⟨i,r,T,a,d,rfl⟩:=(ZS v).1 B;have O:=yd a;have l:=(h.cv r O T d).2;obtain⟨L,k⟩:∃L,o[i]?=some L:=⟨o[i]'(by rw[h.len];exact(yf.1 a).1),qf⟩
  obtain⟨old,n,q,t,s⟩:=h.V i r L a k;exact⟨i,r,L,T,a,k,(UX h.inj q t s (h.cv r O) (h.cy r O) T).2.2 ⟨d,λz=>E ((u a h.cy l).2 z)⟩,rfl⟩
 obtain⟨n1,o1⟩:=ZD (Z2 s1 v 0);obtain⟨n0,o0⟩:=ZD (Z2 s0 v 0);constructor
 .refine mf W ((M.map _).nodup_iff.2 (sub _)) (o1.filter _) (n1.sublist Yt) λx=>?_;rw[(M.map _).mem_iff,adds,(J x).1];exact Ow.z
 refine mf ak ((G.map _).nodup_iff.2 (sub _)) (o0.filter _) (n0.sublist Yt) λx=>?_;rw[(G.map _).mem_iff,drops,(J x).2];exact Ow.z
structure Wo where
 w:Int
 tag:Int
 E:ByteArray
 v:AH
abbrev BM:=List Wo
def Bn(fs:Ab)(nx cp:Int)(sg:Bool)(o:Wo):C6:=if o.w=1 then DF fs nx cp sg o.E o.v else if o.w=2 then Df fs nx cp sg o.tag else if o.w=3 then CA fs nx cp sg o.tag o.v else C6.ai
def Tl{fs nx cp sg}(o)(h:VS fs nx cp sg):Fe fs nx cp sg (Bn fs nx cp sg o):=by grind[Df,CA,DF,Bn,C6.ai,Fe,zq3,zp7,zr3]
structure Mo(fs:Ab) (nx:Int) (o:Wo) (gs K Nw:Ab) (nx':Int):Prop where
 eq:gs=K++Nw
 sub:K.Sublist fs
 one:Nw.length<=1
 bT:∀g∈Nw,g.tag=nx/\g.v=o.v/\DO o.v=true/\(g.E=o.E/\AP o.E.data.toList=true∨∃f∈fs,f.E=g.E)
 fF:Nw=[]/\nx'=nx∨nx'=nx+1
def nz{k:Int}{p:Prop}(h:k=0)(a:k≠0):p:=absurd h a
def P7(h:P:=by exact nz (show(_:Int)=0 from O) (by simp)):=h
def pL{fs nx cp sg}(o)(h:VS fs nx cp sg)(O:(Bn fs nx cp sg o).ab=0):∃K p,Mo fs nx o (Bn fs nx cp sg o).fs K p (Bn fs nx cp sg o).nx:=by
 have hv:=VS.iff.2 h;have j:¬C6.ai.ab=0:=qi;unfold Bn at O⊢;split at O
 .rename_i d;rw[if_pos d];cases a:(CQ fs nx cp sg&&(AP o.E.data.toList&&DO o.v))
  .rw[Vg a]at O;exact absurd O j
  simp only[ym]at a;obtain⟨q,m,l⟩:=a;rw[Vb q m l]at O⊢;unfold CX at O⊢;split at O
  .exact P7
  rename_i e;rw[if_neg e];split at O
  .exact P7
  rename_i k;rw[if_neg k];split at O
  .exact P7
  rename_i r;rw[if_neg r];exact⟨fs,[⟨nx,o.E,o.v⟩],rfl,List.Sublist.refl _,qf,λg a=>by rw[yw.1 a];exact⟨rfl,rfl,l,.inl ⟨rfl,m⟩⟩,.inr rfl⟩
 rename_i d;rw[if_neg d];split at O
 .rename_i c;rw[if_pos c];cases b:Bb o.tag fs with
  |none=>
   rw[Vn hv b]at O;exact P7
  |some i=>
   rw[Vp hv b];exact⟨fs.eraseIdx i,[],qf,Wq _ _,qf,λg a=>(by cases a),.inl ⟨rfl,rfl⟩⟩
 rename_i c;rw[if_neg c];split at O
 .rename_i t;rw[if_pos t];cases a:DO o.v
  .rw[Vh (by rw[a,WI])]at O;exact absurd O j
  cases b:Bb o.tag fs with
  |none=>
   rw[VB hv a b]at O;exact P7
  |some i=>
   have hlt:=SS b;obtain⟨f,n⟩:=Bq hlt;rw[VA hv a b n]at O⊢;unfold Mz at O⊢;split at O
   .exact P7
   rename_i e;rw[if_neg e];split at O
   .exact P7
   rename_i k;rw[if_neg k];exact⟨fs.eraseIdx i,[⟨nx,f.E,o.v⟩],rfl,Wq _ _,qf,λg s=>by rw[yw.1 s];exact⟨rfl,rfl,a,.inr ⟨f,yd n,rfl⟩⟩,.inr rfl⟩
 exact absurd O j
def gq{p}:∀{K fs:Ab},K.Sublist fs->(∀f∈K,p f=true)->(fs.Pairwise λf g=>f.tag<g.tag)->(∀f∈fs,p f=true->∃g∈K,g.tag=f.tag)->fs.filter p=K
 |_,_,.slnil,_,_,_=>rfl
 |_,_,.cons a h,hp,hs,hq=>by
  rename_i K fs
  have O:=Kf.1 hs
  have i:¬p a=true:=λe=>by
   obtain⟨g,c,d⟩:=hq a qf e
   have:=O.1 g (h.subset c)
   omega
  rw[yT i]
  exact gq h hp O.2 (λf b=>hq f (by simp[b]))
 |_,_,.cons_cons a h,hp,hs,hq=>by
  rename_i K fs
  have O:=Kf.1 hs
  rw[yQ (hp a qf)]
  congr 1
  refine gq h (λf b=>hp f (by simp[b])) O.2 (λf b e=>?_)
  obtain⟨g,c,d⟩:=hq f (by simp[b]) e
  rcases yW.1 c with rfl|c
  .have:=O.1 f b
   omega
  exact⟨g,c,d⟩
def Mo.stay{fs:Ab}{nx:Int}{o:Wo}{gs K c:Ab}{nx':Int}(h:Mo fs nx o gs K c nx')(d:fs.Pairwise λf g=>f.tag<g.tag)(hl:∀f∈fs,f.tag<nx):stay fs gs=K/\(gs.filter λg=>!kn fs g)=c:=by
 have j:∀f∈K,kn fs f=true:=λf b=>UM.2 ⟨f,h.sub.subset b,rfl⟩;have l:∀g∈c,kn fs g=false:=λg a=>by
  rw[<-i5,UM];rintro⟨f,b,e⟩;have i:=hl f b;have k:=(h.bT g a).1;omega
 constructor
 .unfold Go.Proofs.YtikojfajahnhgaaGreat.stay;refine gq h.sub (λf b=>Vm.2 ⟨f,by rw[h.eq];exact Ww _ b,rfl⟩) d (λf b e=>?_);obtain⟨g,a,O⟩:=Vm.1 e;rw[h.eq]at a;rcases yp.1 a with a|a
  .exact⟨g,a,O⟩
  have i:=hl f b;have k:=(h.bT g a).1;omega
 rw[h.eq,yV,WQ.2 (λf b=>by simp[j f b]),Yg];exact Yp.2 λg a=>by simp[l g a]
structure Ss where
 ab:Int
 tag:Int
 adds:BN
 drops:BN
 size:Int
def JS(fs:Ab)(nx cp:Int)(sg:Bool)(o:Wo):Ab × Int:=if(Bn fs nx cp sg o).ab=0 then((Bn fs nx cp sg o).fs,(Bn fs nx cp sg o).nx) else(fs,nx)
def SJ(rs:Az)(_:As)(cp:Int)(sg:Bool)(s:Ab × Int)(o:Wo):Ss:=
 ⟨(Bn s.1 s.2 cp sg o).ab,(Bn s.1 s.2 cp sg o).tag,JD (Dy (JS s.1 s.2 cp sg o).1 0 rs) (Dy s.1 0 rs),JD (Dy s.1 0 rs) (Dy (JS s.1 s.2 cp sg o).1 0 rs),0⟩
def AV(cp:Int)(sg:Bool)(os:BM):Ab × Int:=os.foldl (λs o=>JS s.1 s.2 cp sg o) ([],1)
def RJ{cp sg}{os:BM}{k o}(h:os[k]?=some o):AV cp sg (os.take (k+1))=JS (AV cp sg (os.take k)).1 (AV cp sg (os.take k)).2 cp sg o:=by
 rw[Yc,h];simp[AV]
def MB(rs:Az)(ms:As)(cp:Int)(sg:Bool)(os:BM)(n:Nat):List Ss:=(List.range n).filterMap λk=>os[k]?.map λo=>SJ rs ms cp sg (AV cp sg (os.take k)) o
def rJ{rs ms cp sg os k o}(h:os[k]?=some o):MB rs ms cp sg os (k+1)=MB rs ms cp sg os k++[SJ rs ms cp sg (AV cp sg (os.take k)) o]:=by
 unfold MB;rw[List.range_succ,List.filterMap_append];simp[h]
def Nf{cp sg}(a:0<=cp)(O:cp<=40)(os:BM):∀k,VS (AV cp sg (os.take k)).1 (AV cp sg (os.take k)).2 cp sg
 |0=>⟨a,O,a,rfl,show(1:Int)<=1 by decide,show(1:Int)<=1000001 by decide,λf g=>(by cases g),λ_=>Y4⟩
 |k+1=>by
  have ih:=Nf (sg:=sg) a O os k
  cases h:os[k]? with
  |none=>
   have hl:os.length<=k:=qu
   rw[yR hl]at ih
   rw[yR qd]
   exact ih
  |some o=>
   rw[RJ h]
   unfold JS
   split
   .rename_i d
    rcases Tl o ih with q|q
    .rw[d]at q
     omega
    obtain⟨b,_,e,c,_⟩:=q
    rw[e,c]at b
    exact b
   exact ih
def NK(rs:Az)(ms:As)(cp:Int)(sg:Bool)(os:BM):List Ss:=if(Cf rs).1=0/\Jw ms rs.length=true/\0<=cp/\cp<=40/\os.length<=60 then MB rs ms cp sg os os.length else []
section
open Go.Maps
attribute [local go_sem] Oper.semAt_some
def zmQ{l n P}{o:Oper}{a w K Q}(hd:∀c,o.op≠.defer c)(h:o.wp P a w K Q):o.wpIn (Fence.wide.inRound l) n P a w K Q:=by
 refine⟨λ_ _=>trivial,?_⟩;rw[Oper.semAt_plain _ _ _ hd];unfold Oper.wp at h;generalize (execOp a.eval o).run P w=r at h⊢;cases r with
 |ok x w'=>
  cases x<;>simp only[Oper.upon,Oper.uponIn]at h⊢<;>first
   |exact h
   |exact h.elim
   |(refine⟨λhx=>Xm,CallsIn.inRound l (callsIn_wide.2 (Calls.j h ?_))⟩;intro e O b;cases e<;>exact b)
   |exact⟨λhx=>Xm,λc cs _=>let ⟨v,O,r,s⟩:=h c cs;⟨v,O,r,stepsIn_wide.2 s⟩⟩
 |halt x w'=>cases x<;>simp only[Oper.upon,Oper.uponIn]at h⊢<;>exact h
def sV{l k P w ops rest o a Q}(O:o.guard=none)(s x t)(B:o.op=.call { callee:=.builtin .append,args:=#[s,x],argTypes:=#[t,t] })(base e z size bytes)(I:P.underlying t=some (.slice e))(hinfo:(P.info? e).map (λi=>(i.zero,i.size,i.bytes))=some (some z,size,bytes))(q:z.cells.size=size)(y:0<size)(v n xs)(D:a.eval s=v)(f:w.ownsRow base e size v n xs)(p m c)(C:a.eval x=.slice p m c)(news)(hl:news.length=m*size)(g:p=none->m=0)(hnews:∀a,p=some a->∀j u,news[j]?=some u->w.cell? (a.add j)=some u)(E:∀u∈news,u.oneCell'=true)(r:n+m<=maxLen)(hbytes:(n+m)*bytes<=140737488355328)(hbase:base<=w.heap.size)(h:∀b d w',Hid (w'.ownsRow base e size (.slice b (n+m) d) (n+m) (xs++news))->Hid (w.grownBy w' v.ownBlock)->Hid ((Value.slice b (n+m) d).ownBlock=v.ownBlock∨(Value.slice b (n+m) d).ownBlock=some w.heap.size)->wpListIn (Fence.wide.inRound l) k P ops Q rest (a.put o.dst (.slice b (n+m) d)) w'):wpListIn (Fence.wide.inRound l) k P ops Q (o::rest) a w:=
 wpListIn_plain O λ_ J=>zmQ (λc A=>by rw[B]at A;cases A) (iK s x t B base e z size bytes I hinfo q y v n xs D f p m c C news hl g hnews E r hbytes hbase λb d w' K H G=>J _ _ (h b d w' K H G))
def jd:∀(w:Aa)(a:Value),(Instr.makeFunc (.func 161) #[] #[a]).run prog w=.ok (.func (.func 161) #[] #[a]) w:=λ_ _=>by kernel_rfl
def zsv(a w):Ca 99 #[Pn a] w λe w'=>e=.returned (.func (.func 161) #[] #[Pn w.heap.size])/\Hid (Bk w' (w.heap.size) #[Pn a] 84)/\Bw w w':=by
 have f:=jd;go_enter func99,ntmps99;go_upto_region 1 with fail;refine BF ?_;intro g O b;obtain⟨c,d⟩:=An O b;go_wp2;go_ret;exact⟨rfl,d,c⟩
def zk(N adr U fs V a g n w)(h:Ft N adr U fs V a w)(i:∀(j:Nat)(old:Av),a[j]?=some old->∀x∈old,∃T,x=Ae adr T/\T.length<=3/\∀f∈T,f∈U)(o:∀(j:Nat)(m:MK)(old:Av),N.Ms[j]?=some m->a[j]?=some old->old.length+(DD (m.X.map (DV (N.vw V fs))) []).length<=2000000)(b:Bk w g #[Pn N.nw] 84) :
  Uv n prog 161 #[Pn g] j7 N.Sm (KN N.Sm) jj (Hb N adr U fs V a) w:=by
 intro l J W d p O k;refine callsIn_wide.2 ?_;exact zqj N adr U fs V a g l W (h.e d) i o ((d.block _ (Ap b)).c b) J w.heap.size d.size p O k
def tR(h:P:=by
 rcases yp.1 hy with hy|hy
 .exact h.i.l3 y hy
 rw[yw.1 hy];exact h.l3
 ):=h
def uW(h:P:=by
 have hl':g<W.heap.size:=yg af h.i.fr.rest.size;have e1:W.heap[g]?=some W.heap[g]:=by simp[hl']
 rw[k4 g _ e1 af (by omega),<-e1];exact h.i.fr.block g af hn
 ):=h
def zst{N w0 b l xs x W o O a c H I d e J}(h:O_ N w0 b l xs x W)(j:LI W w0.heap.size b l (En xs) (DU xs) a c H I)(s:x.sg=1)(m:b≠l)(v:w0.heap.size<=b)(f:Bw W o)(A:O.ownsRow w0.heap.size 45 2 (.slice d ((En xs).length+1) e) ((En xs).length+1) ((En xs).flatMap Ef++Ef (x.it,x.sl)))(n:o.grownBy O (Value.slice a (En xs).length c).ownBlock)(hl:(Value.slice d ((En xs).length+1) e).ownBlock=(Value.slice a (En xs).length c).ownBlock∨(Value.slice d ((En xs).length+1) e).ownBlock=some o.heap.size) :
  X5 (KN N.Sm) (MW N w0 b l (xs++[x])) W .normal J (O.setCell ⟨b,0,none⟩ (.slice d ((En xs).length+1) e)):=by
 have t:Bk O b #[.slice a (En xs).length c] 36:=E5 ((f.block _ (Ap j.p)).c j.p) n (λk E=>A7 (j.ip.C f).row E) qi;have r:Turned O (O.setCell ⟨b,0,none⟩ (.slice d ((En xs).length+1) e)) b:=Turned.setCells [_] 0 O b;have D:=C7 (i:=0) t (.slice d ((En xs).length+1) e);have w:=j.add m h.p f A n hl (by simpa using D) r;obtain⟨q,B,u,k4⟩:=k8 (S:=N.Sm) f (j.ip.C f).row n t r;refine⟨u,B,q,⟨⟨_,_,_,_,by rw[(oM s).1,(oM s).2];exact w⟩,YA.2 ⟨h.i.ap,WO _ _,λy hy z G=>by rw[yw.1 G];exact h.ap y hy⟩,λy hy=>?_,⟨h.i.fr.rest.c q.rest,λg af hn=>?_⟩⟩⟩
 .exact tR
 exact uW
def zqP{N w0 l b xs x W o O a c H I d e J}(h:O_ N w0 l b xs x W)(j:LI W w0.heap.size b l (DU xs) (En xs) a c H I)(s:x.sg≠1)(m:b≠l)(v:w0.heap.size<=b)(f:Bw W o)(A:O.ownsRow w0.heap.size 45 2 (.slice d ((DU xs).length+1) e) ((DU xs).length+1) ((DU xs).flatMap Ef++Ef (x.it,x.sl)))(n:o.grownBy O (Value.slice a (DU xs).length c).ownBlock)(hl:(Value.slice d ((DU xs).length+1) e).ownBlock=(Value.slice a (DU xs).length c).ownBlock∨(Value.slice d ((DU xs).length+1) e).ownBlock=some o.heap.size) :
  X5 (KN N.Sm) (MW N w0 l b (xs++[x])) W .normal J (O.setCell ⟨b,0,none⟩ (.slice d ((DU xs).length+1) e)):=by
 have t:Bk O b #[.slice a (DU xs).length c] 36:=E5 ((f.block _ (Ap j.p)).c j.p) n (λk E=>A7 (j.ip.C f).row E) qi;have r:Turned O (O.setCell ⟨b,0,none⟩ (.slice d ((DU xs).length+1) e)) b:=Turned.setCells [_] 0 O b;have D:=C7 (i:=0) t (.slice d ((DU xs).length+1) e);have w:=j.add m h.p f A n hl (by simpa using D) r;obtain⟨q,B,u,k4⟩:=k8 (S:=N.Sm) f (j.ip.C f).row n t r;refine⟨u,B,q,⟨⟨_,_,_,_,by rw[(ml s).1,(ml s).2];exact w.swap⟩,YA.2 ⟨h.i.ap,WO _ _,λy hy z G=>by rw[yw.1 G];exact h.ap y hy⟩,λy hy=>?_,⟨h.i.fr.rest.c q.rest,λg af hn=>?_⟩⟩⟩
 .exact tR
 exact uW
def xL(N:NT)(adr:F->Addr)(U fs:Ab)(V:Aj)(olds:C_)(w:Aa)(e:Ending)(w':Aa):Prop:=
 ∃(P Q:Bj)(a a':Af)(c c':Nat)(xs:Dl),e=.returned (.tuple #[.slice a P.length c,.slice a' Q.length c'])/\Iw w' w.heap.size w.heap.size a c P/\Iw w' w.heap.size w.heap.size a' c' Q/\BH (.slice a P.length c) (.slice a' Q.length c')/\(P++Q).Pairwise (λx y=>BH x.2 y.2)/\P.Perm (En xs)/\Q.Perm (DU xs)/\GC (P.map Prod.fst)/\GC (Q.map Prod.fst)/\Hb N adr U fs V olds xs w'/\AM N.Sm w w'
def zmm(N adr U fs V s w)(h:Ft N adr U fs V s w)(hO:∀(j:Nat)(old:Av),s[j]?=some old->∀x∈old,∃T,x=Ae adr T/\T.length<=3/\∀f∈T,f∈U)(hB:∀(j:Nat)(m:MK)(old:Av),N.Ms[j]?=some m->s[j]?=some old->old.length+(DD (m.X.map (DV (N.vw V fs))) []).length<=2000000) :
  Ca 48 #[Pn N.nw] w (xL N adr U fs V s w):=by
 have HH:=Ad h;have HO:=Ad hO;have bk:=Ad hB;have ar:=Ad (λg(q:N.Sm g)=>by
  obtain⟨m,hm,q⟩:=q;exact h.st.lt h.ol hm g q:∀g,N.Sm g->g<w.heap.size)
 refine (callsIn_wide (n:=9)).1 ?_;refine callsIn_of_wp_marks func48 rfl trivial ?_ rfl;simp only[ntmps48,K7,Ya,YU,Nat.reduceAdd,Nat.reduceSub,KH,KI,K8,KT,Yg,Yz];refine wpIn_wide.2 ?_;go_upto_region 1 with fail;refine Ce ?_;intro w1 bh bg bl;obtain ⟨B1,Q1,Q2,bf⟩:=BP bh bg bl (zsv N.nw w1);go_wp2_with fail;refine bf.rtn λw2 ⟨aJ,am⟩=>?_;have B2:=Ad am;have ab:=B1.size;have bW:=am.size;have bO:=Ap aJ;have ai:=Ad (B1.c (am.j ab));obtain ⟨bL,br⟩:=An (zk N adr U fs V s w1.heap.size 8 w2 (HH.e ai) HO bk aJ) (show MW N w w.heap.size (w.heap.size+1) [] w2 from ⟨⟨none,0,none,0,⟨(am.block _ (Ap Q1)).c Q1,(am.block _ (Ap Q2)).c Q2,Iw.nil _ _ _,Iw.nil _ _ _,λg q=>Qj⟩⟩,List.Pairwise.nil,λx Y=>(by cases Y),AM.u ai⟩);go_wp2_with fail;have ax:=Ad (λg q=>yg (ar g q) ai.size:∀ g,N.Sm g->g<w2.heap.size);have M:w.heap.size≠w.heap.size+1:=qd;refine (wpIn_wide (n:=9)).1 ?_;refine wO (α:=Ne) qi (gf:=161) (lb:=#[Pn w1.heap.size]) rfl (enters_of func161 qg rfl) (λ_=>rfl) ax bL (λh k=>KN.c h k) (λ_ _ h=>KN.u h) (λ_ _ _ _ h1 h2 h3=>KN.bg h1 h2 h3)
  (MW N w w.heap.size (w.heap.size+1)) (λpre A B hA E=>hA.tn E ar ai.size Bg (Kg _)) br
  (O_ N w w.heap.size (w.heap.size+1)) (λpre x A B hA hb ac=>hA.eS hb ac ar Bg (Kg _))
  (λpre x a' W=>O_ N w w.heap.size (w.heap.size+1) pre x W/\∃tb,Bk W tb #[I6 x.it.T,x.sl] 45/\a'={ tmps:=#[Pn N.nw,undef,Pn w.heap.size,Pn (w.heap.size+1),Pn tb,I6 x.sg,Pn N.nw,.func (.func 161) #[] #[Pn w1.heap.size],.agg #[I6 x.it.T,x.sl],I6 x.sg,undef,undef,undef,undef,undef,undef,undef,undef,undef,undef,undef,undef,undef,undef,undef,undef],defers:=[] }) (λpre x a' A B h E=>⟨h.1.tn E ar ai.size Bg (Kg _),by
   obtain⟨tb,h1,h2⟩:=h.2;exact⟨tb,E.block _ _ h1 (λq=>q) (.inl rfl),h2⟩⟩) (λxs A B h E=>h.tn E) ?assign ?body ?done
 case assign=>
  rintro l m pre ⟨⟨rule,tags⟩,sl,sg⟩ v K L hK;obtain⟨sa,sc,J⟩:=L.p.ts;simp only at J;subst J;obtain⟨HI,bo⟩:=An L hK;simp only[j7];gi_wp2;exact bo _ _ Ar ⟨HI.tn (d:=w.heap.size) (Tn.u Ar) ar Bg Bg (Kg _),v.heap.size,heap_alloc_new _ _,rfl⟩
 case body=>
  rintro l m pre ⟨⟨rule,tags⟩,sl,sg⟩ a' v ⟨L,tb,aI,rfl⟩;obtain⟨⟨a,c,G,H,E⟩,aO,az,aL⟩:=L.i;have HI:=Ad L;obtain⟨sa,sc,J⟩:=L.p.ts;simp only at J;subst J;obtain⟨t0,t1⟩:=AE aI;have p0:=A8 E.p;have q0:=A8 E.q;have ae:=o6 pre;have bQ:=L.few;have a5:=L.sg;simp only at a5;obtain⟨r,bT⟩:=An E aI;have bS:v.frozen? ⟨w.heap.size,0,none⟩=false:=by simp[World.frozen?,E.p]
  have bP:v.frozen? ⟨w.heap.size+1,0,none⟩=false:=by simp[World.frozen?,E.q]
  rcases a5 with rfl|rfl
  .obtain⟨ao,O⟩:=An r.ip.row (λo=>Au.alloc Bg o:∀o,Bw v (v.alloc o));have aa:w.heap.size<=v.heap.size:=HI.i.fr.rest.size
   gi_wp2_with (first|(gi_at_builtin;refine sV qh (.tmp 12) (.tmp 14) 36 qh w.heap.size 45 _ 2 32 underlying36 Nc qh qd _ (En pre).length _ qh (AZ ao (O _)) (some ⟨_,0,none⟩) 1 1 qh (Ef (⟨rule,tags⟩,.slice sa tags.length sc)) qh (λe=>qo) (CH _ _ _ _ qD) qA qj qd qe ?_;intro a8 c8 W8 aB aj aD;have ah:=Ad (E5 ((O _).block _ (Ap r.p) |>.c r.p) aj (λk b=>A7 (AZ ao (O _)) b) qi);have aK:=A8 ah;have aX:W8.frozen? ⟨w.heap.size,0,none⟩=false:=(by simp[World.frozen?,ah.o]))|fail)
   exact zst HI r rfl M Bg (O _) aB aj aD
  .obtain⟨ao,O⟩:=An r.swap.ip.row (λo=>Au.alloc Bg o:∀o,Bw v (v.alloc o));have aa:w.heap.size<=v.heap.size:=HI.i.fr.rest.size
   gi_wp2_with (first|(gi_at_builtin;refine sV qh (.tmp 16) (.tmp 18) 36 qh w.heap.size 45 _ 2 32 underlying36 Nc qh qd _ (DU pre).length _ qh (AZ ao (O _)) (some ⟨_,0,none⟩) 1 1 qh (Ef (⟨rule,tags⟩,.slice sa tags.length sc)) qh (λe=>qo) (CH _ _ _ _ qD) qA qj qd qe ?_;intro a8 c8 W8 aB aj aD;have ah:=Ad (E5 ((O _).block _ (Ap r.swap.p) |>.c r.swap.p) aj (λk b=>A7 (AZ ao (O _)) b) qi);have aK:=A8 ah;have aX:W8.frozen? ⟨w.heap.size+1,0,none⟩=false:=(by simp[World.frozen?,ah.o]))|fail)
   exact zqP HI r.swap (show(-1:Int)≠1 by decide) M.z (Kg _) (O _) aB aj aD
 case done=>
  rintro D xs v hD L hF hK;obtain⟨⟨a,c,G,H,E⟩,aO,az,aL⟩:=L;have ad:=o6 xs;have bU:xs.length<=2000000000:=by
   obtain⟨_,_,h0,_⟩:=hF;exact h0
  have p0:=A8 E.p;have bN:=Ad (rX a c w.heap.size w.heap.size (En xs) v E.ip (λx Y=>by
   obtain⟨e,he,rfl⟩:=n8 (.inl Y);exact az e he) qd)
  obtain⟨r,HF,HK,bA,bH,aF⟩:=Ma E hF hK aO az aL;go_wp2_with fail;refine bN.rtn λw3⟨P,hP,bM,aP,au⟩=>?_;obtain⟨bt,aC,bw⟩:=nE (S:=N.Sm) r.ip.row au;have bd:P.length=(En xs).length:=hP.length_eq;have bK:Bk w3 (w.heap.size) #[.slice a (En xs).length c] 36:=aC _ _ r.p (λZ e=>qo);have aZ:Bk w3 (w.heap.size+1) #[.slice G (DU xs).length H] 36:=aC _ _ r.q (λZ e=>qo);have ay:Iw w3 w.heap.size w.heap.size G H (DU xs):=⟨Ci r.iq.row (λg ak=>au.block g (r.iq.row.lt g ak).2 (λe=>r.ap g e.z ak)),λy hy=>(r.iq.all y hy).grown au (λk b=>A7 r.ip.row b) qi⟩
  have q0:=A8 aZ;have bB:=Ad (rX G H w.heap.size w.heap.size (DU xs) w3 ay (λx Y=>by
   obtain⟨e,he,rfl⟩:=n8 (.inr Y);exact bH e he) qd)
  obtain⟨G3,aT,a7,a9,HP,bi,aq,aw,bG⟩:=L_ au bt aC bw hP bM aP ay bK;obtain⟨bJ,aM⟩:=An aZ bd;go_wp2_with fail;refine bB.rtn λI⟨Q,hQ,bu,aW,aH⟩=>?_;obtain⟨bD,aA,bC⟩:=nE (S:=N.Sm) aw.row aH;have aG:Bk I (w.heap.size) #[.slice a (En xs).length c] 36:=aA _ _ bG (λZ e=>qo);have aE:Bk I (w.heap.size+1) #[.slice G (DU xs).length H] 36:=aA _ _ bJ (λZ e=>qo);have bz:I.heap[D]?=some (.deferred (some [])):=aA _ _ (a7 _ _ HK (λZ e=>qo)) (λZ e=>qo);have p4:=A8 aG;have q4:=A8 aE;have bR:I.frozen? ⟨w.heap.size,0,none⟩=false:=by simp[World.frozen?,aG]
  have bV:I.frozen? ⟨w.heap.size+1,0,none⟩=false:=by simp[World.frozen?,aE]
  obtain⟨G4,a0,bc,HQ,a4,aU,a6,bn,bv⟩:=L_ aH bD bC hQ bu aW aG aE bz;go_wp2;go_region;go_wp2_with fail;have T1:Turned I (I.setCell ⟨w.heap.size,0,none⟩ (.slice a (En xs).length c)) w.heap.size:=Turned.setCells [_] 0 I _;have p5:=C7 (i:=0) a6 (.slice a (En xs).length c);obtain⟨u5,bp⟩:=AF (I.setCell ⟨w.heap.size,0,none⟩ (.slice a (En xs).length c));rw[<-bp]at T1 p5⊢;obtain⟨aS,bj⟩:=o_ (S:=N.Sm) a6 T1;have q5:Bk u5 (w.heap.size+1) #[.slice G (DU xs).length H] 36:=(T1.block _ M.z).c bn;have T2:Turned u5 (u5.setCell ⟨w.heap.size+1,0,none⟩ (.slice G (DU xs).length H)).drew (w.heap.size+1):=⟨rfl,rfl,rfl,(Turned.setCells [_] 0 u5 _).size,λk b=>(Turned.setCells [.slice G (DU xs).length H] 0 u5 (w.heap.size+1)).block k b⟩
  have q6:=C7 (i:=0) q5 (.slice G (DU xs).length H);have aN:(u5.setCell ⟨w.heap.size+1,0,none⟩ (.slice G (DU xs).length H)).drew.heap[w.heap.size+1]?=some (.cells #[.slice G (DU xs).length H] 36 (0,0)):=by
   have:=q6;simp at this;exact this
  obtain⟨u6,bq⟩:=AF ((u5.setCell ⟨w.heap.size+1,0,none⟩ (.slice G (DU xs).length H)).drew);rw[<-bq]at T2 aN⊢;obtain⟨aV,bI⟩:=o_ (S:=N.Sm) q5 T2;have p6:Bk u6 (w.heap.size) #[.slice a (En xs).length c] 36:=(T2.block _ M).c (by simpa using p5);have ky:∀(k:Nat)(o:Obj),I.heap[k]?=some o->(∀c,o≠.cells c 36 (0,0))->u6.heap[k]?=some o:=λk o b ho=>bI k o (bj k o b ho) ho;have bF:=ky _ _ bv (λZ e=>qo);have lo:∀(k:Nat)(o:Obj),v.heap[k]?=some o->k<w.heap.size->u6.heap[k]?=some o:=λk o b hl=>by
   rw[T2.block k qd,T1.block k qd];exact bc k o (a9 k o b hl) hl
  have aY:Iw I w.heap.size w.heap.size a c P:=⟨Ci aq.row (λg ak=>G4.block g (aq.row.lt g ak).2 (λe=>r.ap g (by rw[<-aM.o];exact ak) e.z)),λy hy=>(aq.all y hy).grown G4 (λk b=>A7 aw.row b) qi⟩
  refine UZ (B:=w2.heap.size) [D] _ ⟨qf,λD' bm=>by rw[yw.1 bm];exact⟨hD,bF⟩⟩ ?_;intro W2 af;have pW:=A8 (af.bW _ _ _ _ p6);have qW:=A8 (af.bW _ _ _ _ aN);have tys:∀(k:Nat)c t,(t=45∨t=3)->Bk I k c t->W2.heap[k]?=I.heap[k]?:=λk cs t R b=>(af.bW _ _ _ _ (ky k _ b (λZ e=>by cases e;rcases R with R|R<;>revert R<;>decide))).c b.z;have aQ:=aM.o;have aR:Q.length=(DU xs).length:=HQ.length_eq;refine⟨.tuple #[.slice a P.length c,.slice G Q.length H],?_,P,Q,a,G,c,H,xs,rfl,aY.aR (λk cs t R _ b=>tys k cs t R b),aU.aR (λk cs t R _ b=>tys k cs t R b),by rw[aQ,aR];exact r.ap,?_,HP,HQ,bi,a4,?_,?_⟩
  .rw[aQ,aR];simp[results,results48,go_sem,pW,qW]
  .have Y:(xs.map λe=>(e.it,e.sl)).Pairwise (λx y:Oa=>BH x.2 y.2):=Wc.2 bA;have bE:(P++Q).Perm (xs.map λe=>(e.it,e.sl)):=by
    refine(List.Perm.append HP HQ).c ?_;unfold En DU;rw[<-yz];exact(List.filter_append_perm (λe:Ne=>decide (e.sg=1)) xs).map _
   exact bE.z.pairwise Y (λh g h1 h2=>h g h2 h1)
  .refine((((HF.kn aT.toK0).kn a0.toK0).kn aS.toK0).kn aV.toK0).kn ⟨af.C.j (yn _),λk cs t fr b _=>af.bW _ _ _ _ b,λk es cl b hs=>?_⟩;exact(af.C.block k (ax k hs)).c b
  refine⟨((((aF.rest.c aT.rest).c a0.rest).c aS.rest).c aV.rest).c (af.C.j (yn _)),λg hg hn=>?_⟩;have hl:g<v.heap.size:=yg hg aF.rest.size;have e1:v.heap[g]?=some v.heap[g]:=MS;rw[af.C.block g (yg hg ai.o.size),lo g _ e1 hg,<-e1];exact aF.block g hg hn
end
section
open Go.Maps
def Y_{adr U cb nb wb w}:∀{l:Aw}{a:DK l},FV adr U cb nb wb l w a->∀g,Gn nb wb l g->∀c t d,w.heap[g]?≠some (.cells c t d)
 |[],_,h,g,b=>by
  rcases b with rfl|rfl
  .exact h.now.aN
  .exact h.ak.aN
 |(.inl _,_)::_,_,h,g,b=>by
  rcases b with rfl|b
  .exact h.2.1.aN
  .exact Y_ h.2.2 g b
 |(.inr _,_)::_,_,h,g,b=>by
  rcases b with rfl|rfl|b
  .exact h.2.1.aN
  .exact h.2.2.1.aN
  exact Y_ h.2.2.2 g b
def MK.St.nc{m:MK}{adr U vw g old w}(h:m.St adr U vw g old w):∀x,m.S x->∀c t f,w.heap[x]?≠some (.cells c t f):=by
 cases m with
 |inl O=>
  obtain⟨R,c⟩:=O;obtain⟨⟨a,e,_⟩,_⟩:=h;exactλx d=>Y_ e x (Ji.2 d)
 |inr t=>
  obtain⟨K,M,_,_,b⟩:=h.2.ex;rintro x (rfl|rfl)
  .exact b.now.aN
  exact b.ak.aN
structure Mp(N:NT) (rs:Az) (ms:As):Prop where
 len:N.Ms.length=rs.length
 bz:∀(i:Nat)(m:MK)(r:Ru),N.Ms[i]?=some m->rs[i]?=some r->∃d,ms[i]?=some d/\m.X.map Cx.cp=CO r.x [] 0/\m.bA d
structure Hj(N:NT) (rs:Az) (ms:As) (adr:F->Addr) (U fs fo:Ab) (nx:Int) (V:Aj) (olds:C_) (n:Nat) (D:DataW Unit) (w:Aa):Prop where
 st:Ft N adr U fs V olds w
 aG:Mp N rs ms
 mp:w.ownsMap prog 3 Ck N.fb n D
 mv:Ic adr fs D
 low:∀f∈U,f.tag<nx
 tg:∀f∈U,∀g∈U,f.tag=g.tag->f=g
 bz:∀f∈fs,adr f=⟨(adr f).block,0,none⟩
 rd:∀f∈fs,Do f/\A6 f
 dt:∀f∈fo,f∈U
 bB:∀(i:Nat)(r:Ru)(old:Av),rs[i]?=some r->olds[i]?=some old->old.Perm ((Ie r fo).map (Ae adr))
def Ft.cT{N adr U fs V a w rs ms}(h:Ft N adr U fs V a w)(j:Mp N rs ms){i:Nat}{m r}(b:N.Ms[i]?=some m)(n:rs[i]?=some r):DD (m.X.map (DV (N.vw V fs))) []=Ie r fs/\∀T∈Ie r fs,T.length<=3/\∀f∈T,f∈U:=by
 have O:=yd b;obtain⟨o,k,g⟩:=h.bx.aV h.lk O;obtain⟨d,_,l,_⟩:=j.bz i m r b n;have e:=kB l k;refine⟨e,λT c=>?_⟩;rw[<-e]at c;exact m.cu (h.ok.ok m O) g c
def Mp.at{N rs ms}(h:Mp N rs ms){i:Nat}{r}(a:rs[i]?=some r):∃m,N.Ms[i]?=some m:=⟨N.Ms[i]'(by rw[h.len];exact(yf.1 a).1),qf⟩
theorem Hj.e{N rs ms adr U fs c nx V a n D w w'}(h:Hj N rs ms adr U fs c nx V a n D w)(b:Bw w w'):Hj N rs ms adr U fs c nx V a n D w':=
 ⟨h.st.e b,h.aG,J_ h.mp (b.block _ h.mp.lt),h.mv,h.low,h.tg,h.bz,h.rd,h.dt,h.bB⟩
def Hj.dI{N rs ms adr U fs fo nx cp sg V k n D w o a c gs nx'}(h:Hj N rs ms adr U fs fo nx V k n D w)(hv:VS fs nx cp sg)(M:gs=(Bn fs nx cp sg o).fs)(hx:nx'=(Bn fs nx cp sg o).nx)(h0:(Bn fs nx cp sg o).ab=0)(hn:n<50000)(Z:∀v∈o.v,ER v)(aq:o.E.size<=maxLen)(B:FX w a gs) :
  Ca 46 #[Pn N.nw,.slice a gs.length c] w λe w'=>e=.returned (.tuple #[])/\(∃adr' U' y n' A,Hj N rs ms adr' U' gs fo nx' y k n' A w'/\n'<=n+1)/\EP N w w':=by
 have H:VS gs nx' cp sg:=by
  rcases Tl o hv with q|⟨m,_,s,I,_⟩
  .rw[h0]at q;omega
  rw[s,I,<-M,<-hx]at m;exact m
 obtain⟨K,L,d⟩:=pL o hv h0;rw[<-M,<-hx]at d;obtain⟨e1,e2⟩:=d.stay (RF hv.aH) hv.low;have aa:fs.length<=40:=by have:=hv.len;have:=hv.aQ;omega
 have aw:gs.length<=40:=by have:=H.len;have:=H.aQ;omega
 have am:(Lit.int .i64 nx).wf=true:=by
  have C:=hv.cQ;have h2:=hv.dD;exact Pz qd qd
 have Y:∀f∈gs,Do f/\A6 f:=λf b=>by
  rw[d.eq]at b;rcases yp.1 b with b|b
  .exact h.rd f (d.sub.subset b)
  obtain⟨m,u,s,I⟩:=d.bT f b;refine⟨⟨by rw[m];exact am,by rw[u];exact Z⟩,?_,?_,by rw[u];exactλv hv=>(Z v hv).2.2⟩
  .rcases I with⟨J,_⟩|⟨g,O,J⟩
   .rw[J];exact aq
   rw[<-J];exact(h.rd g O).2.1
  rw[u];simp only[DO,ym,decide_eq_true_eq]at s;omega
 have aj:∀g∈gs,kn fs g=false->g ∉ U:=λg O hk hU=>by
  have R:g∈gs.filter λg=>!kn fs g:=yh.2 ⟨O,by rw[hk];rfl⟩;rw[e2]at R;have C:=(d.bT g R).1;have h2:=h.low g hU;omega
 refine(zpl N h.st.ok adr U fs gs V k n D a c w h.st.bx h.st.lk h.st.st h.st.ol h.mp h.mv qd B H.aH (λf b=>(Y f b).1) qd qd (λf b=>(h.rd f b).1.1) (λf b g O=>h.tg f (h.st.lk.sub f b) g (h.st.lk.sub g O)) aj h.bz).j λe w' q=>?_;obtain⟨m,⟨adr',p,y,A,G⟩,s⟩:=q;have l:p=L:=by rw[G.ae,yZ];exact e2
 have t:stay fs gs++p=gs:=by rw[e1,l,d.eq]
 have C:=d.one;have ar:∀f∈U++p,f.tag<nx':=λf b=>by
  rcases yp.1 b with b|b
  .have:=h.low f b;rcases d.fF with⟨_,q⟩|q<;>omega
  rw[l]at b;have q:=(d.bT f b).1;rcases d.fF with⟨q',_⟩|q'
  .rw[q']at b;cases b
  omega
 refine⟨m,⟨adr',U++p,y,n+p.length,A,⟨⟨h.st.ok,by have:=G.bx;rwa [t]at this,by have:=G.lk;rwa [t]at this,by have:=G.ms;rwa [t]at this,h.st.ol⟩,h.aG,G.mp,by have:=G.mv;rwa [t]at this,ar,λf b g O e=>?_,by have:=G.bz;rwa [t]at this,Y,λf b=>Ww _ (h.dt f b),λi r old hr ho=>?_⟩,by rw[l];omega⟩,s⟩
 .rcases yp.1 b with b|b<;>rcases yp.1 O with O|O
  .exact h.tg f b g O e
  .rw[l]at O;have q:=(d.bT g O).1;have q':=h.low f b;omega
  .rw[l]at b;have q:=(d.bT f b).1;have q':=h.low g O;omega
  rw[l]at b O;cases L with
  |nil=>cases b
  |cons x r=>
   have au:r=[]:=by
    simp only[Ya]at C;exact Wb.1 qd
   rw[au]at b O;rw[yw.1 b,yw.1 O]
 refine(h.bB i r old hr ho).c (KP (Ym λT B=>?_));refine(RU λf b=>G.ag f (h.dt f ?_)).z;obtain⟨W,e,hW⟩:=Rx _ _ _ B;rw[Yg]at e;exact hW f (e▸b)
def Ft.nc{N adr U fs V a w}(h:Ft N adr U fs V a w):∀g,N.Sm g->∀c t e,w.heap[g]?≠some (.cells c t e):=by
 rintro g ⟨m,d,f⟩;obtain⟨i,b⟩:=YQ d;have hl:=(yf.1 b).1;exact(h.st i m (a[i]'(by rw[h.ol];exact hl)) b qf).nc g f
def CgD(N:NT)(rs:Az)(ms:As)(adr:F->Addr)(U fs fo:Ab)(nx:Int)(V:Aj)(n:Nat)(D:DataW Unit)(w:Aa)(e:Ending)(w':Aa):Prop:=
 ∃(P Q:Bj)(a a':Af)(c c':Nat),e=.returned (.tuple #[.slice a P.length c,.slice a' Q.length c'])/\Iw w' w.heap.size w.heap.size a c P/\Iw w' w.heap.size w.heap.size a' c' Q/\BH (.slice a P.length c) (.slice a' Q.length c')/\(P++Q).Pairwise (λx y=>BH x.2 y.2)/\P.map Prod.fst=JD (Dy fs 0 rs) (Dy fo 0 rs)/\Q.map Prod.fst=JD (Dy fo 0 rs) (Dy fs 0 rs)/\(∃olds',Hj N rs ms adr U fs fs nx V olds' n D w')/\AM N.Sm w w'/\CK w w'
def mr{r fs X vw}(b:QG X)(O:X.map Cx.cp=CO r.x [] 0)(a:∀c∈X,gV vw c=fs.filter (Ah c.cp.H))(hl:fs.length<=100):(Ie r fs).length<=1000000:=by
 have h:=(XQ vw 100 qd X [[]] (λc d=>by rw[a c d];exact yi (Yi _ _) hl)).2;simp only[yX,YY,yO,Ya,YU,Yj,K6]at h;rw[kB O a]at h;exact yi h (yi (KF qd b.pos) qi)
def Hj.du{N rs ms adr U fs p nx cp sg V k n D w}(h:Hj N rs ms adr U fs p nx V k n D w)(I:(Cf rs).1=0)(hv:VS fs nx cp sg)(K:∀r∈rs,(∀T∈Ie r p,T.length<=3)/\(Ie r p).length<=1000000)(ao:p.Pairwise λf g=>f.tag<g.tag) :
  Ca 48 #[Pn N.nw] w (CgD N rs ms adr U fs p nx V n D w):=by
 have aa:fs.length<=40:=by have:=hv.len;have:=hv.aQ;omega
 have ah:∀r∈rs,∀T∈Ie r p,T.length<=3/\∀f∈T,f∈U:=λr b T s=>⟨(K r b).1 T s,λf hf=>by
  obtain⟨W,e,hW⟩:=Rx _ _ _ s;rw[Yg]at e;exact h.dt f (hW f (e▸hf))⟩
 have J:∀(j:Nat)(old:Av),k[j]?=some old->∃r,rs[j]?=some r:=λj old o=>⟨rs[j]'(by rw[<-h.aG.len,<-h.st.ol];exact(yf.1 o).1),qf⟩
 have hO:∀(j:Nat)(old:Av),k[j]?=some old->∀x∈old,∃T,x=Ae adr T/\T.length<=3/\∀f∈T,f∈U:=λj old o x hx=>by
  obtain⟨r,b⟩:=J j old o;obtain⟨T,s,e⟩:=yv.1 ((h.bB j r old b o).mem_iff.1 hx);exact⟨T,e.z,ah r (yd b) T s⟩
 have few:∀(j:Nat)(m:MK)(r:Ru),N.Ms[j]?=some m->rs[j]?=some r->(Ie r fs).length<=1000000:=λj m r l b=>by
  obtain⟨d,_,Y,_⟩:=h.aG.bz j m r l b;exact mr (XW I (yd b) Y) Y (h.st.bx.aV h.st.lk (yd l)).2.1 qd
 refine(zmm N adr U fs V k w h.st hO λj m old l o=>?_).j λe w' q=>?_
 .obtain⟨r,b⟩:=J j old o;have h1:=few j m r l b;have h2:=(K r (yd b)).2;rw[(h.st.cT h.aG l b).1,(h.bB j r old b o).length_eq,yu];omega
 obtain⟨P,Q,a,a',c,c',xs,q1,q2,q3,q4,q5,q6,q7,q8,q9,⟨G,olds',l0,R,l2,l3,l4,l5⟩,B⟩:=q;have C:Uz adr U rs p fs G:=⟨h.st.lk.inj,h.tg,by rw[l2,h.aG.len],λi r L b y=>by
  obtain⟨m,l⟩:=h.aG.at b;obtain⟨old,O⟩:∃old,k[i]?=some old:=⟨k[i]'(by rw[h.st.ol];exact(yf.1 l).1),qf⟩
  exact⟨old,_,l4 i m old L l O y,h.bB i r old b O,by rw[(h.st.cT h.aG l b).1]⟩,ah,λr b=>by
  obtain⟨i,Z⟩:=YQ b;obtain⟨m,l⟩:=h.aG.at Z;exact(h.st.cT h.aG l Z).2⟩
 have aq:∀e∈xs,e.sg=1∨e.sg = -1:=λe he=>by
  have l:Iz e∈Ht 0 G:=by
   rw[<-R];exact yS he
  obtain⟨i,L,T,y,s,_⟩:=(UY 0 G).1 l;have hlt:i<rs.length:=by
   rw[<-C.len];exact(yf.1 y).1
  obtain⟨old,H,k1,_,_⟩:=C.V i (rs[i]'hlt) L qf y;obtain⟨_,_,M,k3⟩:=k1.ok _ s;simp only at M k3;rcases RC (Ae adr T) H with v|v<;>rcases RC (Ae adr T) old with u|u<;>rw[v,u]at M<;>omega
 obtain⟨v,u⟩:=wM C R (λr b=>Vz I b) ao (RF hv.aH) q6 q7 q8 q9 aq;refine⟨P,Q,a,a',c,c',q1,q2,q3,q4,q5,v,u,⟨olds',l3,h.aG,J_ h.mp (B.block _ h.mp.lt (λ⟨m,l,E⟩=>h.st.ok.dr m l E)),h.mv,h.low,h.tg,h.bz,h.rd,h.st.lk.sub,λi r old b O=>?_⟩,B,λg cs t fr A=>(B.block g (Ap A) (λE=>h.st.nc g E _ _ _ A)).c A⟩;obtain⟨m,l⟩:=h.aG.at b;have:=l5 i m old l O;rwa [(h.st.cT h.aG l b).1]at this
structure OX where
 ab:Int
 tag:Int
 size:Int
 va:Value
 vd:Value
 P:Bj
 Q:Bj
def Pv(x:OX):Aj:=[.int .i64 x.ab,.int .i64 x.tag,x.va,x.vd,.int .i64 x.size]
def TS(x:OX):Ss:=⟨x.ab,x.tag,x.P.map Prod.fst,x.Q.map Prod.fst,0⟩
structure OY(w:Aa) (b:Nat) (x:OX):Prop where
 a:∃a c,x.va=.slice a x.P.length c/\Iw w b b a c x.P
 d:∃a c,x.vd=.slice a x.Q.length c/\Iw w b b a c x.Q
structure SO(w:Aa) (b:Nat) (a:Af) (c:Nat) (L:List OX):Prop where
 row:w.ownsRow b 42 5 (.slice a L.length c) L.length (L.flatMap Pv)
 V:∀x∈L,OY w b x
 eT:(L.flatMap λx=>[x.va,x.vd]).Pairwise BH
 G:(L.flatMap λx=>x.P++x.Q).Pairwise λx y=>BH x.2 y.2
def SO.nil(w b):SO w b none 0 []:=⟨yJ _ _ _ _,λx a=>(by cases a),List.Pairwise.nil,List.Pairwise.nil⟩
theorem OY.aR{w w' b x}(h:OY w b x)(g:∀(k:Nat)c t,(t=45∨t=3)->b<=k->Bk w k c t->w'.heap[k]?=w.heap[k]?):OY w' b x:=by
 obtain⟨⟨a,c,e,i⟩,⟨j,l,O,m⟩⟩:=h;exact⟨⟨a,c,e,i.aR λk c t d hb f=>g k c t d Xy f⟩,⟨j,l,O,m.aR λk c t d hb f=>g k c t d Xy f⟩⟩
theorem SO.aR{w w' b a c L}(h:SO w b a c L)(d:∀(k:Nat)c t,(t=42∨t=45∨t=3)->b<=k->Bk w k c t->w'.heap[k]?=w.heap[k]?):SO w' b a c L:=
 ⟨Ci h.row λg e=>by
  obtain⟨j,O⟩:=A7 h.row e
  exact d g j _ (.inl rfl) (h.row.lt g e).1 O,λx f=>(h.V x f).aR λk c t i=>d k c t (.inr i),h.eT,h.G⟩
theorem SO.W{w w' b a c L}(h:SO w b a c L)(d:CK w w'):SO w' b a c L:=by grind[CK,SO.aR]
theorem SO.fn{N w w' b a c L}(h:SO w b a c L)(e:EP N w w'):SO w' b a c L:=h.aR λk c t ht _ d=>(e.kept _ _ _ _ d qE qE).c d.z
theorem SO.lt{w b a c L}(h:SO w b a c L):(∀v∈L.flatMap λx=>[x.va,x.vd],∀g,v.ownBlock=some g->g<w.heap.size)/\∀y∈L.flatMap λx=>x.P++x.Q,∀g,y.2.ownBlock=some g->g<w.heap.size:=by
 constructor
 .intro v hv g f;obtain⟨x,i,hv⟩:=Yq.1 hv;obtain⟨⟨a,c,e,j⟩,⟨l,m,O,k⟩⟩:=h.V x i;simp only[yW,Yw,or_false]at hv;rcases hv with rfl|rfl
  .rw[e]at f;exact(j.row.lt g f).2
  rw[O]at f;exact(k.row.lt g f).2
 intro y d g f;obtain⟨x,i,d⟩:=Yq.1 d;obtain⟨⟨a,c,e,j⟩,⟨l,m,O,k⟩⟩:=h.V x i;rcases yp.1 d with d|d
 .exact((j.all y d).ot.lt g f).2
 exact((k.all y d).ot.lt g f).2
def kV:(prog.info? 42).map (λi=>(i.zero,i.size,i.bytes))=some (some (.agg #[I6 0,I6 0,.slice none 0 0,.slice none 0 0,I6 0]),5,72):=qg
def SO.snoc{w f p b a n c o L x}(h:SO w b a c L)(r:SO f b a c L)(q:OY f w.heap.size x)(C:BH x.va x.vd)(M:(x.P++x.Q).Pairwise λy z=>BH y.2 z.2)(m:b<=w.heap.size)(ho:p.ownsRow b 42 5 (.slice n (L.length+1) o) (L.length+1) (L.flatMap Pv++Pv x))(I:f.grownBy p (Value.slice a L.length c).ownBlock):SO p b n o (L++[x]):=by
 have B:∀k,(Value.slice a L.length c).ownBlock=some k->∃c,Bk f k c 42:=λk i=>A7 r.row i;have O:∀(k:Nat)c t,(t=45∨t=3)->Bk f k c t->p.heap[k]?=f.heap[k]?:=λk cs t ht i=>I.block k (Ap i) λe=>by
  obtain⟨W,J⟩:=B k e.z;exact Cw i J qB
 obtain⟨D,R⟩:=h.lt;have H:OY f b x:=by
  obtain⟨⟨a,c,e,j⟩,⟨n,o,N,d⟩⟩:=q;exact⟨⟨a,c,e,j.lower m m⟩,⟨n,o,N,d.lower m m⟩⟩
 obtain⟨⟨Z,Y,E,s⟩,⟨T,U,K,A⟩⟩:=q;refine⟨Qm,λy l=>?_,?_,?_⟩
 .have hy7:OY f b y:=by
   rcases yp.1 l with l|l
   .exact r.V y l
   rw[yw.1 l];exact H
  exact hy7.aR λk cs t ht _ i=>O k cs t ht i
 .rw[Yy,yX,YY,yO];refine YA.2 ⟨h.eT,by simpa using C,λu hu v hv g j d=>?_⟩;have:=D u hu g j;simp only[yW,Yw,or_false]at hv;rcases hv with rfl|rfl
  .rw[E]at d;have:=(s.row.lt g d).1;omega
  rw[K]at d;have:=(A.row.lt g d).1;omega
 rw[Yy,yX,YY,yO];refine YA.2 ⟨h.G,M,λu hu v hv g j d=>?_⟩;have:=R u hu g j;rcases yp.1 hv with hv|hv
 .have:=((s.all v hv).ot.lt g d).1;omega
 have:=((A.all v hv).ot.lt g d).1;omega
def Pe(w:Aa)(a:Af)(os:BM):Prop:=∀(i:Nat)(o:Wo),os[i]?=some o->∃b p sa sc,a=some ⟨b,p,none⟩/\w.cell? ⟨b,p+i*4,none⟩=some (.int .i64 o.w)/\w.cell? ⟨b,p+i*4+1,none⟩=some (.int .i64 o.tag)/\w.cell? ⟨b,p+i*4+2,none⟩=some (.string o.E)/\w.cell? ⟨b,p+i*4+3,none⟩=some (.slice sa o.v.length sc)/\Cj w sa o.v
theorem Pe.e{w w' a os}(h:Pe w a os)(c:Bw w w'):Pe w' a os:=λi o j=>by
 obtain⟨b,p,sa,d,e,O,f,k,g,l⟩:=h i o j;exact⟨b,p,sa,d,e,zab c O,zab c f,zab c k,zab c g,l.e c⟩
structure Hy(o:Wo):Prop where
 wf:(Lit.int .i64 o.tag).wf=true
 E:o.E.size<=maxLen
 len:o.v.length<=1048576
 bI:∀v∈o.v,ER v
def zrC(o)(b:Hy o)(a c fs nx cp sg sa i w)(hv:Cs w a fs)(m:fs.length<=c)(O:Cj w sa o.v)(hl:fs.length<=1048576)(g:∀f∈fs,Do f/\A6 f) :
  Ca 45 #[.agg #[I6 o.w,I6 o.tag,.string o.E,.slice sa o.v.length i],.agg #[.slice a fs.length c,I6 nx,I6 cp,.bool sg]] w λe w'=>
   (∃n p xs,e=.returned ((Bn fs nx cp sg o).val n p)/\Cg w' w.heap.size (.slice n (Bn fs nx cp sg o).fs.length p) (Bn fs nx cp sg o).fs.length (Bn fs nx cp sg o).fs xs)/\Bw w w':=by
 unfold Bn;by_cases j:o.w=1
 .rw[if_pos j,j];exact zkA a c fs nx cp sg o.E o.tag sa i o.v w hv m b.wf O hl (λf d=>(g f d).2) (λf d=>(g f d).1) b.E b.len b.bI
 rw[if_neg j];by_cases k:o.w=2
 .rw[if_pos k,k];exact zjG a c fs nx cp sg o.E o.tag sa i o.v w hv m b.wf O hl (λf d=>(g f d).2) (λf d=>(g f d).1) b.E b.len b.bI
 rw[if_neg k];by_cases l:o.w=3
 .rw[if_pos l,l];exact zlj a c fs nx cp sg o.E o.tag sa i o.v w hv m b.wf O hl (λf d=>(g f d).2) (λf d=>(g f d).1) b.E b.len b.bI
 rw[if_neg l];exact zqz o.w o.tag o.E sa o.v.length i a fs.length c nx cp sg w j k l
def Hj.ed{N rs ms adr U fs b nx V a n D w}(h:Hj N rs ms adr U fs b nx V a n D w):Ca 47 #[Pn N.nw] w λe w'=>(∃z,e=.returned (I6 z))/\w'=w:=zqa N h.st.ok adr U fs V a w h.st.bx h.st.lk h.st.st h.st.ol
end
def Qt{P:Aa->Prop}{w o1 O o3}(h:∀wt,Bw w wt->wt.heap[w.heap.size]?=some o1->wt.heap[w.heap.size+1]?=some O->wt.heap[w.heap.size+1+1]?=some o3->P wt):P (((w.alloc o1).alloc O).alloc o3):=
 h _ ((Ar.alloc qf _).alloc qe _) (((yN _ _ _ qe).c (yN _ _ _ qf)).c (heap_alloc_new _ _)) ((yN _ _ _ qf).c qH) un
def kz(r:C6)(w:Aa)(e:Ending)(w':Aa):Prop:=(∃a c,e=.returned (r.val a c)/\DN (λb=>w.heap.size<=b) w' a r.fs/\r.fs.length<=c)/\Bw w w'
def OW{w b}(q:Bk w b #[.slice none 0 0,I6 0,I6 0,.bool false,I6 0,I6 0] 87):At w b 0 (.slice none 0 0)/\At w b 1 (I6 0)/\At w b 2 (I6 0)/\At w b 3 (.bool false)/\At w b 4 (I6 0)/\At w b 5 (I6 0)/\w.frozen? ⟨b,0,none⟩=false/\w.frozen? ⟨b,1,none⟩=false/\w.frozen? ⟨b,2,none⟩=false/\w.frozen? ⟨b,3,none⟩=false/\w.frozen? ⟨b,4,none⟩=false/\w.frozen? ⟨b,5,none⟩=false:=by
 simp[World.cell?,World.frozen?,q]
def Ud(w:Aa)(b:Nat)(a:Af)(c:Nat)(r:C6):Aa:=((((((w.setCell ⟨b,0,none⟩ (.slice a r.fs.length c)).setCell ⟨b,1,none⟩ (.int .i64 r.nx)).setCell ⟨b,2,none⟩ (.int .i64 r.cp)).setCell ⟨b,3,none⟩ (.bool r.sg)).setCell ⟨b,4,none⟩ (.int .i64 r.ab)).setCell ⟨b,5,none⟩ (.int .i64 r.tag))
def oy{r}{w d e:Aa}{b a c}(h:DN (λg=>d.heap.size<=g) e a r.fs)(l:r.fs.length<=c)(i:Bw w e)(hl:w.heap.size<=b)(n:b<d.heap.size)(m:w.heap.size<=d.heap.size):kz r w (.returned (r.val a c)) (Ud e b a c r):=by
 refine⟨⟨a,c,rfl,DN.j (h.kept ?_) (λg f=>yi m f),l⟩,?_⟩
 .intro g f _;have k:∀(v:Aa)o u,(v.setCell ⟨b,o,none⟩ u).heap[g]?=v.heap[g]?:=λv o u=>yD _ _ _ _ (by show g≠b;omega);unfold Ud;simp only[k]
 exact(((((i.setCell hl _).setCell hl _).setCell hl _).setCell hl _).setCell hl _).setCell hl _
def jE(h:P:=by rintro e w2 ⟨⟨a2,c2,rfl,ah,ao⟩,O⟩;have q:=(O.block _ G3).c Q3;obtain⟨FA,B2⟩:=An ah (B1.thn O);obtain⟨u0,u1,u2,u3,u4,u5,v0,v1,v2,v3,v4,v5⟩:=OW q;clear ah O q H1 H2 H3;unfold C6.val;go_wp2;refine bodyPost_ret (v:=r.val a2 c2) (by simp[results,results51,go_sem,C6.val, *]) rfl (oy FA ao B2 W3 G3 B1.size)):=h
def zs0(o)(m:Hy o)(a c fs nx cp sg sa s w)(hv:Cs w a fs)(B:fs.length<=c)(C:Cj w sa o.v)(hl:fs.length<=1048576)(I:∀f∈fs,Do f/\A6 f) :
  Ca 51 #[.agg #[.slice a fs.length c,I6 nx,I6 cp,.bool sg],.agg #[I6 o.w,I6 o.tag,.string o.E,.slice sa o.v.length s]] w (kz (Bn fs nx cp sg o) w):=by
 have y:=Ad (λf hf=>(I f hf).2);have H1:=Ad (λw'(h:Bw w w')=>r_ a c fs nx cp sg o.E sa s o.v w' (hv.e h) (C.e h) B hl y m.E m.len (λv hv=>(m.bI v hv).2.2));have H2:=Ad (λw'(h:Bw w w')=>sF a c fs nx cp sg o.tag w' (hv.e h) B hl y);have H3:=Ad (λw'(h:Bw w w')=>r8 a c fs nx cp sg o.tag sa s o.v w' (hv.e h) (C.e h) B hl y m.len (λv hv=>(m.bI v hv).2.2));clear hv C I y;have J:=Ad (show(o.w=1/\Bn fs nx cp sg o=DF fs nx cp sg o.E o.v)∨(o.w=2/\Bn fs nx cp sg o=Df fs nx cp sg o.tag)∨(o.w=3/\Bn fs nx cp sg o=CA fs nx cp sg o.tag o.v)∨(o.w≠1/\o.w≠2/\o.w≠3/\Bn fs nx cp sg o=C6.ai) by
  unfold Bn;by_cases x:o.w=1
  .exact .inl ⟨x,if_pos x⟩
  rw[if_neg x];by_cases u:o.w=2
  .exact .inr (.inl ⟨u,if_pos u⟩)
  rw[if_neg u];by_cases t:o.w=3
  .exact .inr (.inr (.inl ⟨t,if_pos t⟩))
  exact .inr (.inr (.inr ⟨x,u,t,if_neg t⟩)))
 go_enter func51,ntmps51;go_upto_region 1 with fail;refine Qt ?_;intro b H aj ai k;obtain⟨n,l⟩:=AF w.heap.size;obtain⟨p,O⟩:=AF (n+1);obtain⟨K,G⟩:=AF (p+1);rw[<-l]at aj;rw[<-l]at ai;rw[<-l]at k;rw[<-O]at ai;rw[<-O]at k;rw[<-G]at k;(try rw[<-l]);(try rw[<-O]);(try rw[<-G]);have Y:At b n 0 (.slice a fs.length c):=Xk;have d1:At b n 1 (I6 nx):=Xk;have U:At b n 2 (I6 cp):=Xk;have Z:At b n 3 (.bool sg):=Xk;have N:At b p 0 (I6 o.w):=Sf;have T:At b p 1 (I6 o.tag):=Sf;have R:At b p 2 (.string o.E):=Sf;have W:At b p 3 (.slice sa o.v.length s):=Sf;obtain⟨B1,Q3,G3,W3⟩:=BP H k (Ap k) (show w.heap.size<=K by omega);clear H aj ai k l O G;rcases J.o with⟨g,d⟩|⟨g,d⟩|⟨g,d⟩|⟨g,M,L,d⟩
 all_goals clear J
 .have A:(o.w==1)=true:=by simp;omega
  have D:(o.w==2)=false:=by simp;omega
  have z:(o.w==3)=false:=by simp;omega
  rw[<-d]at H1;clear g d;generalize Bn fs nx cp sg o=r at *;go_wp2_with fail;refine(H1 b B1).j ?_;exact jE
 .have A:(o.w==1)=false:=by simp;omega
  have D:(o.w==2)=true:=by simp;omega
  have z:(o.w==3)=false:=by simp;omega
  rw[<-d]at H2;clear g d;generalize Bn fs nx cp sg o=r at *;go_wp2_with fail;refine(H2 b B1).j ?_;exact jE
 .have A:(o.w==1)=false:=by simp;omega
  have D:(o.w==2)=false:=by simp;omega
  have z:(o.w==3)=true:=by simp;omega
  rw[<-d]at H3;clear g d;generalize Bn fs nx cp sg o=r at *;go_wp2_with fail;refine(H3 b B1).j ?_;exact jE
 have A:(o.w==1)=false:=by simp;omega
 have D:(o.w==2)=false:=by simp;omega
 have z:(o.w==3)=false:=by simp;omega
 clear g M L;have q:=Q3.o;obtain⟨u0,u1,u2,u3,u4,u5,v0,v1,v2,v3,v4,v5⟩:=OW q;clear q H1 H2 H3;go_wp2;refine bodyPost_ret (v:=C6.ai.val none 0) (by simp[results,results51,go_sem,C6.val,C6.ai, *]) rfl (by rw[d];exact oy (r:=C6.ai) (a:=none) (c:=0) (λi f hf=>OH) (yn _) B1 W3 G3 B1.size)
def zos(rs ms fs a c ma mc fa fc){q q'}(w)(hv:Fg q w a rs)(n:CJ q' w ma ms)(u:Cs w fa fs)(f:(Cf rs).1=0)(x:ms.length=rs.length)(K:fs.length<=40) :
  Ca 53 #[.slice a rs.length c,.slice ma ms.length mc,.slice fa fs.length fc] w λe w'=>(∃z,e=.returned (I6 z))/\Bw w w':=by
 obtain⟨W,M,T,Y⟩:=BP hv n u (λr(h:r∈rs)=>Oy f h);have aC:=Rm f;have p:=Ad x;clear hv u n f x;go_enter func53,ntmps53;go_wp2
 go_loopw [14,7] (λiv N wr=>∃(k:Nat)(s:Int),iv=I6 (k:Int)/\k<=rs.length/\N=I6 s/\Bw w wr) (λiv _ _=>rs.length-(intOf iv).toNat)
 .exact⟨0,0,rfl,yn _,rfl,Au⟩
 obtain⟨k,s,rfl,aD,rfl,m⟩:=hrel;have b:=Ad m;clear m;by_cases i:k<rs.length
 .obtain⟨r,g⟩:=Bq i;obtain⟨d,hd⟩:∃d,ms[k]?=some d:=⟨ms[k]'(by have:=p.o;omega),qf⟩
  obtain⟨rb,ro,R,B,E,D,y,A,rfl,_,c0,c1,c2,c3,c4,v,_,_,_⟩:=(W.e b).get g;obtain⟨mb,mo,rfl,_,m0⟩:=(M.e b).get hd;obtain⟨L,t,_⟩:=Y r (yd g);have I:=Ad (λw'(h:Bw wr w')=>oq r fs R B E D y A fa fc w' (v.e h) ((T.e b).e h) L t K);obtain⟨z0,z1⟩:=CZ i;have z2:(k:Int)<(ms.length:Int):=by have:=p.o;omega
  clear g hd v t;go_upto_region 5 with fail;refine BF ?_;intro C O G;obtain⟨b0,b1,b2,b3,b4⟩:=Fq G;have m1:=zab O m0;obtain⟨U,H⟩:=An O (b.thn O);go_wp2_with fail;refine(I C U).j ?_;rintro e w2 ⟨⟨pa,Z,P,rfl,_,_⟩,l⟩;have m2:=zab l m1;have J:=Ad (H.thn l)
  cases e0:(d==0) <;> (
   go_wp2;go_roundw
   case rel=>exact⟨k+1,_,qm,qd,rfl,J⟩
   case measure=>(simp[intOf];omega))
 have hy:=FN i;go_wp2;go_ret;exact⟨⟨_,rfl⟩,b⟩
structure Uu(sg:Bool) (os:BM) (k:Nat) (xs:Aj):Prop where
 len:xs.length=k*5
 Y:∀i o,i<k->os[i]?=some o->xs[i*5]?=some (I6 (Bn (AV 10 sg (os.take i)).1 (AV 10 sg (os.take i)).2 10 sg o).ab)/\xs[i*5+1]?=some (I6 (Bn (AV 10 sg (os.take i)).1 (AV 10 sg (os.take i)).2 10 sg o).tag)
def Uu.snoc{sg os k xs o a b c}(h:Uu sg os k xs)(f:os[k]?=some o):Uu sg os (k+1) (xs++[I6 (Bn (AV 10 sg (os.take k)).1 (AV 10 sg (os.take k)).2 10 sg o).ab,I6 (Bn (AV 10 sg (os.take k)).1 (AV 10 sg (os.take k)).2 10 sg o).tag,a,b,c]):=by
 have hl:=h.len;refine⟨by simp[hl];omega,λi p g d=>?_⟩;by_cases e:i<k
 .rw[yr qd,yr qd];exact h.Y i p e d
 obtain rfl:i=k:=qd;rw[f]at d;cases d;rw[yB qd,yB qd,hl,Ko,Nat.add_sub_cancel_left];exact⟨rfl,rfl⟩
def Zs(stb:Nat)(v:Value)(b:Nat):Prop:=b≠stb/\v.ownBlock≠some b
structure LK(w0:Aa) (sg:Bool) (os:BM) (k j stb:Nat) (fa:Af) (fc:Nat) (sa:Af) (sc:Nat) (xs:Aj) (w:Aa):Prop where
 box:Bk w stb #[.slice fa (AV 10 sg (os.take j)).1.length fc,I6 (AV 10 sg (os.take j)).2,I6 10,.bool sg] 27
 cz:DN (Zs stb (.slice sa k sc)) w fa (AV 10 sg (os.take j)).1
 ch:(AV 10 sg (os.take j)).1.length<=fc
 st:w.ownsRow w0.heap.size 42 5 (.slice sa k sc) k xs
 eq:Uu sg os k xs
 C:Bw w0 w
theorem LK.e{w0 sg os k j stb fa fc sa d xs w w'}(h:LK w0 sg os k j stb fa fc sa d xs w)(a:Bw w w'):LK w0 sg os k j stb fa fc sa d xs w':=
 ⟨(a.block _ (Ap h.box)).c h.box,h.cz.kept λb _ hl=>a.block b hl,h.ch,AZ h.st a,h.eq,h.C.thn a⟩
def ve{fs nx cp sg o}(h:VS fs nx cp sg)(b:Hy o)(i:∀f∈fs,Do f/\A6 f):∀f∈(JS fs nx cp sg o).1,Do f/\A6 f:=by
 unfold JS;split
 .rename_i k;obtain⟨K,n,c⟩:=pL o h k;intro f a;have a:f∈(Bn fs nx cp sg o).fs:=a;rw[c.eq]at a;have O:(Lit.int .i64 nx).wf=true:=by
   have p:=h.cQ;have r:=h.dD;exact Pz qd qd
  rcases yp.1 a with a|a
  .exact i f (c.sub.subset a)
  obtain⟨l,d,q,m⟩:=c.bT f a;refine⟨⟨by rw[l];exact O,by rw[d];exact b.bI⟩,?_,?_,by rw[d];exactλv hv=>(b.bI v hv).2.2⟩
  .rcases m with⟨e,_⟩|⟨g,j,e⟩
   .rw[e];exact b.E
   rw[<-e];exact(i g j).2.1
  rw[d];exact b.len
 exact i
def U9{cp sg}(b:0<=cp)(O:cp<=40){os:BM}(a:∀o∈os,Hy o):∀k,∀f∈(AV cp sg (os.take k)).1,Do f/\A6 f
 |0=>λf c=>(by cases c)
 |k+1=>by
  have ih:=U9 (sg:=sg) b O a k
  cases h:os[k]? with
  |none=>
   have hl:os.length<=k:=qu
   rw[yR hl]at ih
   rw[yR qd]
   exact ih
  |some o=>
   rw[RJ h]
   exact ve (Nf b O os k) (a o (yd h)) ih
def VS.dv{rs fs nx cp sg}(h:VS fs nx cp sg)(O:(Cf rs).1=0):DZ rs fs=true:=by
 unfold DZ ET;have a:=h.len;have b:=h.aQ;rw[decide_eq_true O,decide_eq_true (show fs.length<=40 by omega),h.aH];rfl
def VS.dJ{rs fs nx cp sg}(h:VS fs nx cp sg)(O:(Cf rs).1=0):Sw (Dy fs 0 rs):=by
 have a:=iG (h.dv O) rs.length;rwa [yZ]at a
section
open Go.Maps
def Zb(L0:List Ss)(w:Aa)(e:Ending)(w':Aa):Prop:=∃(sa:Af)(sc:Nat)(L:List OX),e=.returned (.slice sa L.length sc)/\SO w' w.heap.size sa sc L/\L.map TS=L0/\Bw w w'
structure jm(w0:Aa) (N:NT) (rs:Az) (ms:As) (cp:Int) (sg:Bool) (os:BM) (k stb:Nat) (fa:Af) (fc:Nat) (sa:Af) (sc:Nat) (L:List OX) (w:Aa):Prop where
 aG:∃adr U V olds n D,Hj N rs ms adr U (AV cp sg (os.take k)).1 (AV cp sg (os.take k)).1 (AV cp sg (os.take k)).2 V olds n D w/\n<=k
 box:Bk w stb #[.slice fa (AV cp sg (os.take k)).1.length fc,.int .i64 (AV cp sg (os.take k)).2,.int .i64 cp,.bool sg] 27
 cz:FX w fa (AV cp sg (os.take k)).1
 ch:(AV cp sg (os.take k)).1.length<=fc
 st:SO w w0.heap.size sa sc L
 eq:L.map TS=MB rs ms cp sg os k
 C:Bw w0 w
structure jl(w0:Aa) (N:NT) (rs:Az) (ms:As) (cp:Int) (sg:Bool) (os:BM) (k stb:Nat) (fa:Af) (fc:Nat) (sa:Af) (sc:Nat) (L:List OX) (w:Aa):Prop where
 aG:∃adr U V olds n D,Hj N rs ms adr U (AV cp sg (os.take (k+1))).1 (AV cp sg (os.take k)).1 (AV cp sg (os.take (k+1))).2 V olds n D w/\n<=k+1
 box:Bk w stb #[.slice fa (AV cp sg (os.take (k+1))).1.length fc,.int .i64 (AV cp sg (os.take (k+1))).2,.int .i64 cp,.bool sg] 27
 cz:FX w fa (AV cp sg (os.take (k+1))).1
 ch:(AV cp sg (os.take (k+1))).1.length<=fc
 st:SO w w0.heap.size sa sc L
 eq:L.map TS=MB rs ms cp sg os k
 C:Bw w0 w
theorem FX.e{w w' a gs}(h:FX w a gs)(b:Bw w w'):FX w' a gs:=by grind[FX,Dc.e]
def FX.N{w w' a gs b l}(h:FX w a gs)(d:Bk w b l 27)(n:Turned w w' b):FX w' a gs:=λi f m=>by
 obtain⟨g,p,e,k⟩:=h i f m;exact⟨g,p,e,k.keep λj c t o hj O=>(n.block j λq=>by
  subst q;exact Cw hj d (by rcases O with rfl|rfl<;>decide)).c hj⟩
def Hj.N{N rs ms adr U fs g nx V d n D w w' b m}(h:Hj N rs ms adr U fs g nx V d n D w)(l:Bk w b m 27)(j:Turned w w' b):Hj N rs ms adr U fs g nx V d n D w':=by
 have O:∀(k:Nat)(o:Obj),w.heap[k]?=some o->(∀c,o≠.cells c 27 (0,0))->w'.heap[k]?=some o:=λk o a p=>(j.block k λe=>by
  subst e;rw[l]at a;injection a with a;exact p _ a.z).c a
 obtain⟨es,q,i⟩:=Lt h.mp;exact⟨h.st.kn ⟨j.e (yn _),λk c t r a hn=>O k _ a (λf e=>Xo),λk es q a _=>O k _ a (λf e=>qo)⟩,h.aG,J_ h.mp ((O _ _ i (λf e=>qo)).c i.z),h.mv,h.low,h.tg,h.bz,h.rd,h.dt,h.bB⟩
structure IU(w w':Aa):Prop where
 rest:Below 0 w w'
 kept:∀(k:Nat)(o:Obj),w.heap[k]?=some o->(∀c,o≠.cells c 42 (0,0))->w'.heap[k]?=some o
def IU.c{u v w}(h:IU u v)(k:IU v w):IU u w:=⟨h.rest.c k.rest,λj o hj a=>k.kept j o (h.kept j o hj a) a⟩
def IU.u{w w'}(h:Bw w w'):IU w w':=⟨h.j (yn _),λk _ a _=>(h.block k (yk.1 a).1).c a⟩
def IU.bo{w w' b O}(f:Bk w b O 42)(d:Turned w w' b):IU w w':=⟨d.e (yn _),λk o a g=>(d.block k λe=>by
 subst e;rw[f]at a;injection a with a;exact g _ a.z).c a⟩
def IU.an{w w' b v n xs}(g:w.ownsRow b 42 5 v n xs)(d:w.grownBy w' v.ownBlock):IU w w':=⟨⟨d.os,d.tape,d.output,d.size,λk a=>absurd a qd⟩,λk o a O=>(d.block k (yk.1 a).1 λe=>by
 obtain⟨c,f⟩:=A7 g e.z;rw[f]at a;injection a with a;exact O _ a.z).c a⟩
def Hj.cE{N rs ms adr U fs g nx V a n D w w'}(h:Hj N rs ms adr U fs g nx V a n D w)(b:IU w w'):Hj N rs ms adr U fs g nx V a n D w':=by
 obtain⟨es,j,i⟩:=Lt h.mp;exact⟨h.st.kn ⟨b.rest,λk c t l d hn=>b.kept k _ d (λf e=>Xo),λk es j d _=>b.kept k _ d (λf e=>qo)⟩,h.aG,J_ h.mp ((b.kept _ _ i (λf e=>qo)).c i.z),h.mv,h.low,h.tg,h.bz,h.rd,h.dt,h.bB⟩
def FX.cE{w w' a gs}(h:FX w a gs)(b:IU w w'):FX w' a gs:=λi f d=>by
 obtain⟨g,p,e,k⟩:=h i f d;exact⟨g,p,e,k.keep λj c t l hj O=>b.kept j _ hj (λm e=>by cases e;rcases O with q|q<;>revert q<;>decide)⟩
theorem FX.W{w w' a gs}(h:FX w a gs)(b:CK w w'):FX w' a gs:=by grind[FX,CK,Dc.W]
def Iw.cE{w w' b base a c L}(h:Iw w b base a c L)(f:IU w w'):Iw w' b base a c L:=h.aR λk c t g _ d=>(f.kept k _ d (λi e=>by cases e;rcases g with q|q<;>revert q<;>decide)).c d.z
def wU{P:Aa->Prop}{w b t x0 x1 m l f O a}(g:Bk w b #[x0,x1,m,l,f] t)(h:∀wt,Bk wt b #[x0,x1,O,a,f] t->Turned w wt b->P wt):P ((w.setCell ⟨b,2,none⟩ O).setCell ⟨b,3,none⟩ a):=by
 have j:=C7 (i:=2) g O;have h2:=C7 (i:=3) j a;refine h _ qw ?_;have d:Turned w (w.setCell ⟨b,2,none⟩ O) b:=Turned.setCells [O] 2 w b;have t2:Turned (w.setCell ⟨b,2,none⟩ O) ((w.setCell ⟨b,2,none⟩ O).setCell ⟨b,3,none⟩ a) b:=Turned.setCells [a] 3 _ b;exact⟨t2.os.c d.os,t2.tape.c d.tape,t2.output.c d.output,t2.size.c d.size,λk e=>(t2.block k e).c (d.block k e)⟩
def Ic.nil(adr):Ic adr [] (.map []):=⟨λt=>⟨λh=>(by simp[Maps.has]at h),λ⟨f,hf,_⟩=>JK⟩,λf hf=>JK⟩
def zjZ{w:Aa}{b}(h:w.heap[b]?=some (.map #[] 0)):w.ownsMap prog 3 Ck b 0 (.map []):=by
 have a:b<w.heap.size:=(yk.1 h).1;obtain⟨w0,O⟩:∃w0:Aa,w0.heap.size=b:=⟨{ w with heap:=w.heap.extract 0 b },qe⟩
 have m:=Wl (H:=Unit) w0 prog 3 Ck;have e:=heap_alloc_new w0 (.map #[] 0)
 grind[Ck,J_]
def N0.fG{N rs ms adr V a w}(h:N0 N adr [] [] V a rs ms w)(hf:w.heap[N.fb]?=some (.map #[] 0)):Hj N rs ms adr [] [] [] 1 V a 0 (.map []) w:=by
 have b:Ft N adr [] [] V a w:=⟨h.ok,h.bx,⟨λf hf=>JK,λf hf=>hf,Y4,qf⟩,h.st,h.ol⟩
 have O:Mp N rs ms:=⟨h.len,h.bz⟩
 refine⟨b,O,zjZ hf,Ic.nil adr,λf hf=>JK,λf hf=>JK,λf hf=>JK,λf hf=>JK,λf hf=>JK,λi r old d e=>?_⟩;obtain⟨m,c⟩:=O.at d;have:=h.bB i m old c e;rwa [(b.cT O c d).1]at this
def zoK(rs ms cp sg os a c am cm ao co){q q'}(w)(hv:Fg q w a rs)(hc:rs.length<=c)(bj:FD Ru.le 1048576 rs)(a6:∀x∈rs,Jd x.A)(bY:∀r∈rs,∀p∈r.x,∀t∈p.s,ER t.val)(bm:CJ q' w am ms)(bZ:Pe w ao os)(ad:∀o∈os,Hy o)(aA:(Cf rs).1=0)(aN:Jw ms rs.length=true)(h0:0<=cp)(bq:cp<=40)(cZ:os.length<=60) :
  Ca 10 #[.slice a rs.length c,.slice am ms.length cm,I6 cp,.bool sg,.slice ao os.length co] w (Zb (NK rs ms cp sg os) w):=by
 have HE:=Ad (show NK rs ms cp sg os=MB rs ms cp sg os os.length from if_pos ⟨aA,aN,h0,bq,cZ⟩);obtain⟨bQ,bw⟩:ms.all IB=true/\ms.length=rs.length:=by
  simp only[Jw,ym,decide_eq_true_eq]at aN;exact⟨aN.1,qd⟩
 have dC:=(Tc aA).1;have bD:=Ad (sN a c rs w hv hc bj a6 aA);have cr:So (Cf rs)=.agg #[I6 0,I6 (Cf rs).2.1,I6 (Cf rs).2.2]:=by simp[So,aA]
 obtain⟨z1,cy⟩:=AF ((Cf rs).2.1);obtain⟨z2,cF⟩:=AF ((Cf rs).2.2);rw[cr,<-cy,<-cF]at bD;have dl:∀u:Aa,(Instr.field 80 (.agg #[I6 0,I6 z1,I6 z2]) 0).run prog u=.ok (I6 0) u:=λ_=>by kernel_rfl
 obtain⟨bG,b0,cU,bA,cn,dx⟩:=Ma (λ(u:Aa)(J:Bw w u)=>(show Ca 43 #[.slice am ms.length cm,I6 (rs.length:Int)] u λe w'=>e=.returned (.bool true)/\w'=u by rw[<-aN];exact zjO am cm ms (rs.length:Int) u (bm.e J) qd)) (λ(u:Aa)(J:Bw w u)=>zo9 rs ms a c am cm u (hv.e J) bj bY aA (bm.e J) bQ bw) bZ ad aA bw;have n0:¬cp<0:=qd;have dE:¬40<cp:=qd;have dD:¬(60:Int)<(os.length:Int):=qd;have cf:=Ad (λk=>Nf (cp:=cp) (sg:=sg) h0 bq os k);clear hv hc bj a6 bY bm bZ ad aA aN h0 bq bQ bw cy cF cr;go_enter func10,ntmps10;go_upto_region 8 with(first|(go_at_call 41;refine bD.rtn λw1 aI=>?_)|(go_at_call 43;refine(bG w1 aI).j ?_;rintro e w2 ⟨rfl,rfl⟩)|(go_at_call 44;refine(b0 _ aI).j ?_;rintro e w3 ⟨N,adr,V,b,rfl,hN,cg,bK,hbase,hB⟩;have NF:=Ad (hN.fG cg);have B3:=Ad (aI.thn bK);have b7:=Ad (show w.heap.size<=N.base by rw[hbase];exact aI.size);clear hN cg bK hbase hB aI)|fail);refine BF ?_;intro w4 bk cM;have cd:=Ad (show jm w N rs ms cp sg os 0 w3.heap.size none 0 none 0 [] w4 from⟨⟨adr,[],V,b,0,_,NF.e bk,yA _⟩,cM,λi f hf=>(by simp[AV]at hf),yA _,SO.nil _ _,rfl,B3.thn bk⟩);have cV:w.heap.size<=w3.heap.size:=B3.size;clear bk cM NF B3 bD bG b0 dl;go_wp2
 go_loopw [48,13] (λiv sv wr=>∃(k:Nat)(fa:Af)(fc:Nat)(sa:Af)(sc:Nat)(L:List OX),iv=I6 (k:Int)/\k<=os.length/\sv=.slice sa L.length sc/\L.length=k/\jm w N rs ms cp sg os k w3.heap.size fa fc sa sc L wr) (λiv _ _=>os.length-(intOf iv).toNat)
 .exact⟨0,none,0,none,0,[],rfl,yn _,rfl,rfl,cd⟩
 obtain⟨k,fa,fc,sa,sc,L,rfl,cL,rfl,b6,cA⟩:=hrel;obtain⟨HLK,l⟩:=An b6 cA;clear b6 cA cd;by_cases hk:k<os.length
 .obtain⟨o,ho⟩:=Bq hk;have bh:=yd ho;obtain⟨ob,op,df,cT,cS,o0,o1,o2,o3,cq⟩:=cU k o ho;subst cS;have B:=l.C;have x0:=zab B o0;have x1:=zab B o1;have x2:=zab B o2;have x3:=zab B o3;have dp:=Ad (cq.e B);obtain⟨fs,aH⟩:=AF ((AV cp sg (os.take k)).1);obtain⟨nx,K⟩:=AF ((AV cp sg (os.take k)).2);have aW:VS fs nx cp sg:=by rw[aH,K];exact cf k
  have aM:=l.box;have aL:=l.ch;have bz:=l.cz;rw[<-aH,<-K]at aM;rw[<-aH]at aL bz;have dz:fs.length<=40:=by have:=aW.len;have:=aW.aQ;omega
  have bM:∀f∈fs,Do f/\A6 f:=by
   obtain⟨_,_,_,_,_,_,hF,_⟩:=l.aG;rw[aH];exact hF.rd
  obtain⟨b5,aB,M,aw,bu,HO,ch⟩:=LG (λ(u:Aa)(J:Bw wr u)=>zrC o (bA o bh) fa fc fs nx cp sg df cT u (bz.Y.e J) aL (dp.e J) qd bM) aM aH K aW ho bh;obtain⟨z0,z1⟩:=CZ hk;have bI:Bw w wr:=B;have b8:=Ad bI;clear bh o0 o1 o2 o3 cq B ho aH K aW aL bz bM bI aM;go_upto_region 11 with fail;refine BF ?_;intro w5 bv cN;have aV:=Ad bv;obtain⟨y0,y1,y2,y3⟩:=AX cN;have a4:=(bv.block _ (Ap aB)).c aB;obtain⟨s0,s1,s2,s3⟩:=AX a4;clear bv cN x0 x1 x2 x3;go_upto_region 12 with(first|(go_at_call 45;refine(b5 w5 aV).j ?_;rintro e w6 ⟨⟨ga,gc,gx,rfl,bJ⟩,bL⟩;have aU:=Ad bJ;have bC:=Ad bL;clear bJ bL;dsimp only[C6.val])|fail);refine BF ?_;intro w7 bp R;obtain⟨r,hr⟩:=AF (Bn fs nx cp sg o);rw[<-hr]at R aU⊢;obtain⟨HR,bS,I⟩:=AK hr R (show Bw wr w7 from(aV.thn bC).c (bp.j (yi aV.size bC.size)));have c0:=Bf (L:=[_,_,_,_,_,_]) R (j:=0) rfl;have c1:=Bf (L:=[_,_,_,_,_,_]) R (j:=1) rfl;have c2:=Bf (L:=[_,_,_,_,_,_]) R (j:=2) rfl;have c3:=Bf (L:=[_,_,_,_,_,_]) R (j:=3) rfl;have c4:=Bf (L:=[_,_,_,_,_,_]) R (j:=4) rfl;have cY:=Ad (show FX w7 ga r.fs from aU.fB.e bp);have dh:r.fs.length<=gc:=PA aU.aa;have O:=(I.block _ (Ap aB)).c aB;have aD:=Ad O;have aS:∀j,w7.frozen? ⟨w3.heap.size,j,none⟩=false:=λj=>by simp[World.frozen?,O]
  have e0:=Bf (L:=[_,_,_,_]) O (j:=0) rfl;have e1:=Bf (L:=[_,_,_,_]) O (j:=1) rfl;have e2:=Bf (L:=[_,_,_,_]) O (j:=2) rfl;have e3:=Bf (L:=[_,_,_,_]) O (j:=3) rfl;have cH:=aS 0;have bP:=aS 1;have bT:=aS 2;have cC:=aS 3;have ce:w3.heap.size≠w6.heap.size:=λe=>by
   rw[e]at O;exact Cw R O qi
  have RK:=Ad (RJ (cp:=cp) (sg:=sg) HO);clear bp R hr s0 s1 s2 s3 y0 y1 y2 y3 b5 aU bC aV aS a4 O;go_upto_if 57 with fail
  go_cut [] (λwx=>∃aY aT,jl w N rs ms cp sg os k w3.heap.size aY aT sa sc L wx/\Bk wx (w6.heap.size) #[.slice ga r.fs.length gc,I6 r.nx,I6 r.cp,.bool r.sg,I6 r.ab,I6 r.tag] 87)
  .by_cases hc:r.ab=0
   .have du:(r.ab==0)=true:=NA;obtain⟨adr,U,V,b,n,D,hF,hn⟩:=l.aG;rw[<-M.o,<-aw.o]at hF;have au:AV cp sg (os.take (k+1))=(r.fs,r.nx):=by
     rw[RK.o,<-M.o,<-aw.o];unfold JS;rw[<-HR.o,if_pos hc]
    obtain⟨cB,bV⟩:r.cp=cp/\r.sg=sg:=by
     have ht:=Tl o bu;rw[<-HR.o]at ht;rcases ht with ht|⟨_,_,t3,t4,_⟩
     .rw[hc]at ht;cases ht
     exact⟨t3,t4⟩
    obtain⟨aX,c9,dk,HF,cP⟩:=Ei au cB bV (hF.e I) hc;clear hF au cB bV hc;go_upto_region 14 with fail;refine Vv aD ?_;intro w8 bn y;have F8:=Ad (HF.N aD y);have cD:=Ad (cY.N aD y);have cX:=Ad ((l.st.W (CK.u I)).aR (λk cs t cQ _ hk=>y.block k (λe=>by
     subst e;exact Cw hk aD (by rcases cQ with rfl|rfl|rfl<;>decide))))
    obtain⟨bW,B8,cG⟩:=AK ((y.block _ ce.z).c bS) (show Bw w w8 from(b8.thn I).c (y.e cV)) (F8.dI (o:=o) (a:=ga) (c:=gc) (gs:=r.fs) (nx':=r.nx) bu (by rw[HR.o]) (by rw[HR.o]) (by rw[<-HR.o];exact cP) qd (bA o ch).bI (bA o ch).E cD);have d0:=Bf (L:=[_,_,_,_]) bn (j:=0) rfl;have dd:=Ad bn;clear bn y c0 c1 c2 c3 c4 e0 e1 e2 e3 cH bP bT cC;go_wp2_with fail;refine cG.rtn λw9⟨⟨adr',U',V',n',D',br,dg⟩,aG⟩=>?_;obtain⟨v,cu⟩:=An (show jl w N rs ms cp sg os k w3.heap.size ga gc sa sc L w9 from⟨⟨adr',U',V',b,n',D',by rw[aX.o];rw[M.o]at br;exact br,qd⟩,by rw[aX.o,<-c9.o,<-dk.o];exact aG.kept _ _ _ _ dd qi qi,by rw[aX.o];exact cD.fn aG,by rw[aX.o];exact dh,cX.fn aG,l.eq,B8.c (aG.low _ b7 B8.size)⟩) (aG.kept _ _ _ _ bW qi qi);clear br dg aG cG;go_wp2;go_meet;exact⟨_,_,v,cu⟩
   have du:(r.ab==0)=false:=NA;have au:AV cp sg (os.take (k+1))=AV cp sg (os.take k):=by
    rw[RK.o,<-M.o,<-aw.o];unfold JS;rw[<-HR.o,if_neg hc,M.o,aw.o]
   have v:=Ad (show jl w N rs ms cp sg os k w3.heap.size fa fc sa sc L w7 from by
    obtain⟨adr,U,V,b,n,D,hF,hn⟩:=l.aG;refine⟨⟨adr,U,V,b,n,D,by rw[au];exact hF.e I,qd⟩,by rw[au];exact(I.block _ (Ap l.box)).c l.box,by rw[au];exact l.cz.e I,by rw[au];exact l.ch,l.st.W (CK.u I),l.eq,b8.thn I⟩)
   clear hc au;go_wp2;go_meet;exact⟨_,_,v,bS⟩
  obtain⟨aY,aT,bo,a0⟩:=hcut;obtain⟨v,dB⟩:=An bo a0;obtain⟨adr,U,V,b,n,D,hF,hn⟩:=bo.aG;obtain⟨ag,aC⟩:=AF ((AV cp sg (os.take (k+1))).1);obtain⟨ae,aE⟩:=AF ((AV cp sg (os.take (k+1))).2);rw[<-aC,<-aE]at hF;have a9:VS ag ae cp sg:=by rw[aC,aE];exact cf (k+1)
  obtain⟨c8,ds,bf,cI,cz⟩:=Ei hF a9 aC aE (λ(u:Aa)(J:Bw wc u)=>(hF.e J).ed);have c4:=Bf (L:=[_,_,_,_,_,_]) a0 (j:=4) rfl;have c5:=Bf (L:=[_,_,_,_,_,_]) a0 (j:=5) rfl;clear bo a0 hF aC aE a9;obtain⟨G,rfl⟩:=AF wc;go_upto_region 15 with fail
  go_cut [17] (λsv wx=>∃Z,sv=Pn G.heap.size/\wx=(G.alloc (.cells #[I6 r.ab,I6 r.tag,.slice none 0 0,.slice none 0 0,I6 Z] 42)).drew)
  ·go_region_held3 (λu=>At u w6.heap.size 4 (I6 r.ab)/\At u w6.heap.size 5 (I6 r.tag))
    ((go_split_ands;first|done|(refine⟨?_,?_⟩<;>first|assumption|exact zab Au.drew qk|exact zab Ar qk|exact zab Ar.drew qk)))
    (first|(go_at_call 47;refine(cz _ (by first|exact Au.drew|exact Au.drew.alloc Bg _)).j ?_;rintro e dy ⟨⟨Z,rfl⟩,bF⟩;subst bF)|fail)
   .go_wp2;go_meet;exact⟨_,rfl,rfl⟩
   go_wp2;go_meet;exact⟨_,rfl,rfl⟩
  obtain⟨Z,rfl,bB⟩:=hcut;have bi:Bw G wc:=by
   rw[bB];exact Ar.drew
  have bl:Bk wc (G.heap.size) #[I6 r.ab,I6 r.tag,.slice none 0 0,.slice none 0 0,I6 Z] 42:=by
   rw[bB];exact heap_alloc_new _ _
  have bt:=c8.e bi;have bg:∀r∈rs,(∀T∈Ie r fs,T.length<=3)/\(Ie r fs).length<=1000000:=λr hr=>by
   obtain⟨i,hi⟩:=YQ hr;obtain⟨adr0,U0,V0,dm,n0,D0,az,_⟩:=l.aG;rw[<-M.o,<-aw.o]at az;obtain⟨m,hm⟩:=az.aG.at hi;obtain⟨d,_,hX,_⟩:=az.aG.bz i m r hm hi;have hl:fs.length<=100:=qd;exact⟨λT hT=>((az.st.cT az.aG hm hi).2 T hT).1,mr (XW cn hr hX) hX (az.st.bx.aV az.st.lk (yd hm)).2.1 hl⟩
  rw[<-M.o]at bt;obtain⟨bc,aR,de⟩:=AK (bt.du cn ds bg (RF bu.aH)) bi bl;have g2:=Bf (L:=[_,_,_,_,_]) bl (j:=2) rfl;clear bB bi bl bt bg cz c4 c5 c0 c1 c2 c3 e0 e1 e2 e3 cH bP bT cC g2;go_wp2_with fail;refine bc.j ?_;rintro e bU ⟨P,Q,pa,qa,pc,qc,rfl,hP,hQ,bN,bX,eP,eQ,⟨olds',bd⟩,cE,ay⟩;have aJ:=ay _ _ _ _ de;obtain⟨cO,cK,dt,dj,cR,dr,a8,aK,ax⟩:=L_ hP hQ bN bX eP eQ bd cE ay;have bR:=Ad aJ;have fe:∀j,bU.frozen? ⟨G.heap.size,j,none⟩=false:=λj=>by simp[World.frozen?,aJ]
  have dq:=fe 2;have di:=fe 3;have g0:=Bf (L:=[_,_,_,_,_]) aJ (j:=2) rfl;have g1:=Bf (L:=[_,_,_,_,_]) aJ (j:=3) rfl;clear hP hQ bN bX eP eQ bd cE ay aJ bc fe;go_upto_region 17 with fail;refine wU bR ?_;intro H ah ar;have aP:=Ad (IU.bo bR ar);have dw:=Ad ah;have aZ:G.heap.size<=wc.heap.size:=aR.size;have bO:=Ad v.st;have a7:=Ad (show SO H w.heap.size sa sc L from bO.aR λk cs t _ _ hk=>by
   have cL:=Ap hk;rw[ar.block k qd,ax.o _ _ _ _ ((aR.o.block k cL).c hk),hk])
  obtain⟨af,bH⟩:=An (λo=>Au.alloc Bg o:∀o,Bw H (H.alloc o)) (show Bw w H from((v.C.thn aR).c (show Below w.heap.size wc bU from⟨aK.rest.os,aK.rest.tape,aK.rest.output,aK.rest.size,λg hg=>aK.block g (by have:=v.C.size;omega) (λ⟨m,hm,hs⟩=>by have h1:=a8.st.ok.dQ m hm g hs;have h2:=b7.o;omega)⟩)).c (ar.e v.C.size));have b4:w.heap.size<=H.heap.size:=bH.size;have bE:=Ad a7.row;obtain⟨q0,q1,q2,q3,q4⟩:At H G.heap.size 0 (I6 r.ab)/\At H G.heap.size 1 (I6 r.tag)/\At H G.heap.size 2 (.slice pa P.length pc)/\At H G.heap.size 3 (.slice qa Q.length qc)/\At H G.heap.size 4 (I6 Z):=⟨Bf (L:=[_,_,_,_,_]) ah (j:=0) rfl,Bf (L:=[_,_,_,_,_]) ah (j:=1) rfl,Bf (L:=[_,_,_,_,_]) ah (j:=2) rfl,Bf (L:=[_,_,_,_,_]) ah (j:=3) rfl,Bf (L:=[_,_,_,_,_]) ah (j:=4) rfl⟩
  have dA:L.length<=60:=by rw[HLK.o];omega
  have dv:=Ad ar;clear ah ar g0 g1 dq di;go_upto_region 18 with(first|(at_builtin;refine Dp qh (.tmp 78) (.tmp 80) 34 qh w.heap.size 42 _ 5 72 underlying34 kV qh qd _ L.length _ qh (AZ bE (af _)) (some ⟨_,0,none⟩) 1 1 qh (Pv ⟨r.ab,r.tag,Z,.slice pa P.length pc,.slice qa Q.length qc,P,Q⟩) qh (λe=>qo) (CH _ _ _ _ qD) (by intro u hu;simp[Pv]at hu;rcases hu with rfl|rfl|rfl|rfl|rfl<;>rfl) qj qd qe ?_;intro cj cw ac a5 aF cv)|fail);have aQ:=Ad ((aP.c (IU.u (af _))).c (IU.an (AZ bE (af _)) aF));have aO:OY (H.alloc (.cells #[I6 r.ab,I6 r.tag,.slice pa P.length pc,.slice qa Q.length qc,I6 Z] 42)) G.heap.size ⟨r.ab,r.tag,Z,.slice pa P.length pc,.slice qa Q.length qc,P,Q⟩:=⟨⟨pa,pc,rfl,((cO.cE aP).C (af _)).lower aZ aZ⟩,⟨qa,qc,rfl,((cK.cE aP).C (af _)).lower aZ aZ⟩⟩
  have ci:=Ad (bO.snoc (a7.W (CK.u (af _))) aO dt dj v.C.size a5 aF);have cW:=Ad (show Bw w ac from((bH.c ((af _).j b4)).grown aF (yi b4 (af _).size) (λg hg=>(bE.lt g hg).1)));have cJ:=Ad (show jm w N rs ms cp sg os (k+1) w3.heap.size aY aT cj cw (L++[⟨r.ab,r.tag,Z,.slice pa P.length pc,.slice qa Q.length qc,P,Q⟩]) ac from⟨⟨adr,U,V,olds',n,D,by rw[<-bf.o,<-cI.o];exact a8.cE aQ,hn⟩,aQ.kept _ _ (ax _ _ _ _ ((aR.block _ (Ap v.box)).c v.box)) (λc' e=>qo),((v.cz.e aR).W ax).cE aQ,v.ch,ci,by
   rw[yz,v.o.eq,rJ HO.o];congr 1;simp only[yx,YZ,TS,SJ,cR.o,dr.o];rw[<-M.o,<-aw.o,<-HR.o,bf.o,RK.o,<-M.o,<-aw.o],cW⟩)
  clear cv a5 aF aO;go_wp2;exact⟨⟨k+1,aY,aT,cj,cw,_,qm,qd,qf,by simp[HLK.o],cJ⟩,qp⟩
 obtain rfl:k=os.length:=qd;have hy:¬(os.length:Int)<(os.length:Int):=qd;go_wp2;go_ret;exact⟨sa,sc,L,rfl,l.st,by rw[l.o.eq,HE.o],l.C⟩
end
def zrO(fs nx cp sg o):(o.w=1/\Bn fs nx cp sg o=DF fs nx cp sg o.E o.v)∨(o.w=2/\Bn fs nx cp sg o=Df fs nx cp sg o.tag)∨(o.w=3/\Bn fs nx cp sg o=CA fs nx cp sg o.tag o.v)∨(o.w≠1/\o.w≠2/\o.w≠3/\Bn fs nx cp sg o=C6.ai):=by grind[Df,CA,DF,Bn,C6.ai]
def Qr{P:Aa->Prop}{w o1 O o3 a}(h:∀wt b,b=w.heap.size->Bw w wt->wt.heap[b]?=some o1->wt.heap[b+1]?=some O->wt.heap[b+1+1]?=some o3->wt.heap[b+1+1+1]?=some a->P wt):P ((((w.alloc o1).alloc O).alloc o3).alloc a):=by
 refine h _ _ rfl (((Ar.alloc qf _).alloc qe _).alloc qe _) ?_ ?_ ?_ ?_
 .exact(yN _ _ _ qe).c ((yN _ _ _ qe).c ((yN _ _ _ qf).c (heap_alloc_new _ _)))
 .exact(yN _ _ _ qf).c ((yN _ _ _ qf).c qH)
 .exact(yN _ _ _ qf).c un
 have:=heap_alloc_new (((w.alloc o1).alloc O).alloc o3) a;simpa using this
def Qq{P:Aa->Prop}{w b t x0 x1 s j r o a d e f O c}(k:Bk w b #[x0,x1,s,j,r,o] t)(h:∀wt,Bk wt b #[a,d,e,f,O,c] t->Turned w wt b->P wt):P ((((((w.setCell ⟨b,0,none⟩ a).setCell ⟨b,1,none⟩ d).setCell ⟨b,2,none⟩ e).setCell ⟨b,3,none⟩ f).setCell ⟨b,4,none⟩ O).setCell ⟨b,5,none⟩ c):=by
 have l:=C7 (i:=0) k a;have m:=C7 (i:=1) l d;have q:=C7 (i:=2) m e;have n:=C7 (i:=3) q f;have g:=C7 (i:=4) n O;have p:=C7 (i:=5) g c;exact h _ (by simpa using p) (Turned.setCells [a,d,e,f,O,c] 0 w b)
def DN.fH{Z w a fs}(h:DN Z w a fs):DN (λb=>Z b/\b<w.heap.size) w a fs:=λi f t=>by
 obtain⟨b,o,q,m,g,r,s,c,u,k⟩:=h i f t;refine⟨b,o,⟨q,yI w ⟨b,_,none⟩ g⟩,m,g,r,s,c,u,λj v hv=>?_⟩;obtain⟨e,o',O,p,d,l,n⟩:=k j v hv;exact⟨e,o',⟨O,yI w ⟨e,_,none⟩ d⟩,p,d,l,n⟩
def Uo{w b}(q:Bk w b #[.slice none 0 0,I6 0,I6 0,.bool false,I6 1,I6 0] 87):At w b 0 (.slice none 0 0)/\At w b 1 (I6 0)/\At w b 2 (I6 0)/\At w b 3 (.bool false)/\At w b 4 (I6 1)/\At w b 5 (I6 0)/\w.frozen? ⟨b,0,none⟩=false/\w.frozen? ⟨b,1,none⟩=false/\w.frozen? ⟨b,2,none⟩=false/\w.frozen? ⟨b,3,none⟩=false/\w.frozen? ⟨b,4,none⟩=false/\w.frozen? ⟨b,5,none⟩=false:=by
 simp[World.cell?,World.frozen?,q]
def Mf(r:C6)(fs:Ab)(nx cp:Int)(sg:Bool):C6:=if r.ab=1 then⟨fs,nx,cp,sg,0,0⟩ else r
def zth{fs nx cp sg}(o)(h:VS fs nx cp sg):let r:=Mf (Bn fs nx cp sg o) fs nx cp sg;(r.fs,r.nx)=JS fs nx cp sg o/\r.cp=cp/\r.sg=sg:=by
 unfold Mf JS;rcases Tl o h with q|⟨_,_,a,c,e⟩
 .simp[q]
 by_cases b:(Bn fs nx cp sg o).ab=1
 .simp[b]
 by_cases O:(Bn fs nx cp sg o).ab=0
 .simp[O,a,c]
 obtain⟨d,f⟩:=e O;simp[b,O,a,c,d,f]
def vE(r:C6)(b:Nat)(w1 wx:Aa):Prop:=∃a2 c2,Hid (Bk wx (b+1+1+1) #[.slice a2 r.fs.length c2,I6 r.nx,I6 r.cp,.bool r.sg,I6 r.ab,I6 r.tag] 87)/\Hid (DN (λg=>w1.heap.size<=g) wx a2 r.fs)/\r.fs.length<=c2/\Hid (BU (some (b+1+1+1)) w1 wx)
def vh{r b a d wt j l}(hl:b+1+1+1<a.heap.size)(p:DN (λg=>a.heap.size<=g) d j r.fs)(o:r.fs.length<=l)(n:Bw a d)(m:Bk wt (b+1+1+1) #[.slice j r.fs.length l,I6 r.nx,I6 r.cp,.bool r.sg,I6 r.ab,I6 r.tag] 87)(f:Turned d wt (b+1+1+1)):vE r b a wt:=
 ⟨_,_,m,p.kept λg q _=>f.block g qd,o,(BU.u n).c ⟨f.e (yn _),λk _ i=>f.block k (λe=>i Ij)⟩⟩
def jD(h:P:=by
 rintro e w2 ⟨⟨a2,c2,rfl,ah,ai⟩,af⟩;have FA:=Ad (λwt=>GO a2 c2 w2 wt ah ai af);have q:=(af.block _ l4).c Q4;have QQ:=Ad q;obtain⟨u0,u1,u2,u3,u4,u5,v0,v1,v2,v3,v4,v5⟩:=Uo q;clear ah ai q H1 H2 H3 GO af;unfold C6.val;go_wp2_with fail;refine Qq QQ ?_;intro wt hq ht;go_meet;exact FA wt hq ht
 ):=h
def zrm(o)(p:Hy o)(Z a c fs nx cp sg sa K w)(hv:DN Z w a fs)(A:fs.length<=c)(G:Cj w sa o.v)(hl:fs.length<=1048576)(y:∀f∈fs,A6 f) :
  Ca 14 #[.agg #[.slice a fs.length c,I6 nx,I6 cp,.bool sg],.agg #[I6 o.w,I6 o.tag,.string o.E,.slice sa o.v.length K]] w λe w'=>∃a' c' r,r=Mf (Bn fs nx cp sg o) fs nx cp sg/\e=.returned (.agg #[.slice a' (List.length r.fs) c',I6 r.nx,I6 r.cp,.bool r.sg])/\DN (λb=>Z b∨w.heap.size<=b) w' a' r.fs/\r.fs.length<=c'/\Bw w w':=by
 obtain⟨H1,H2,H3,HV,J⟩:=Ei (λw'(h:Bw w w')=>r_ a c fs nx cp sg o.E sa K o.v w' (hv.at.e h) (G.e h) A hl y p.E p.len (λv hv=>(p.bI v hv).2.2)) (λw'(h:Bw w w')=>sF a c fs nx cp sg o.tag w' (hv.at.e h) A hl y) (λw'(h:Bw w w')=>r8 a c fs nx cp sg o.tag sa K o.v w' (hv.at.e h) (G.e h) A hl y p.len (λv hv=>(p.bI v hv).2.2)) hv.fH (zrO fs nx cp sg o);obtain⟨r,hr⟩:=AF (Bn fs nx cp sg o);rw[<-hr]at J⊢;clear G y hr hv;go_enter func14,ntmps14;go_upto_region 2 with fail;refine Qr ?_;intro n b hb au C Y W R;rw[<-hb];obtain⟨s0,s1,s2,s3⟩:=AX C;obtain⟨p0,p1,p2,p3⟩:=AX Y;obtain⟨m,Q1,Q3,Q4⟩:=BP au C W R;have l4:=Ap R;have aA:w.heap.size<=b:=qd;clear hb au C Y W R
 go_upto_block 0 with fail
 go_cut [] (λwx=>vE r b n wx)
 .have GO:=Ad (λ(a2:Af)(c2:Nat)(w2 wt:Aa)=>@vh r b n w2 wt a2 c2 l4);rcases J.o with⟨l,d⟩|⟨l,d⟩|⟨l,d⟩|⟨l,ay,aw,d⟩
  all_goals clear J
  .have N:(o.w==1)=true:=by simp;omega
   rw[<-d]at H1;clear l d;go_wp2_with fail;refine(H1 n m).j ?_;exact jD
  .have N:(o.w==1)=false:=by simp;omega
   have k2:(o.w==2)=true:=by simp;omega
   rw[<-d]at H2;clear l d;go_wp2_with fail;refine(H2 n m).j ?_;exact jD
  .have N:(o.w==1)=false:=by simp;omega
   have k2:(o.w==2)=false:=by simp;omega
   have k3:(o.w==3)=true:=by simp;omega
   rw[<-d]at H3;clear l d;go_wp2_with fail;refine(H3 n m).j ?_;exact jD
  have N:(o.w==1)=false:=by simp;omega
  have k2:(o.w==2)=false:=by simp;omega
  have k3:(o.w==3)=false:=by simp;omega
  clear l ay aw;go_wp2;go_meet;rw[d];exact⟨none,0,Q4,λi f hf=>OH,yn _,BU.refl _ _⟩
 obtain⟨a2,c2,s,ah,ai,u⟩:=hcut;obtain⟨w2,rfl⟩:=AF wc;have az:=u.rest.size;have ar:=(u.block b qd (λe=>qO)).c Q1;have x:=(u.block (b+1+1) qd (λe=>qO)).c Q3;obtain⟨aC,I⟩:=An x (show Bw w w2 from m.c (u.e m.size (λg hg=>jQ)));have HW:=Ad (HV.kept (w':=w2) λg _ hg=>I.block g hg);have u4:=Bf (L:=[_,_,_,_,_,_]) s (j:=4) rfl;have u0:=Bf (L:=[_,_,_,_,_,_]) s (j:=0) rfl;have u1:=Bf (L:=[_,_,_,_,_,_]) s (j:=1) rfl;have u2:=Bf (L:=[_,_,_,_,_,_]) s (j:=2) rfl;have u3:=Bf (L:=[_,_,_,_,_,_]) s (j:=3) rfl;obtain⟨t0,t1,t2,t3⟩:=AX ar;obtain⟨y0,y1,y2,U⟩:=AX x;have t:∀j,w2.frozen? ⟨b+1+1,j,none⟩=false:=λj=>by simp[World.frozen?,x]
 have z0:=t 0;have z1:=t 1;have z2:=t 2;have z3:=t 3;obtain⟨T,B4⟩:=An (λ(x0 x1 H D:Value)k(l:k≠b+1+1)=>(Turned.setCells [x0,x1,H,D] 0 w2 (b+1+1)).block k l) (λ(x0 x1 H D:Value)=>((Turned.setCells [x0,x1,H,D] 0 w2 (b+1+1)).e (B:=w.heap.size) qd));clear ar x t;by_cases O:r.ab=1
 .have ax:(r.ab==1)=true:=OJ;have M:=Ad (show(⟨fs,nx,cp,sg,0,0⟩:C6)=Mf r fs nx cp sg from(if_pos O).z);clear O;go_wp2;refine bodyPost_ret (v:=.agg #[.slice a fs.length c,I6 nx,I6 cp,.bool sg]) (by simp[results,results14,go_sem,y0,y1,y2,U]) rfl ⟨a,c,⟨fs,nx,cp,sg,0,0⟩,M,rfl,?_,A,I.c (B4 _ _ _ _)⟩;exact DN.j (HW.kept λg hg _=>T _ _ _ _ g qd) (λg hg=>.inl hg.1)
 have ax:(r.ab==1)=false:=OJ;have M:=Ad (show r=Mf r fs nx cp sg from(if_neg O).z);have aB:=m.size;clear O;go_wp2;refine bodyPost_ret (v:=.agg #[.slice a2 r.fs.length c2,I6 r.nx,I6 r.cp,.bool r.sg]) (by simp[results,results14,go_sem,y0,y1,y2,U]) rfl ⟨a2,c2,r,M,rfl,?_,ai,I.c (B4 _ _ _ _)⟩;exact DN.j (ah.kept λg hg _=>T _ _ _ _ g qd) (λg hg=>.inr qd)
section
open Go.Maps
attribute [local go_sem] Oper.semAt_some
def xV(Z):∀(cs:Ak)(k:Nat)(T:Ab),(∀n:Nat,Z.sa≠(n:Int))->Ed Z k cs T=DD (cs.map (DV Z.vw)) T:=by intro cs;induction cs<;>grind[Ed,DD,Fm,AA,GI,DV]
def kT{w}:∀(Q:Fs),(Q.map Prod.snd).Nodup->(∀y∈Q,DJ w y.1 y.2)->∃adr,Q=EV adr (Q.map Prod.snd)
 |[],_,_=>⟨λ_=>⟨0,0,none⟩,rfl⟩
 |(v,f)::Q,hn,hf=>by
  obtain⟨i,O⟩:=Yo.1 (show(f::Q.map Prod.snd).Nodup from hn)
  obtain⟨adr,e⟩:=kT Q O (λy hy=>hf y Ny)
  obtain⟨b,o,d,_⟩:=hf (v,f) qf
  have c:v=.pointer (some ⟨b,o,none⟩):=d
  haveI:=Classical.propDecidable
  refine⟨λg=>if g=f then⟨b,o,none⟩ else adr g,?_⟩
  have j:EV (λg=>if g=f then⟨b,o,none⟩ else adr g) (Q.map Prod.snd)=EV adr (Q.map Prod.snd):=Ym λg k=>by
   have a:g≠f:=λq=>i (q▸k)
   simp only[pV,if_neg a]
  show(v,f)::Q=(pV _ f,f)::EV _ (Q.map Prod.snd)
  rw[j,<-e,c]
  simp only[pV,if_pos]
def zL{adr fs}{X:Ak}{vw ca cc}(j:∀c∈X,gV vw c=fs.filter (Ah c.cp.H))(m:∀c∈X,c.cp.y.length<=6)(p:X.length<=6)(t:fs.length<=40)(r:Ff (X.map (CB fs)) [])(pb n w vv)(o:Bk w pb #[.slice ca X.length cc,vv] 102)(l:Bk w (pb+1) #[I6 (-1),.pointer none] 108)(a)(s:De a a w)(O:∀(k:Nat)(c:Cx),X[k]?=some c->Eb adr vw ca a k c)(q:JB adr fs a) :
  ∃Z:SN,Z.adr=adr/\Z.U=fs/\Ed Z 0 Z.X []=DD (X.map (DV vw)) []/\SeqStopsK Fence.wide n prog 108 #[Pn pb,Pn (pb+1)] (λx:E6 Z=>#[LT x]) (De a) (λys=>ys.map (λy=>y.1)=Ed Z 0 Z.X []) (λ_=>True) (Ed Z 0 Z.X []).length w:=by
 have g:∀c∈X,(vw c.node).2.2=fs.filter (Ah c.cp.H):=j;refine⟨⟨adr,fs,0,pb,0,pb+1,0,ca,cc,vv,X,vw, -1,none,m,p,λc b=>?_,λc b f h=>?_,λf e=>qo⟩,rfl,rfl,xV _ _ _ _ (λn e=>by simp only at e;omega),TU _ a n w ⟨o,l,s,O,q⟩ (UR _ X 0 [] r (λc b x d=>?_) (λi c _ e=>?_))⟩
 .rw[g c b];exact yi (Yi _ _) qd
 .rw[g c b]at h;exact(yh.1 h).1
 .unfold gZ at d;simp only[g c b]at d;exact yh.1 d
 simp only at e;omega
end
section
open Go.Maps
def Un{Z:SN}(i:Nat)(x:E6 Z):It:=⟨(i:Int),x.1.map (·.tag)⟩
def UC(w1:Aa)(cb:Nat)(L:BN)(W:Aa):Prop:=
 ∃ia ic N,Bk W cb #[.slice ia N.length ic] 36/\Iw W w1.heap.size w1.heap.size ia ic N/\N.map Prod.fst=L/\N.Pairwise (λx y=>BH x.2 y.2)
theorem UC.W{b cb L W a}(h:UC b cb L W)(d:CK W a):UC b cb L a:=by
 obtain⟨j,e,N,i,f,g,l⟩:=h;exact⟨j,e,N,d _ _ _ _ i,f.aR (λk c t _ _ h=>(d k c t _ h).c h.z),g,l⟩
structure DH(w w1:Aa) (cb:Nat) (Ds:A5) (L:BN) (Y:Aa):Prop where
 cU:UC w1 cb L Y
 W:De w1 w1 Y
 C:Bw w Y
 sz:w1.heap.size<=Y.heap.size
 aZ:Lm w.heap.size Ds Y
def Lm.C{B b W a}(h:Lm B b W)(d:Bw W a):Lm B b a:=⟨h.nodup,λD O=>⟨(h.V D O).1,(d.block D (yk.1 (h.V D O).2).1).c (h.V D O).2⟩⟩
def DH.bw{w e cb d L W b}(h:DH w e cb d L W)(a:Bw W b):DH w e cb d L b:=
 ⟨h.cU.W (CK.u a),h.W.c (De.u a),h.C.thn a,yi h.sz a.size,h.aZ.C a⟩
structure DI{Z:SN} (w w1:Aa) (cb ib bb M i:Nat) (Ds:A5) (vp:Bl) (L:BN) (pre:List (E6 Z)) (Y:Aa):Prop where
 cU:UC w1 cb (L++pre.map (Un i)) Y
 W:De w1 w1 Y
 C:Bw w Y
 sz:w1.heap.size<=Y.heap.size
 co:Bk Y ib #[.int .i64 (i:Int)] 3
 box:Bk Y bb vp 102
 aZ:Lm w.heap.size Ds Y
 low:∀D∈Ds,D<M
def DI.aa{Z w s cb x p M i q A L}(B:w.heap.size<=M):OwnFrom M (DI (Z:=Z) w s cb x p M i q A L):=by
 intro pre W l row h a v;have key:∀k,k<W.heap.size->(k<M∨∃c t f,W.heap[k]?=some (.cells c t f))->l.heap[k]?=W.heap[k]?:=λk y b=>a.block k y (λe=>by
  obtain⟨E,o,u,r⟩:=v k e.z;rcases b with b|⟨c,t,f,b⟩
  .omega
  rw[u]at b;cases b;simp[Obj.isCells]at r)
 have O:CK W l:=λg c t f d=>(key g (Ap d) (.inr ⟨_,_,_,d⟩)).c d;refine⟨h.cU.W O,h.W.c O.i,⟨a.os.c h.C.os,a.tape.c h.C.tape,a.output.c h.C.output,yi h.C.size a.size,λg n=>(key g (yg n h.C.size) (.inl qd)).c (h.C.block g n)⟩,yi h.sz a.size,O _ _ _ _ h.co,O _ _ _ _ h.box,⟨h.aZ.nodup,λD j=>⟨(h.aZ.V D j).1,?_⟩⟩,h.low⟩;have m:=(h.aZ.V D j).2;exact(key D ((yk.1 m).1) (.inl (h.low D j))).c m
def DI.bw{Z w f cb b e M i d j L}{pre:List (E6 Z)}{W g}(h:DI w f cb b e M i d j L pre W)(a:Bw W g):DI w f cb b e M i d j L pre g:=
 ⟨h.cU.W (CK.u a),h.W.c (De.u a),h.C.thn a,yi h.sz a.size,(a.block _ (Ap h.co)).c h.co,(a.block _ (Ap h.box)).c h.box,h.aZ.C a,h.low⟩
def DI.round{Z w a cb R J M i Ds vp L pre W I b}{x:E6 Z}{E B m v H l N r}(aq:r=x.1.map (·.tag))(h:DI w a cb R J M i Ds vp L pre W)(n:W.heap[cb]?=some (.cells #[.slice E N.length v] 36 (0,0)))(G:Iw W a.heap.size a.heap.size E v N)(h3:N.map Prod.fst=L++pre.map (Un i))(h4:N.Pairwise (λx y=>BH x.2 y.2))(d:Bw W I)(hT:I.ownsRow W.heap.size 3 1 (.slice B r.length H) r.length (Ay r))(hO:b.ownsRow a.heap.size 45 2 (.slice m (N.length+1) l) (N.length+1) (N.flatMap Ef++Ef (⟨(i:Int),r⟩,.slice B r.length H)))(f:I.grownBy b (Value.slice E N.length v).ownBlock)(e1:w.heap.size<=cb)(e2:cb<a.heap.size)(e3:w.heap.size<=a.heap.size) :
  KeepsOthers W (b.setCell ⟨cb,0,none⟩ (.slice m (N.length+1) l))/\De a W (b.setCell ⟨cb,0,none⟩ (.slice m (N.length+1) l))/\DI w a cb R J M i Ds vp L (pre++[x]) (b.setCell ⟨cb,0,none⟩ (.slice m (N.length+1) l)):=by
 subst aq;have p:Turned b (b.setCell ⟨cb,0,none⟩ (.slice m (N.length+1) l)) cb:=Turned.setCells [_] 0 b cb;have U:=G.C d;have ai:=Ap n;have K:(Value.slice E N.length v).ownBlock≠some cb:=λe=>by have:=(G.row.lt cb e).1;omega
 have h8:b.heap[cb]?=some (.cells #[.slice E N.length v] 36 (0,0)):=(f.block cb (yg ai d.size) (WU K)).c ((d.block cb ai).c n);have stay:∀g,g<W.heap.size->g≠cb->(∀c,a.heap.size<=g->W.heap[g]?≠some (.cells c 45 (0,0)))->(b.setCell ⟨cb,0,none⟩ (.slice m (N.length+1) l)).heap[g]?=W.heap[g]?:=λg u ak T=>(p.block g ak).c ((f.block g (yg u d.size) (λe=>by
  obtain⟨c',ao⟩:=A7 G.row e.z;exact T c' (G.row.lt g e.z).1 ao)).c (d.block g u))
 have ah:De a W (b.setCell ⟨cb,0,none⟩ (.slice m (N.length+1) l)):=λg c t fr O T hn=>(stay g (Ap O) (λe=>by
  subst e;rw[n]at O;cases O;exact hn (.inr ⟨_,_,_,rfl⟩)) (λc' hw e=>by
   rw[O]at e;cases e;exact T hw rfl)).c O
 have hX:Hi I a.heap.size (Un i x,.slice B (x.1.map (·.tag)).length H):=⟨⟨B,H,rfl⟩,C4 hT h.sz⟩
 have h9:=Iw.snoc U hX hO f;refine⟨(p_ d).trans ((KeepsOthers.of_grownBy f (λj o hj Y=>?_)).trans (KeepsOthers.setCell _ _ _)),ah,⟨?_,h.W.c ah,⟨(p.os.c (f.os.c d.os)).c h.C.os,(p.tape.c (f.tape.c d.tape)).c h.C.tape,(p.output.c (f.output.c d.output)).c h.C.output,yi h.C.size (yi (yi d.size f.size) (WP p.size.z)),λg u=>(stay g (yg u h.C.size) qd (λ_ q=>qd)).c (h.C.block g u)⟩,yi h.sz (yi (yi d.size f.size) (WP p.size.z)),(stay R (Ap h.co) (λe=>by rw[<-e,h.co]at n;cases n) (λ_ _ e=>by rw[h.co]at e;cases e)).c h.co,(stay J (Ap h.box) (λe=>by rw[<-e,h.box]at n;cases n) (λ_ _ e=>by rw[h.box]at e;cases e)).c h.box,⟨h.aZ.nodup,λD hD=>⟨(h.aZ.V D hD).1,?_⟩⟩,h.low⟩⟩
 .obtain⟨c,hc⟩:=A7 U.row hj;rw[hc]at Y;cases Y;rfl
 .refine⟨m,l,N++[(Un i x,.slice B (x.1.map (·.tag)).length H)],?_,?_,?_,?_⟩
  .have h':=C7 (i:=0) h8 (.slice m (N.length+1) l);rw[yM];simpa using h'
  .exact h9.aR (λk c t am _ s=>p.block k (λe=>by subst e;rw[Bk,h8]at s;injection s with s;injection s with _ s _;rcases am with rfl|rfl<;>exact absurd s qi))
  .rw[yz,h3,yz,yY];rfl
  rw[YA];refine⟨h4,qf,λy hy z hz=>?_⟩;obtain rfl:=yw.1 hz;intro g aj ar;have i1:=((G.all y hy).ot.lt g aj).2;have i2:=(hT.lt g ar).1;omega
 have A:=(h.aZ.V D hD).2;exact(stay D ((yk.1 A).1) (λe=>by rw[e,n]at A;cases A) (λ_ _ e=>by rw[A]at e;cases e)).c A
theorem GZ.e{w w' b c a T}(h:GZ w b c a T)(d:Bw w w'):GZ w' b c a T:=⟨h.cP.e d,h.z0,h.z1,h.z2,h.le⟩
def E6.eU{Z}(x:E6 Z){W}(hu:JB Z.adr Z.U W):GZ W (Ae Z.adr x.1).1 (Ae Z.adr x.1).2.1 (Ae Z.adr x.1).2.2 x.1:=by
 refine⟨oJ hu x.2.2 x.2.1,λh=>?_,λh=>?_,λh=>?_,x.2.1⟩<;>simp only[Ae,Option.map_eq_none_iff]<;>exact YN h
end
section
open Go.Maps
attribute [local go_sem] Oper.semAt_some
def jq(rs:Az)(fs:Ab)(a:Af)(c:Nat)(fa:Af)(fc:Nat)(w w1:Aa)(cb:Nat)(xa:Af)(xc:Nat)(ac:Act)(W:Aa):Prop:=∃(k:Nat)(Ds:A5)(u6 u7 u8 u14 u15 u16 u17 u18 u19 u20 u21 u22 u23 u24 u25 u26 u27 u28 u29 u30:Value),ac={ tmps:=#[.slice a rs.length c,.slice fa fs.length fc,undef,undef,.slice none 0 0,.pointer (some ⟨cb,0,none⟩),u6,u7,u8,.slice a rs.length c,.slice fa fs.length fc,.slice xa rs.length xc,.int .i64 (rs.length:Int),.int .i64 (k:Int),u14,u15,u16,u17,u18,u19,u20,u21,u22,u23,u24,u25,u26,u27,u28,u29,u30],defers:=kj Ds }/\k<=rs.length/\DH w w1 cb Ds (Dy fs 0 (rs.take k)) W
def zD{r:Ru}{fs}(a:JQ r.x [] 0){Z}{ys:List (E6 Z)}(h:ys.map (λy=>y.1)=EY (CO r.x [] 0) fs [])(i):ys.map (Un i)=(BC r.x fs [⟨[],[]⟩] 0).1.map (λx=>(⟨(i:Int),x.G⟩:It)):=by
 rw[UU a,<-h,Yl,Yl];rfl
def sB(rs fs a c fa fc){q}(w)(hv:Fg q w a rs)(hc:rs.length<=c)(bv:FD Ru.le 1048576 rs)(ho:∀x∈rs,Jd x.A)(bw:∀r∈rs,∀p∈r.x,∀t∈p.s,ER t.val)(bU:Cs w fa fs)(hl:fs.length<=1048576)(hs:∀f∈fs,A6 f)(aI:DZ rs fs=true) :
  Ca 13 #[.slice a rs.length c,.slice fa fs.length fc] w (vu (XS rs fs) w):=by
 obtain⟨HR,ar⟩:=An (λwt(hb:Bw w wt)=>zlR rs a c fs fa fc w wt hb (hv.e hb) hc bv ho bw bU hl hs aI) aI;clear hv bU hs bv ho bw aI;refine(callsIn_wide (n:=9)).1 ?_;refine callsIn_of_wp_marks func13 rfl trivial ?_ rfl;simp only[ntmps13,K7,Ya,YU,Nat.reduceAdd,Nat.reduceSub,KH,KI,K8,KT,Yg,Yz];refine wpIn_wide.2 ?_;go_upto_region 2 with fail;refine BF ?_;intro w0 b0 aQ;obtain⟨cb,b5⟩:=AF w.heap.size;rw[<-b5]at aQ⊢;obtain⟨bp,H0⟩:=An aQ b0;have cq:w.heap.size<=cb:=qd;have cf:cb<w0.heap.size:=Ap aQ;clear b0 aQ b5;go_wp2_with fail;refine(HR w0 H0).j ?_;rintro e H ⟨ci,aL⟩;obtain⟨BW,bO⟩:=An (H0.c (aL.j H0.size)) ((aL.block _ cf).c bp);have al:=aL.size;clear aL bp HR H0;obtain⟨xa,xc,base,gb,mb,la,lc,L,bs,V,P,Q,rfl,⟨bS,bA⟩,aT,bd,aG,ax⟩:=ci;go_wp2_with fail;have cy:=Ad bA;have aW:P.length=rs.length:=bS;have bX:=Ad aW;obtain⟨bK,aE,bl⟩:=MI ar;have bP:fs.Nodup:=(RF (last:=0) (by simp only[ET,ym]at aE;exact aE.2)).imp λ{x y}h e=>by rw[e]at h;exact Int.lt_irrefl _ h
 obtain⟨adr,hQ⟩:=kT Q (by rw[aG];exact bP) ax;rw[aG]at hQ;have br:JB adr fs H:=λf hf=>(ax (pV adr f,f) (by rw[hQ];exact yv.2 ⟨f,hf,rfl⟩)).e BW;rw[hQ]at bd;obtain⟨aU,cn,HUS⟩:=AK aT bd br;have co:cb<H.heap.size:=qd;clear bS bA aW aT bd br hQ bP aG ax aE bK;have bB:=Ad (show DH w H cb [] (Dy fs 0 (rs.take 0)) H from⟨⟨none,0,[],bO,Iw.nil _ _ _,rfl,List.Pairwise.nil⟩,De.u Au,BW,yA _,⟨Y4,qf⟩⟩);refine wp_loop (jq rs fs a c fa fc w H cb xa xc) (λa _=>rs.length-(intOf (a.tmps.getD 13 undef)).toNat) (by unfold jq;exact⟨0,[],_,_,_,_,_,_,_,_,_,_,_,_,_,_,_,_,_,_,_,_,rfl,yn _,bB⟩) ?_;clear bB bO;rintro ac W ⟨k,Ds,u6,u7,u8,u14,u15,u16,u17,u18,u19,u20,u21,u22,u23,u24,u25,u26,u27,u28,u29,u30,rfl,cR,ay⟩;by_cases hk:k<rs.length
 .obtain⟨r,hr⟩:=Bq hk;obtain⟨⟨ca,cc,va,vc,X,U⟩,aC⟩:∃x,P[k]?=some x:=⟨P[k]'(by rw[bX.o];exact hk),qf⟩
  obtain⟨hX,hU⟩:=cy k _ r aC hr;simp only at hX hU;have bJ:=yd aC;have aP:=yd hr;obtain⟨g,hg,x0,x1⟩:∃g,xa=some ⟨g,0,none⟩/\At W g (k*2) (.slice ca X.length cc)/\At W g (k*2+1) (.slice va U.length vc):=by
   have aV:=aU.row;obtain⟨g,hg,_,h0,_⟩:=CG aV (Hf (cells:=JG) (m:=2) (λ_=>rfl) P k _ 0 _ aC rfl);obtain⟨g',bR,_,h1,_⟩:=CG aV (Hf (cells:=JG) (m:=2) (λ_=>rfl) P k _ 1 _ aC rfl);rw[hg]at bR;cases bR;have q:=@Jr.ci _ _ ay.W.b _ _ _ h1 (.inl qd);exact⟨g,hg,by simpa using q h0,by simpa using q h1⟩
  subst hg;obtain⟨aS,aE,_⟩:=MI ar;obtain⟨cL,bI,bV⟩:=Oy aS aP;have bj:JQ r.x [] 0:=Vz aS aP;have cC:=Rm aS;have cw:X.length<=6:=by
   have h1:=congrArg List.length hX;rw[yu,pM]at h1;omega
  have HX:=Ad hX;have b4:=Ad bj;have cm:=Ad bI;obtain⟨a0,bh⟩:=(aU.V _ bJ).eI cn HUS (λf hf=>hf);obtain⟨vw,bq⟩:=AF (GV L bs V fs);rw[<-bq]at a0 bh;have HCX:=Ad a0;have bG:=Ad bh;clear a0 bh bq;have a7:=Ad ay;have cB:=Ad (od fs hr);have ag:=Ad (show DD (X.map (DV vw)) []=EY (CO r.x [] 0) fs [] by
   have h:=ll HX bG X.length;rwa [yZ,show X.length=(CO r.x [] 0).length by rw[<-HX.o,yu],yZ]at h)
  have ae:=Ad (mD HX bj bV fs);have ch:=Ad (c_ ar aP).1;have ce:=Ad (iG ar k).1;obtain⟨z0,z1⟩:=CZ hk;have z3:(k:Int)<1000000:=qd;clear aC hX hU bj bI bV bJ aS aE hr aP ay;go_upto_region 5 with fail;refine Ce ?_;intro w3 aY a4 aB;obtain⟨ib,aM⟩:=AF W.heap.size;obtain⟨bb,ad⟩:=AF (ib+1);rw[<-aM]at a4;rw[<-aM]at aB;rw[<-aM];rw[<-ad]at aB;(try rw[<-ad]);obtain⟨t0,t1⟩:=AE aB;have cD:=a7.sz;obtain⟨bn,aZ,bf⟩:=AK (a7.bw aY) a4 aB;have cG:bb<w3.heap.size:=Ap aB;have cF:=aY.size;have b7:ib≠cb:=qd;have cQ:bb≠cb:=qd;clear aY a4 aB aM ad x0 x1 a7;go_wp2_with fail;refine wp_region_noPanic ?_;refine wp_region_held_drew (S:=(λw'=>At w' bb 0 (.slice ca X.length cc)/\At w' bb 1 (.slice va U.length vc))) qg ?_ (λhHeld=>?_)
  ·(try dsimp only);exact⟨t0,t1⟩
  refine sr 0 1 ?_;refine wpAnyH_ready (rs:=[1]) qg qf ?_;refine y9 (yj.c rfl) (λK d=>?_) Yd;go_simp;(go_at_call 58;refine(lH _).j ?_;rintro e' w4 ⟨rfl,aw⟩);(try go_wp2_with fail);refine d _ _ ?hS2 (λhHeld=>?_)
  case hS2=>((try dsimp only);exact⟨zab aw t0,zab aw t1⟩)
  clear d K;(try simp only[pQ]);have bk:=zab aw t0;have bz:=zab aw t1;refine wpAnyH_ready (rs:=[2]) qg qf ?_;refine y9 (yj.c rfl) (λK d=>?_) Yd;go_simp;(go_at_call 57;refine(mu _ _ (-1) none ca va X.length cc U.length vc rfl rfl w4).j ?_;rintro e' w5 ⟨rfl,cg,bo,aO⟩);(try go_wp2_with fail);refine d _ _ ?hS4 (λhHeld=>?_)
  case hS4=>((try dsimp only);exact⟨zab aO bk,zab aO bz⟩)
  clear d K;(try simp only[pQ]);refine wpAnyH_done qg ?_ _;refine Yb ?_;have aH:=Ad (show Bw w3 w5 from Au.drew.c ((aw.c (aO.j aw.size)).j qf));have cH:=aH.size;have au:=Ad (bn.bw aH);obtain⟨Z,bT,bF,bE,bL⟩:=zL (adr:=adr) (vw:=vw) (ca:=ca) (cc:=cc) (X:=X) (fs:=fs) bG (λc hc=>(TF r.x [] 0 cm c.cp (by rw[<-HX.o];exact yv.2 ⟨c,hc,rfl⟩)).1) cw bl ae w4.heap.size 8 w5 _ cg bo H au.W HCX HUS;obtain⟨cj,bM,cA⟩:=AK bL (bE.c ag) (show JB Z.adr Z.U H by rw[bT,bF];exact HUS);clear bT bF bE bL;have bZ:=Ad (show DI (Z:=Z) w H cb ib bb w5.heap.size k Ds #[.slice ca X.length cc,.slice va U.length vc] (Dy fs 0 (rs.take k)) [] w5 from⟨by simpa using au.o.cU,au.W,au.C,au.sz,(aH.block _ (Ap aZ)).c aZ,(aH.block _ (Ap bf)).c bf,au.aZ,λD hD=>(yk.1 (au.aZ.V D hD).2).1⟩);have cE:w4.heap.size+1<w5.heap.size:=Ap bo;have cS:w3.heap.size<=w4.heap.size:=by have:=aw.size;simpa using this
  have cO:cb<w5.heap.size:=qd;clear aw aO t0 t1 bk bz aH hHeld bn au aZ bf;go_wp2_with fail;refine (wpIn_wide (n:=9)).1 ?_;refine wpIn_rangeFunc_ownH (α:=E6 Z) rfl qi (gf:=108) (lb:=#[Pn w4.heap.size,Pn (w4.heap.size+1)]) rfl trivial (enters_of func108 qg rfl)
   cj (λh k=>De.c h k) (λW l o o' _ h2 h3 _=>(CK.dO h2 h3).i) Au (λ_=>rfl)
   (DI w H cb ib bb w5.heap.size k Ds #[.slice ca X.length cc,.slice va U.length vc] (Dy fs 0 (rs.take k))) (λ_ _ _=>False) (DI.aa (by have:=bZ.C.size;omega)) (λ_ _ _ _ _ hs _ _=>hs) bZ
   (Sr Z (λpv tv=>{ tmps:=#[.slice a rs.length c,.slice fa fs.length fc,undef,undef,.slice none 0 0,Pn cb,Pn ib,Pn bb,pv,.slice a rs.length c,.slice fa fs.length fc,.slice (some ⟨g,0,none⟩) rs.length xc,I6 (rs.length:Int),I6 (k:Int),.bool true,I6 (k:Int),.pointer (some ⟨g,k*2,none⟩),.agg #[.slice ca X.length cc,.slice va U.length vc],.agg #[.slice ca X.length cc,.slice va U.length vc],.agg #[I6 (-1),.pointer none],.func (.func 108) #[] #[Pn w4.heap.size,Pn (w4.heap.size+1)],tv,u22,u23,u24,u25,u26,u27,u28,u29,u30],defers:=[] })) (λx a=>Sr.aa x a) ?assign ?body ?done ?stop
  case assign=>
   rintro l pre x I K J d;simp only[LT,Bh];obtain⟨HI,b6⟩:=An J d;clear J d;gi_wp2;exact b6 _ _ ((KeepsOthers.alloc _ _).from _) (De.u Ar) (HI.bw Ar) ⟨I.heap.size,heap_alloc_new _ _,rfl⟩
  case body=>
   rintro l pre x a' I cN _ J ⟨tb,az,rfl⟩ ab;obtain⟨ia,ic,N,i1,i2,i3,i4⟩:=J.cU;have cM:N.length<=1088000:=by
    have e1:=congrArg List.length i3;rw[yu,yM,yu]at e1;have e2:=ch.o;have e3:=ce.o;have e4:pre.length<(Ed Z 0 Z.X []).length:=ab;rw[bM.o]at e4;have e5:=congrArg List.length (UU (fs:=fs) b4);rw[yu]at e5;omega
   obtain⟨E,a5⟩:=AF (x.1.map (·.tag));obtain⟨⟨x0,x1,x2⟩,bD⟩:∃y,y=Ae Z.adr x.1:=⟨_,rfl⟩
   have bu:=Ad (x.eU (cA.bu J.W.b));rw[<-bD]at az bu;clear bD;obtain⟨bN,bW⟩:=An (λw'(h:Bw I w')=>(show Ca 59 #[.agg #[.pointer x0,.pointer x1,.pointer x2]] w' (X8 E w') by rw[a5];exact pF x0 x1 x2 x.1 w' (bu.e h))) (λta tc a8 c8 W5(W8:Aa)(hb:Bw I W5)(hT:W5.ownsRow I.heap.size 3 1 (.slice ta E.length tc) E.length (Ay E))(hO:W8.ownsRow H.heap.size 45 2 (.slice a8 (N.length+1) c8) (N.length+1) (N.flatMap Ef++Ef (⟨(k:Int),E⟩,.slice ta E.length tc)))(hg:W5.grownBy W8 (Value.slice ia N.length ic).ownBlock)=>DI.round a5 J i1 i2 i3 i4 hb hT hO hg cq co BW.size);have k0:=A8 i1;have k1:=A8 J.co;obtain⟨t0,t1,t2⟩:=Ax az;have R0:=Ad i2.row;have bH:cb<I.heap.size:=Ap i1;have cK:ib<I.heap.size:=Ap J.co;have cP:tb<I.heap.size:=Ap az;have a6:(Value.slice ia N.length ic).ownBlock≠some cb:=λe=>by obtain⟨_,h⟩:=A7 i2.row e;exact Cw h i1 qi
   have aA:(Value.slice ia N.length ic).ownBlock≠some ib:=λe=>by obtain⟨_,h⟩:=A7 i2.row e;exact Cw h J.co qi
   have G:(Value.slice ia N.length ic).ownBlock≠some tb:=λe=>by obtain⟨_,h⟩:=A7 i2.row e;exact Cw h az qi
   have bi:cb≠ib:=WU b7;have aq:cb≠tb:=λe=>by subst e;exact Cw i1 az qi
   have I1:=Ad i1;have cI:H.heap.size<=I.heap.size:=J.sz;clear J i1 i2 i3 i4 az ab a5;gi_wp2;refine VE (S:=(λw'=>At w' ib 0 (I6 (k:Int))/\At w' tb 0 (.pointer x0)/\At w' tb 1 (.pointer x1)/\At w' tb 2 (.pointer x2))) XA (by intro i o ho c hc;rcases i with _|_|_|_|_|_|_|_|i<;>simp at ho<;>subst ho<;>cases hc) qg ?_ (λhHeld=>?_)
   ·(try dsimp only);exact⟨k1,t0,t1,t2⟩
   refine sr 1 3 ?_;refine r2 0 3 (λK d=>?_) λK d=>?_
   .go_simp;refine d _ _ ?hS5 (λhHeld=>?_)
    case hS5=>((try dsimp only);exact⟨k1,t0,t1,t2⟩)
    clear d K;(try simp only[pQ]);refine r1 3 λK d=>?_;go_simp;(go_at_call 59;refine(bN _ Au.drew).j ?_;rintro e' w6 ⟨⟨ta,tc,rfl,bg⟩,ah⟩);(try go_wp2_with fail);refine d _ _ ?hS6 (λhHeld=>?_)
    case hS6=>((try dsimp only);exact⟨zab ah k1,zab ah t0,zab ah t1,zab ah t2⟩)
    clear d K;(try simp only[pQ]);obtain⟨B6,bc⟩:=An (show Bw I w6 from Au.drew.c (ah.j qf)) (show w6.ownsRow I.heap.size 3 1 (.slice ta E.length tc) E.length (Ay E) from bg);obtain⟨R6,Q6,O⟩:=AK (AZ R0 B6) ((B6.block cb bH).c I1) (λo'=>Au.alloc Bg o':∀o',Bw w6 (w6.alloc o'));have cv:=B6.size;have aR:H.heap.size<=w6.heap.size:=qd;have bQ:=zab ah k0;have R:=zab ah k1;have Y:=zab ah t0;have T:=zab ah t1;have M:=zab ah t2;refine sr 4 5 ?_;refine r1 5 λK d=>?_;go_simp;refine d _ _ ?hS7 (λhHeld=>?_)
    case hS7=>((try dsimp only);exact⟨zab (O _) R,zab (O _) Y,zab (O _) T,zab (O _) M⟩)
    (try simp only[pQ]);refine wpAnyH_ready (rs:=[6]) qg qf ?_;refine y9 (yj.c rfl) (λK d=>?_) Yd;(refine GG qh (.tmp 22) (.tmp 27) 36 qh H.heap.size 45 _ 2 32 underlying36 Nc qh qd _ N.length _ qh (AZ R6 (O _)) (some ⟨_,0,none⟩) 1 1 qh (Ef (⟨(k:Int),E⟩,.slice ta E.length tc)) qh (λe=>qo) (CH _ _ _ _ qD) qA qj qd (yi aR (O _).size) ?_;intro a8 c8 w8 aN af bt);refine d _ _ ?hS9 (λhHeld=>?_)
    case hS9=>((try dsimp only);exact⟨(Ep af aA qe).c (zab (O _) R),(Ep af G qe).c (zab (O _) Y),(Ep af G qe).c (zab (O _) T),(Ep af G qe).c (zab (O _) M)⟩)
    (try simp only[pQ]);have q8:Bk w8 cb #[.slice ia N.length ic] 36:=(af.block cb qe (WU a6)).c (((O _).block cb qd).c Q6);have bC:=A8 q8;have bY:w8.frozen? ⟨cb,0,none⟩=false:=Uc;have aJ:=(Ep af aA qe).c (zab (O _) R);have aD:=(Ep af G qe).c (zab (O _) Y);have aK:=(Ep af G qe).c (zab (O _) T);have aF:=(Ep af G qe).c (zab (O _) M);refine wpAnyH_ready (rs:=[7]) qg qf ?_;refine y9 (yj.c rfl) (λK d=>?_) Yd;go_simp;refine d _ _ ?hS11 (λhHeld=>?_)
    case hS11=>((try dsimp only);exact⟨(Yf _ _ _ _ bi).c aJ,(Yf _ _ _ _ aq).c aD,(Yf _ _ _ _ aq).c aK,(Yf _ _ _ _ aq).c aF⟩)
    (try simp only[pQ]);refine wpAnyH_done qg ?_ _;refine Yb ?_;have RD:=bW ta tc a8 c8 _ w8 (B6.c ((O _).j B6.size)) (AZ bc (O _)) aN af;exact⟨RD.1.from _,RD.2.1,RD.2.2⟩
   .go_simp;(go_at_call 59;refine(bN _ Au.drew).j ?_;rintro e' w6 ⟨⟨ta,tc,rfl,bg⟩,ah⟩);(try go_wp2_with fail);refine d _ _ ?hS12 (λhHeld=>?_)
    case hS12=>((try dsimp only);exact⟨zab ah k1,zab ah t0,zab ah t1,zab ah t2⟩)
    (try simp only[pQ]);obtain⟨B6,bc⟩:=An (show Bw I w6 from Au.drew.c (ah.j qf)) (show w6.ownsRow I.heap.size 3 1 (.slice ta E.length tc) E.length (Ay E) from bg);obtain⟨R6,Q6,O⟩:=AK (AZ R0 B6) ((B6.block cb bH).c I1) (λo'=>Au.alloc Bg o':∀o',Bw w6 (w6.alloc o'));have cv:=B6.size;have aR:H.heap.size<=w6.heap.size:=qd;have bQ:=zab ah k0;have R:=zab ah k1;have Y:=zab ah t0;have T:=zab ah t1;have M:=zab ah t2;refine sr 4 5 ?_;refine r2 0 5 (λK d=>?_) λK d=>?_
    focus
     go_simp;refine d _ _ ?hS13 (λhHeld=>?_)
     case hS13=>((try dsimp only);exact⟨R,Y,T,M⟩)
     (try simp only[pQ]);refine r1 5 λK d=>?_;go_simp;refine d _ _ ?hS14 (λhHeld=>?_)
     case hS14=>((try dsimp only);exact⟨zab (O _) R,zab (O _) Y,zab (O _) T,zab (O _) M⟩)
     (try simp only[pQ]);refine wpAnyH_ready (rs:=[6]) qg qf ?_;refine y9 (yj.c rfl) (λK d=>?_) Yd;(refine GG qh (.tmp 22) (.tmp 27) 36 qh H.heap.size 45 _ 2 32 underlying36 Nc qh qd _ N.length _ qh (AZ R6 (O _)) (some ⟨_,0,none⟩) 1 1 qh (Ef (⟨(k:Int),E⟩,.slice ta E.length tc)) qh (λe=>qo) (CH _ _ _ _ qD) qA qj qd (yi aR (O _).size) ?_;intro a8 c8 w8 aN af bt);refine d _ _ ?hS16 (λhHeld=>?_)
     case hS16=>((try dsimp only);exact⟨(Ep af aA qe).c (zab (O _) R),(Ep af G qe).c (zab (O _) Y),(Ep af G qe).c (zab (O _) T),(Ep af G qe).c (zab (O _) M)⟩)
     (try simp only[pQ]);have q8:Bk w8 cb #[.slice ia N.length ic] 36:=(af.block cb qe (WU a6)).c (((O _).block cb qd).c Q6);have bC:=A8 q8;have bY:w8.frozen? ⟨cb,0,none⟩=false:=Uc;have aJ:=(Ep af aA qe).c (zab (O _) R);have aD:=(Ep af G qe).c (zab (O _) Y);have aK:=(Ep af G qe).c (zab (O _) T);have aF:=(Ep af G qe).c (zab (O _) M);refine wpAnyH_ready (rs:=[7]) qg qf ?_;refine y9 (yj.c rfl) (λK d=>?_) Yd;go_simp;refine d _ _ ?hS18 (λhHeld=>?_)
     case hS18=>((try dsimp only);exact⟨(Yf _ _ _ _ bi).c aJ,(Yf _ _ _ _ aq).c aD,(Yf _ _ _ _ aq).c aK,(Yf _ _ _ _ aq).c aF⟩)
    rotate_left
    focus
     go_simp;refine d _ _ ?hS19 (λhHeld=>?_)
     case hS19=>((try dsimp only);exact⟨zab (O _) R,zab (O _) Y,zab (O _) T,zab (O _) M⟩)
     (try simp only[pQ]);refine r1 0 λK d=>?_;have cJ:=λo=>zab (O o) bQ;go_simp;refine d _ _ ?hS20 (λhHeld=>?_)
     case hS20=>((try dsimp only);exact⟨zab (O _) R,zab (O _) Y,zab (O _) T,zab (O _) M⟩)
     (try simp only[pQ]);refine wpAnyH_ready (rs:=[6]) qg qf ?_;refine y9 (yj.c rfl) (λK d=>?_) Yd;(refine GG qh (.tmp 22) (.tmp 27) 36 qh H.heap.size 45 _ 2 32 underlying36 Nc qh qd _ N.length _ qh (AZ R6 (O _)) (some ⟨_,0,none⟩) 1 1 qh (Ef (⟨(k:Int),E⟩,.slice ta E.length tc)) qh (λe=>qo) (CH _ _ _ _ qD) qA qj qd (yi aR (O _).size) ?_;intro a8 c8 w8 aN af bt);refine d _ _ ?hS22 (λhHeld=>?_)
     case hS22=>((try dsimp only);exact⟨(Ep af aA qe).c (zab (O _) R),(Ep af G qe).c (zab (O _) Y),(Ep af G qe).c (zab (O _) T),(Ep af G qe).c (zab (O _) M)⟩)
     (try simp only[pQ]);have q8:Bk w8 cb #[.slice ia N.length ic] 36:=(af.block cb qe (WU a6)).c (((O _).block cb qd).c Q6);have bC:=A8 q8;have bY:w8.frozen? ⟨cb,0,none⟩=false:=Uc;have aJ:=(Ep af aA qe).c (zab (O _) R);have aD:=(Ep af G qe).c (zab (O _) Y);have aK:=(Ep af G qe).c (zab (O _) T);have aF:=(Ep af G qe).c (zab (O _) M);refine wpAnyH_ready (rs:=[7]) qg qf ?_;refine y9 (yj.c rfl) (λK d=>?_) Yd;go_simp;refine d _ _ ?hS24 (λhHeld=>?_)
     case hS24=>((try dsimp only);exact⟨(Yf _ _ _ _ bi).c aJ,(Yf _ _ _ _ aq).c aD,(Yf _ _ _ _ aq).c aK,(Yf _ _ _ _ aq).c aF⟩)
    rotate_left
    all_goals
     (try simp only[pQ]);refine wpAnyH_done qg ?_ _;refine Yb ?_;have RD:=bW ta tc a8 c8 _ w8 (B6.c ((O _).j B6.size)) (AZ bc (O _)) aN af;exact⟨RD.1.from _,RD.2.1,RD.2.2⟩
  case done=>
   rintro D ys I hD hS J d;obtain⟨HI,HK,HS⟩:=AK J d (zD b4 (hS.c bM) k);go_wp2_with fail;refine⟨?_,qp⟩;unfold jq;refine⟨k+1,D::Ds,_,_,_,_,_,_,_,_,_,_,_,_,_,_,_,_,_,_,_,_,by rw[XO];rfl,qd,⟨?_,HI.W,HI.C,HI.sz,⟨Yo.2 ⟨λhm=>?_,HI.aZ.nodup⟩,λD' a9=>?_⟩⟩⟩
   .rw[cB.o,<-HS.o];exact HI.cU
   .have:=HI.low D hm;omega
   .rcases yW.1 a9 with rfl|a9
    .exact⟨qd,HK⟩
    .exact HI.aZ.V D' a9
  case stop=>
   rintro D c pre W _ _ h _;exact h.elim
 have cr:k=rs.length:=qd;have hy:=FN hk;obtain⟨ia,ic,N,i1,i2,i3,i4⟩:=ay.cU;have k0:=A8 i1;obtain⟨cu,cd,cz,HN,b8⟩:=Ei ay.aZ ay.C i2 (show N.map Prod.fst=XS rs fs by rw[i3,cr,yZ];exact(if_pos ar).z) i4;have aX:=BW.size;go_wp2_with fail;refine UZ (B:=w.heap.size) Ds _ cu ?_;intro I bm;refine⟨_,results_tmp rfl _ _ _,?_⟩;exact⟨⟨ia,ic,N,rfl,(cz.lower aX aX).aR (λk c t _ _ h=>(bm.bW k c t _ h).c h.z),HN,b8⟩,cd.c bm.C⟩
end
def ztW:(prog.info? 3).map (λi=>(i.zero,i.size,i.bytes))=some (some (I6 0),1,8):=qg
def vK{w w':Aa}{r b j}(h:w.grownBy w' r)(hl:b<w.heap.size)(a:some b≠r):w'.cell? ⟨b,j,none⟩=w.cell? ⟨b,j,none⟩:=by
 unfold World.cell?;rw[h.block b hl a]
def zsa(w:Aa)(o n)(h:w.heap.size=n):(w.alloc o).heap[n]?=some o:=by
 subst h;exact heap_alloc_new _ _
def W_:Aj:=[.func (.func 35) #[] #[],.func (.func 36) #[] #[],.func (.func 37) #[] #[],.func (.func 39) #[] #[]]
def vM:(prog.info? 78).map (·.size)=some 4:=qg
def zU:∀v∈W_,v.oneCell'=true:=by
 intro v hv;simp only[W_,yW,Yw,or_false]at hv;exact im
def Jm(m:Nat->Int)(n:Nat):As:=(List.range n).map m
def zto(m k):Jm m (k+1)=Jm m k++[m k]:=by simp[Jm,List.range_succ]
def XH(fn:Nat)(m:Nat->Int):Prop:=(∀args(u:Aa),(callFunc fn args).run prog u=.ok (.enter fn args) u)/\∀(i:Nat)(_:i<=16)(x:Ru)(a1:Af)(c1:Nat)(a2:Af)(c2:Nat)(a3:Af)(c3:Nat)(w:Aa),
  Ca fn #[I6 (i:Int),.agg #[.string x.name,I6 x.aq,.slice a1 x.x.length c1,.slice a2 x.A.length c2,.slice a3 x.K.length c3]] w λe w'=>e=.returned (I6 (m i))/\Bw w w'
def ie:XH 35 λ_=>0:=⟨λ_ _=>qg,λi _ x b a c d e f w=>by
 go_enter func35,ntmps35;go_wp2;go_ret;exact⟨rfl,Ar⟩⟩
def i_:XH 36 λ_=>1:=⟨λ_ _=>qg,λi _ x b a c d e f w=>by
 go_enter func36,ntmps36;go_wp2;go_ret;exact⟨rfl,Ar⟩⟩
def vY(i:Nat)(c:i<=16)(w):Ca 40 #[I6 (i:Int)] w λe w'=>e=.returned (I6 ((i:Int)%2))/\w'=w:=by
 have a:i%2=0∨i%2=1:=qd;rcases a with a|a
 all_goals
  have b:(i:Int)%2=((i%2:Nat):Int):=qd;rw[a]at b;have O:Hid ((i:Int)%2=_):=b;go_enter func40,ntmps40;go_wp2;go_ret;exact⟨by rw[O.o];rfl,rfl⟩
def i9:XH 39 λi=>(i:Int)%2:=⟨λ_ _=>qg,λi b x d c f g l m w=>by
 have a:=Ad (λw=>vY i b w);show Ca 39 _ w λe w'=>e=.returned (I6 ((i:Int)%2))/\Bw w w';generalize (i:Int)%2=T at a⊢;go_enter func39,ntmps39;go_wp2_with (go_at_call 40;refine(a _).j ?_;rintro e k ⟨rfl,rfl⟩);go_ret;exact⟨rfl,Ar⟩⟩
def ZL(h fn:Nat)(m:Nat->Int)(hh:h<4)(hw:W_[h]?=some (.func (.func fn) #[] #[]))(W:XH fn m)(rs a c){q}(w)(hv:Fg q w a rs)(hl:rs.length<=16)(hC:∀w',Below w.heap.size w w'->Ca 41 #[.slice a rs.length c] w' λe aO=>e=.returned (.agg #[.int .i64 0,.int .i64 0,.int .i64 0])/\Below w'.heap.size w' aO) :
  Ca 8 #[.slice a rs.length c,.int .i64 (h:Int)] w λe w'=>
   (∃f l,e=.returned (.slice f (Jm m rs.length).length l)/\w'.ownsRow w.heap.size 3 1 (.slice f (Jm m rs.length).length l) (Jm m rs.length).length (Ay (Jm m rs.length)))/\Below w.heap.size w w':=by
 have B0:=iV w;have HC:=Ad hC;have aL:∀w:Aa,(Instr.field 80 (.agg #[.int .i64 0,.int .i64 0,.int .i64 0]) 0).run prog w=.ok (.int .i64 0) w:=λ_=>by kernel_rfl
 clear hC;have hE:=W.1;have aR:(h:Int)<4:=qd;have aT:(0:Int)<=(h:Int):=qd;go_enter func8,ntmps8;go_wp2_with (first|(refine Ec qh 78 (.tmp 5) (.tmp 9) qh w.heap.size W_ qh qh _ 78 (zsa _ _ _ rfl) qh vM zU ?_;intro w0 n aq;have t:Below w.heap.size w w0:=(B0 _).c (aq.e (yA _));have O:=Nh n h _ hw;rw[Yj]at O;have aF:w.heap.size<w0.heap.size:=Ap n)|fail);refine(HC _ t).rtn λE B=>?_;have aG:Below w.heap.size w E:=t.c (B.j t.size);have y:E.cell? ⟨w.heap.size,h,none⟩=some (.func (.func fn) #[] #[]):=zab B O;have p:w.heap.size<E.heap.size:=yg aF B.size;go_wp2_with fail;clear B HC O aF t n aq;clear aL
 go_loopw [6,24] (λv i wr=>∃(k:Nat)(f:Af)(l:Nat),k<=rs.length/\i=.int .i64 k/\v=.slice f k l/\wr.ownsRow (w.heap.size+1) 3 1 (.slice f k l) k (Ay (Jm m k))/\wr.cell? ⟨w.heap.size,h,none⟩=some (.func (.func fn) #[] #[])/\w.heap.size<wr.heap.size/\Below w.heap.size w wr) (λ_ i _=>rs.length-(intOf i).toNat)
 .exact⟨0,none,0,qd,rfl,rfl,yJ _ _ _ _,y,p,aG⟩
 clear y p aG;obtain⟨k,f,l,hk,rfl,rfl,d,y,aQ,u⟩:=hrel;have N:=Ad d;clear d;by_cases aP:k<rs.length
 .obtain⟨x,aK⟩:∃x,rs[k]?=some x:=⟨rs[k],by simp[aP]⟩
  obtain⟨b,o,I,J,L,R,G,C,rfl,_,d0,d1,d2,d3,d4,ak,_,_,_⟩:=(hv.e u).get aK;obtain⟨M,T⟩:=AF (m k);have HS:=Ad (show Jm m (k+1)=Jm m k++[M] by rw[T];exact zto m k);have U:=iV wr;have HX:=Ad (λw'=>(show Ca fn #[.int .i64 (k:Int),.agg #[.string x.name,.int .i64 x.aq,.slice I x.x.length J,.slice L x.A.length R,.slice G x.K.length C]] w' _ from by have:=W.2 k qd x I J L R G C w';rwa [<-T]at this));clear T;have hbase:∀g,(Value.slice f k l).ownBlock=some g->w.heap.size+1<=g/\g<wr.heap.size:=λg D=>N.lt g D;have aH:=Ad hbase;have g1:∀o,(wr.alloc o).drew.cell? ⟨w.heap.size,h,none⟩=some (.func (.func fn) #[] #[]):=λo=>zab (U o).drew y;obtain⟨Z,aw,aA⟩:=AK (λo=>HX (wr.alloc o).drew) (λo=>(U o).drew) (λw'(h:Below wr.heap.size wr w')=>AZ N h);clear ak U HX hbase B0;go_wp2_with fail
  go_region_held3 (λw'=>w'.cell? ⟨w.heap.size,h,none⟩=some (.func (.func fn) #[] #[])/\w'.cell? ⟨wr.heap.size,0,none⟩=some (.string x.name)/\w'.cell? ⟨wr.heap.size,1,none⟩=some (.int .i64 x.aq)/\w'.cell? ⟨wr.heap.size,2,none⟩=some (.slice I x.x.length J)/\w'.cell? ⟨wr.heap.size,3,none⟩=some (.slice L x.A.length R)/\w'.cell? ⟨wr.heap.size,4,none⟩=some (.slice G x.K.length C))
   (first|(go_split_ands;(refine⟨?_,?_,?_,?_,?_,?_⟩<;>first|with_reducible assumption|with_reducible exact H.o _ _ _ (.inl rfl) qk|with_reducible exact H.o _ _ _ (.inr rfl) qk|with_reducible exact zab ((y8 _ _).alloc (yA _) _) qk|with_reducible exact zab aE qk|(simp[*];done));done)|fail)
   (first
    |(with_reducible refine(Z.o _).rtn λw2 aE=>?_;have aD:=(aw.o _).c (aE.j (aw.o _).size);have am:=Ad aD;clear aD)
    |(refine GG qh (.tmp 29) (.tmp 36) 30 qh (w.heap.size+1) 3 _ 1 8 underlying30 ztW qh qd _ k _ qh ((aA _ am).alloc _) (some ⟨_,0,none⟩) 1 1 qh [.int .i64 M] qh (λe=>qo) (CH _ _ _ _ qf) Ua qj qd qN ?_;intro a4 Y s ax r aI;have au:∀b j v,(b=w.heap.size∨b=wr.heap.size)->(w2.alloc (.cells #[.int .i64 M] 3)).cell? ⟨b,j,none⟩=some v->s.cell? ⟨b,j,none⟩=some v:=(λb j v aa az=>by have hlt:=yI _ ⟨b,j,none⟩ az;rw[vK r.o hlt (λe=>by obtain⟨h1,h2⟩:=aH.o b e.z;omega)];exact az);have H:=Ad au;clear au)
    | fail)
  rename_i aB;obtain⟨e0,_⟩:=aB;have aS:=am.size;have aN:Below w.heap.size w s:=((u.c (am.j u.size)).alloc qd _).grown r qe (λg D=>by have:=(aH g D).1;omega);have aM:w.heap.size<s.heap.size:=by
   have h1:=r.size;simp at h1;omega
  have ar:s.ownsRow (w.heap.size+1) 3 1 (.slice a4 (k+1) Y) (k+1) (Ay (Jm m (k+1))):=by
   have:=ax.o;rw[HS.o];simpa[Ay] using this
  clear H ax r aI Z aA g1 d0 d1 d2 d3 d4;go_wp2;exact⟨⟨k+1,a4,Y,qd,qm,rfl,ar,e0,aM,aN⟩,qp⟩
 go_wp2;go_ret;have aJ:k=rs.length:=qd;subst aJ;have hO:=N.o;have ay:(Jm m rs.length).length=rs.length:=by simp[Jm]
 refine⟨⟨f,l,by rw[ay];rfl,?_⟩,u⟩;rw[ay];exact C4 hO qd
def X_(m)(h:∀i,m i=0∨m i=1)(n):Jw (Jm m n) n=true:=by
 simp only[Jw,Jm,ym,Y7,yv,yu,List.length_range,decide_eq_true_eq,and_true,forall_exists_index,IB,iY];rintro y i ⟨_,rfl⟩;exact h i
def zoz(h:Nat)(l:h=0∨h=1∨h=3)(rs a c){q}(w)(hv:Fg q w a rs)(hl:rs.length<=16)(k:∀w',Bw w w'->Ca 41 #[.slice a rs.length c] w' λe m=>e=.returned (.agg #[I6 0,I6 0,I6 0])/\Bw w' m) :
  Ca 8 #[.slice a rs.length c,I6 (h:Int)] w λe w'=>
   (∃ms d b,Jw ms rs.length=true/\e=.returned (.slice d (List.length ms) b)/\w'.ownsRow w.heap.size 3 1 (.slice d ms.length b) ms.length (Ay ms))/\Bw w w':=by
 rcases l with rfl|rfl|rfl
 .exact(ZL 0 _ _ qi rfl ie rs a c w hv hl k).j λe w'⟨⟨d,b,O,g⟩,f⟩=>⟨⟨_,d,b,X_ _ (λ_=>.inl rfl) _,O,g⟩,f⟩
 .exact(ZL 1 _ _ qi rfl i_ rs a c w hv hl k).j λe w'⟨⟨d,b,O,g⟩,f⟩=>⟨⟨_,d,b,X_ _ (λ_=>.inr rfl) _,O,g⟩,f⟩
 exact(ZL 3 _ _ qi rfl i9 rs a c w hv hl k).j λe w'⟨⟨d,b,O,g⟩,f⟩=>⟨⟨_,d,b,X_ _ (λi=>qd) _,O,g⟩,f⟩
end Go.Proofs.YtikojfajahnhgaaGreat
