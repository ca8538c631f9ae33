import Derived.Test.YtikojfajahnhgaaGreatKbx
import Derived.Test.YtikojfajahnhgaaGreatKbl
import Derived.Test.YtikojfajahnhgaaGreatKbn
set_option linter.all false
set_option maxHeartbeats 12800000
set_option maxRecDepth 100000
namespace Go.Proofs.YtikojfajahnhgaaGreat
attribute [local simp] At I6 Pn mzI
attribute [local go_sem] At I6 Pn
open Go.RowKit Go.Proofs.Tryz
variable{P:Prop}
section
open Go.Maps
def QO(t:TypeId):Bool:=[159,238,194,247,106,320,165,197,330,277,145,187,263,339,336,252,258].contains t
def NT.Sm(N:NT)(k:Nat):Prop:=∃m∈N.Ms,m.S k
structure K0(S:Nat->Prop) (A B:World):Prop where
 rest:Below 0 A B
 kept:∀(k:Nat)(c:Array Value)(t:TypeId)(fr:Nat × Nat),A.heap[k]?=some (.cells c t fr)->QO t=true->B.heap[k]?=some (.cells c t fr)
 maps:∀(k:Nat)es cl,A.heap[k]?=some (.map es cl)->S k->B.heap[k]?=some (.map es cl)
structure KN(S:Nat->Prop) (A B:World):Prop extends K0 S A B where
 dT:∀(k:Nat)(o:Obj),A.heap[k]?=some o->Lx o=true->B.heap[k]?=some o
def KN.j{S A B C}(h:KN S A B)(k:KN S B C):KN S A C:=⟨⟨h.rest.j k.rest,λj c t d hj e=>k.kept j c t d (h.kept j c t d hj e) e,λj es f hj a=>k.maps j es f (h.maps j es f hj a) a⟩,λj o hj b=>k.dT j o (h.dT j o hj b) b⟩
def KN.ab{S A B}(h:Bw A B):KN S A B:=⟨⟨h.ac (yA _),λk _ _ _ a _=>(h.block k (As a)).j a,λk _ _ a _=>(h.block k (ym.1 a).1).j a⟩,λk _ a _=>(h.block k (ym.1 a).1).j a⟩
def KN.bo{S A l o o'}(h:A.heap[l]?=some o)(d:El o=true)(f:Lx o=false):KN S A (A.putObj l o'):=⟨⟨⟨rfl,rfl,rfl,by simp[World.putObj],λ_ q=>absurd q qd⟩,λk c t g a _=>by
 rw[Yx (λe=>by subst e;rw[h]at a;cases a;cases d)];exact a,λk es i a _=>by
 rw[Yx (λe=>by subst e;rw[h]at a;cases a;cases d)];exact a⟩,λk O a b=>by
 rw[Yx (λe=>by subst e;rw[h]at a;cases a;rw[f]at b;cases b)];exact a⟩
def K0.own{S B w w' e m v n xs}(h:K0 S w w')(b:w.ownsRow B e m v n xs)(f:QO e=true):w'.ownsRow B e m v n xs:=
 BZ b λk d=>by
  obtain⟨c,a⟩:=A8 b d
  rw[h.kept k _ _ _ a f,a]
def NF.kn{S w w' base g mb j e L f V QQ}(h:NF w base g mb j e L f V QQ)(a:K0 S w w'):NF w' base g mb j e L f V QQ:=
 ⟨a.kept _ _ _ _ h.box qh,a.own h.row qh,h.bk,h.ba,λi x b v c d hv=>by
  obtain⟨n,l,k,m⟩:=h.node i x b v c d hv
  exact⟨a.kept _ _ _ _ n qh,l,k,a.own m qh⟩,λx c=>⟨(h.aX x c).1,a.own (h.aX x c).2 qh⟩,h.apart⟩
def Hd.kn{S adr U w w'}(h:Hd adr U w)(e:K0 S w w'):Hd adr U w':=λf d=>(h f d).keep λg c t b a ht=>e.kept g c t b a qs
def DV.kn{S N adr U fs V w w'}(h:DV N adr U fs V w)(a:K0 S w w'):DV N adr U fs V w':=
 ⟨a.kept _ _ _ _ h.box qh,h.nf.kn a,a.own h.row qh,λm f=>by
  obtain⟨cc,d,g,e,i⟩:=h.pd m f
  exact⟨cc,d,g,e,i.aD λk c t j b ht=>a.kept _ _ _ _ b qy⟩,h.us.kn a,yi h.hb a.rest.size⟩
structure Eb(N:NT) (adr:F->Addr) (U fs:List F) (V:List Value) (olds:List (List Kt)) (w:World):Prop where
 ok:FH N
 bx:DV N adr U fs V w
 lk:Gi adr U fs
 st:Ch N adr U (N.vw V fs) (λ_=>gV (N.vw V fs)) olds w
 ol:olds.length=N.Ms.length
def Eb.kn{N adr U fs V a w w'}(h:Eb N adr U fs V a w)(b:K0 N.Sm w w'):Eb N adr U fs V a w':=
 ⟨h.ok,h.bx.kn b,h.lk,λi m old f n=>by
  have e:=yd f
  obtain⟨l,q,g⟩:=(h.bx.kn b).pre h.lk e
  exact(h.st i m old f n).bm (h.ok.ok m e) (λ_ _=>rfl) g l ⟨λk c t o d ht=>b.kept k c t o d qu,λk es p j d=>b.maps k es p d ⟨m,e,j⟩⟩,h.ol⟩
def Eb.tn{N adr U fs V b d w w'}(h:Eb N adr U fs V b w)(f:Tn (λ_=>False) El d w w'):Eb N adr U fs V b w':=by
 have g:CK w w':=λk c t n e=>f.block k _ e (λq=>q) (.inl rfl);exact⟨h.ok,h.bx.ck g f.rest.size,h.lk,λi m old p u=>by
  have o:=yd p;obtain⟨s,v,r⟩:=(h.bx.ck g f.rest.size).pre h.lk o;exact(h.st i m old p u).bm (h.ok.ok m o) (λ_ _=>rfl) r s ⟨λk c t n e _=>g k c t n e,λk es x _ e=>f.block k _ e (λq=>q) (.inl rfl)⟩,h.ol⟩
def Eb.J{N adr U fs V a w w'}(h:Eb N adr U fs V a w)(b:Bw w w'):Eb N adr U fs V a w':=h.kn (KN.ab b).toK0
def Eb.set{N adr U fs V a w w' i m K}(h:Eb N adr U fs V a w)(d:N.Ms[i]?=some m)(hS:m.St adr U (N.vw V fs) (gV (N.vw V fs)) K w')(g:CK w w')(k:Av m.S w w'):Eb N adr U fs V (a.set i K) w':=
 ⟨h.ok,h.bx.ck g k.rest.size,h.lk,λj f old c b=>by
  by_cases e:j=i
  .subst e
   rw[d]at c
   cases c
   have hl:j<a.length:=by rw[h.ol];exact(yf.1 d).1
   rw[Yl hl]at b
   cases b
   exact hS
  rw[YS (λq=>e q.ai)]at b
  exact(h.st j f old c b).keep g k (h.ok.apart j i f m c d e),by rw[Kl];exact h.ol⟩
def A6.kn{S w w' b r L a}(h:A6 w b r L a)(e:KN S w w')(p:S b):A6 w' b r L a:=by
 obtain⟨es,d,since,seen,m,q,j,i,k,n,o⟩:=h.at_;exact⟨⟨es,d,since,seen,m,e.maps b _ _ q p,j,i,k,e.dT r _ n rfl,o⟩,h.nd,λy l=>(h.ok y l).bj λg c f=>e.kept g c _ _ f qh⟩
def zu{P mt k g w b L}(i:P.underlying mt=some (.map k g))(h:Ag w b L):∃o,(Instr.range mt (.map (some b))).run P w=.ok (Pn w.heap.size) (w.alloc o)/\A6 (w.alloc o) b w.heap.size L (L.map Prod.fst):=by
 obtain⟨es,a,c,he,Y,O⟩:=h.at_;refine⟨.mapIter (some b) a #[] a,?_,⟨⟨es,a,a,#[],a,?_,he,Y,O,heap_alloc_new _ _,O,yX _,yX _,?_⟩,h.nd,λy d=>(h.ok y d).J Af⟩⟩
 .simp[Instr.range,run_underlying i,gM c,newObj,Sem.run]
 .exact(yV _ _ _ h.lt).j c
 have f:(leftOf es #[]).toList=es.toList:=by simp[leftOf]
 rw[f];exact nX
def sI{adr U T w}(h:Bl adr U w)(c:∀f∈T,f∈U)(hl:T.length<=3):Iv w (Ab adr T).1 (Ab adr T).2.1 (Ab adr T).2.2 T:=by
 have b:∀i,T.length<=i->T[i]?=none:=λi a=>Yr a;refine⟨λi f a=>?_,λq=>by simp[Ab,b 0 q],λq=>by simp[Ab,b 1 q],λq=>by simp[Ab,b 2 q],hl⟩;have d:=(h f (c f (yd a))).1;have hi3:i<3:=yh (yf.1 a).1 hl;refine⟨.pointer (some (adr f)),?_,d⟩;rcases(show i=0∨i=1∨i=2 by omega) with rfl|rfl|rfl<;>simp[Ab,a]
structure NY(adr:F->Addr) (U:List F) (old now:List Kt) (L:List (List F × Int)):Prop where
 nd:(L.map (λy=>Ab adr y.1)).Nodup
 ok:∀y∈L,y.1.length<=3/\(∀f∈y.1,f∈U)/\y.2=BK (Ab adr y.1) now-BK (Ab adr y.1) old/\y.2≠0
 all:∀x,BK x now-BK x old≠0->∃y∈L,Ab adr y.1=x
def Ju(i:Nat)(L:List (List F × Int)):List (It × Int):=L.map λy=>(⟨(i:Int),y.1.map (·.tag)⟩,y.2)
def F6:Nat->List (List (List F × Int))->List (It × Int)
 |_,[]=>[]
 |i,L::r=>Ju i L++F6 (i+1) r
def U5:∀(i:Nat)(a:List (List (List F × Int)))(L:List (List F × Int)),F6 i (a++[L])=F6 i a++Ju (i+a.length) L
 |i,[],L=>by simp[F6]
 |i,M::r,L=>by
  rw[Ye,F6,F6,U5 (i+1) r L,Yc,yH,show i+1+r.length=i+(r.length+1) by omega]
structure Ne where
 it:It
 sl:Value
 sg:Int
def Zw(e:Ne):Array Value:=#[.agg #[.int .i64 e.it.au,e.sl],.int .i64 e.sg]
def GG(e:Ne):It × Int:=(e.it,e.sg)
def ZD(pre:List Ne)(e:Ne)(A B:World):Prop:=pre.length<=2000000000/\(∃a c,e.sl=.slice a e.it.al.length c)/\B.ownsRow A.heap.size 3 1 e.sl e.it.al.length (Am e.it.al)/\e.it.al.length<=3/\(e.sg=1∨e.sg = -1)
def FK(N:NT)(adr:F->Addr)(U fs:List F)(V:List Value)(olds:List (List Kt))(xs:List Ne)(W:World):Prop:=
 ∃ (Ls:List (List (List F × Int))) (olds':List (List Kt)),xs.length<=2000000000/\xs.map GG=F6 0 Ls/\Ls.length=N.Ms.length/\Eb N adr U fs V olds' W /\
  (∀(i:Nat)(m:MK)(old:List Kt)(L:List (List F × Int)),N.Ms[i]?=some m->olds[i]?=some old->Ls[i]?=some L->NY adr U old ((BV (m.X.map (Cv (N.vw V fs))) []).map (Ab adr)) L) /\
  (∀(i:Nat)(m:MK)(old:List Kt),N.Ms[i]?=some m->olds'[i]?=some old->old.Perm ((BV (m.X.map (Cv (N.vw V fs))) []).map (Ab adr)))
def FK.tn{N adr U fs V b xs d w w'}(h:FK N adr U fs V b xs w)(m:Tn (λ_=>False) El d w w'):FK N adr U fs V b xs w':=by
 obtain⟨k,olds',O,n,e,c,f,g⟩:=h;exact⟨k,olds',O,n,e,c.tn m,f,g⟩
def FK.kn{N adr U fs V a xs w w'}(h:FK N adr U fs V a xs w)(g:K0 N.Sm w w'):FK N adr U fs V a xs w':=by
 obtain⟨f,olds',O,e,c,b,i,d⟩:=h;exact⟨f,olds',O,e,c,b.kn g,i,d⟩
end
section
open Go.Maps
attribute [local go_sem ↓] wp_at_zero wp_at_succ
def Tn.dh{S d A B r o}(h:Bi (some r) A B)(c:A.heap[r]?=some o)(f:Lx o=true)(hd:d<=r):Tn S Lx d A B:=⟨h.rest,λg O b _ a=>(h.block g (ym.1 b).1 (λe=>by
 injection e with e;subst e;rw[c]at b;cases b;rcases a with a|a
 .rw[f]at a;cases a
 omega)).j b⟩
def Tn.aS{S S' p d A B}(h:Av S' A B)(c:∀g,S' g->S g):Tn S p d A B:=⟨h.rest,λg _ a b _=>(h.block g (ym.1 a).1 (λq=>b (c g q))).j a⟩
def A6.it{w b r L a}(h:A6 w b r L a):∃o,w.heap[r]?=some o/\Lx o=true:=by
 obtain⟨es,c,since,seen,e,_,_,_,_,d,_⟩:=h.at_;exact⟨_,d,rfl⟩
def Jv(N:NT)(adr:F->Addr)(V:List Value)(fs:List F)(m:MK):List Kt:=(BV (m.X.map (Cv (N.vw V fs))) []).map (Ab adr)
structure Nl(N:NT) (adr:F->Addr) (U fs:List F) (V:List Value) (olds:List (List Kt)) (i:Nat) (Ls:List (List (List F × Int))) (olds':List (List Kt)) (pre:List Ne) (d:Nat) (w:World):Prop where
 st:Eb N adr U fs V olds' w
 len:Ls.length=i
 pr:pre.map GG=F6 0 Ls
 ep:∀(j:Nat)(m:MK)(old:List Kt)(L:List (List F × Int)),N.Ms[j]?=some m->olds[j]?=some old->Ls[j]?=some L->NY adr U old (Jv N adr V fs m) L
 dV:∀(j:Nat)(m:MK)(old:List Kt),j<i->N.Ms[j]?=some m->olds'[j]?=some old->old.Perm (Jv N adr V fs m)
 rest:∀j,i<=j->olds'[j]?=olds[j]?
 few:(F6 0 Ls).length<=i*2000000
 sz:d<=w.heap.size
def Nl.fin{N adr U fs V a f olds' b w d}(h:Nl N adr U fs V a N.Ms.length f olds' b d w):FK N adr U fs V a b w:=
 ⟨f,olds',by
  have c:=congrArg List.length h.pr
  rw[yp]at c
  have e:=h.few
  have g:=h.st.ok.cg
  have j:N.Ms.length*2000000<=1000*2000000:=YQ _ g
  omega,h.pr,h.len,h.st,h.ep,λi m old c e=>h.dV i m old (yf.1 c).1 c e⟩
def Nl.next{N adr U fs V a i f olds' n Y w w' m old K L d}(h:Nl N adr U fs V a i f olds' n d w)(o:N.Ms[i]?=some m)(r:a[i]?=some old)(t:NY adr U old (Jv N adr V fs m) L)(u:K.Perm (Jv N adr V fs m))(hS:Eb N adr U fs V (olds'.set i K) w')(v:Y.map GG=F6 0 f++Ju i L)(x:L.length<=2000000)(k:d<=w'.heap.size):Nl N adr U fs V a (i+1) (f++[L]) (olds'.set i K) Y d w':=by
 have hl:=h.len;refine⟨hS,K2,by rw[v,U5,Yt,hl],λj l O s c b g=>?_,λj l O hj c b=>?_,λj hj=>?_,?_,k⟩
 .rcases Lj g with g|⟨e,rfl⟩
  .exact h.ep j l O s c b g
  rw[hl]at e;subst e;rw[o]at c;rw[r]at b;cases c;cases b;exact t
 .by_cases e:j=i
  .subst e;rw[o]at c;cases c;have p:j<olds'.length:=by rw[h.st.ol];exact(yf.1 o).1
   rw[Yl p]at b;cases b;exact u
  rw[YS (λq=>e q.ai)]at b;exact h.dV j l O qd c b
 .rw[YS qd];exact h.rest j qd
 rw[U5,yR];have c:=h.few;have b:(Ju (0+f.length) L).length=L.length:=by simp[Ju]
 omega
def UC{M}(c:(M.map Prod.fst).Nodup){x v}(h:(x,v)∈M):Ar x M=v:=by
 have e:M.find? (λy=>decide (y.1=x))=some (x,v):=by
  obtain⟨y,a⟩:∃y,M.find? (λy=>decide (y.1=x))=some y:=by
   cases b:M.find? (λy=>decide (y.1=x)) with
   |none=>exact absurd (XC.1 b _ h) qe
   |some y=>exact⟨y,rfl⟩
  have f:y.1=x:=by simpa using List.find?_some a
  have d:=List.mem_of_find?_eq_some a;rw[a,Oz c d h f]
 simp[Ar,e]
def vr{M x}(h:x ∉ M.map Prod.fst):Ar x M=0:=by
 have:M.find? (λy=>decide (y.1=x))=none:=XC.2 λy a q=>h (by
  simp only[decide_eq_true_eq]at q;rw[<-q];exact yT a)
 simp[Ar,this]
def rZ{adr U old K a M c}(b:BU old K M)(k:K.Perm a)(g:(M.map Prod.fst).Nodup)(l:(M.map Prod.fst).Perm (c.map (λy=>Ab adr y.1)))(hd:∀y∈c,(Ab adr y.1,y.2)∈M/\y.1.length<=3/\∀f∈y.1,f∈U):NY adr U old a c:=by
 refine⟨l.nodup_iff.1 g,λy d=>?_,λx i=>?_⟩
 .obtain⟨j,n,m⟩:=hd y d;refine⟨n,m,?_,b.nz _ j⟩;rw[<-Vk k,<-b.cnt,UC g j]
 rw[<-Vk k,<-b.cnt]at i;have o:x∈M.map Prod.fst:=by
  refine Kf λq=>i (vr q)
 obtain⟨y,d,e⟩:=yz.1 (l.mem_iff.1 o);exact⟨y,d,e⟩
def Eb.er{N adr U fs V a S w w'}(h:Eb N adr U fs V a w)(c:CK w w')(b:Av S w w')(d:∀m∈N.Ms,∀x,m.S x->¬S x):Eb N adr U fs V a w':=⟨h.ok,h.bx.ck c b.rest.size,h.lk,h.st.keep c b d,h.ol⟩
def MK.ch(m:MK)(b:m.Ok){U vw}(hv:EB U m.X (gV vw)){T}(d:T∈BV (m.X.map (Cv vw)) []):T.length<=3/\∀f∈T,f∈U:=by
 obtain⟨W,e,q⟩:=(Ll _ _ _).1 d;rw[Yj]at e;subst e;have hs:D_ (m.X.map (BM U)) []:=by
  cases m with
  |inl O=>exact(b U).sr
  |inr t=>exact b.2.2 U
 exact LW hs (λc g x n=>yg.1 ((hv c g).1 x n)) q qe qe
def CS.nodup{w cb nb wb T M}(h:CS w cb nb wb T M):(M.map Prod.fst).Nodup:=by
 have:=h.news.nd;rwa [RH]at this
def VO{α:Type}[DecidableEq α]{x}:∀{l:List α},x∈l->(l.filter (λy=>decide (y≠x))).length<l.length
 |[],h=>by simp at h
 |y::r,h=>by
  by_cases e:y=x
  .rw[yN (by simp[e]),yH]
   exact Nat.lt_succ_of_le (Yd _ _)
  rw[yL (by simp[e]),yH,yH]
  have a:x∈r:=by
   rcases yO.1 h with q|q
   .exact absurd q.ai e
   exact q
  exact Nat.succ_lt_succ (VO a)
def Z2{α:Type}[DecidableEq α]:∀{l l':List α},l.Nodup->(∀x∈l,x∈l')->l.length<=l'.length
 |[],_,_,_=>yA _
 |x::l,l',hn,h=>by
  have b:=Z2 (l:=l) (l':=l'.filter λy=>decide (y≠x)) (Yg.1 hn).2 λy hy=>yg.2 ⟨h y J_,by
   simp only[ne_eq,decide_eq_true_eq]
   intro e
   exact(Yg.1 hn).1 (e▸hy)⟩
  have a:=VO (h x qe)
  rw[yH]
  omega
def vy{adr old K}{E:List (List F)}{M}(d:(M.map Prod.fst).Nodup)(e:BU old K M)(g:K.Perm (E.map (Ab adr))):M.length<=old.length+E.length:=by
 have b:∀x∈M.map Prod.fst,x∈old++K:=λx f=>by
  obtain⟨⟨x',z⟩,O,rfl⟩:=yz.1 f;have b:=UC d O;rw[e.cnt x']at b;have a:=e.nz _ O;simp only at a;refine yr.2 ?_;by_cases c:x'∈K
  .exact .inr c
  refine .inl (Kf λq=>a ?_);rw[<-b,Hw c,Hw q];rfl
 have a:=Z2 d b;rw[yp,yR,g.length_eq,yp]at a;exact a
def x_{adr}{U:List F}{old K}{E:List (List F)}{M}(k:(M.map Prod.fst).Nodup)(d:BU old K M)(o:K.Perm (E.map (Ab adr)))(m:∀x∈old,∃T,x=Ab adr T/\T.length<=3/\∀f∈T,f∈U)(i:∀T∈E,T.length<=3/\∀f∈T,f∈U){x z}(h:(x,z)∈M):∃T,x=Ab adr T/\T.length<=3/\(∀f∈T,f∈U)/\(z=1∨z = -1):=by
 have a:=UC k h;rw[d.cnt x]at a;have g:=d.nz _ h;simp only at g;have b:z=1∨z = -1:=by
  rcases Ox x K with e|e<;>rcases Ox x old with Y|Y<;>rw[e,Y]at a<;>omega
 by_cases c:x∈K
 .obtain⟨T,j,e⟩:=yz.1 (o.mem_iff.1 c);exact⟨T,e.ai,(i T j).1,(i T j).2,b⟩
 have O:x∈old:=Kf λq=>g (by rw[<-a,Hw c,Hw q];rfl);obtain⟨T,e,l,n⟩:=m x O;exact⟨T,e,l,n,b⟩
structure Ni(N:NT) (adr:F->Addr) (U fs:List F) (V:List Value) (Ls:List (List (List F × Int))) (olds':List (List Kt)) (i wb r:Nat) (M:List (Kt × Int)) (dn:List (List F × Int)) (todo:List Kt) (pre:List Ne) (w:World):Prop where
 st:Eb N adr U fs V olds' w
 rg:A6 w wb r (iv M) todo
 pm:(M.map Prod.fst).Perm (dn.map (λy=>Ab adr y.1)++todo)
 ok:∀y∈dn,(Ab adr y.1,y.2)∈M/\y.1.length<=3/\∀f∈y.1,f∈U
 pr:pre.map GG=F6 0 Ls++Ju i dn
def Ni.few{N adr U fs V d olds' i wb r M c a b w}(h:Ni N adr U fs V d olds' i wb r M c a b w):c.length<=M.length:= by
 have:=h.pm.length_eq;simp only[yp,yR]at this;omega
def Ni.step{N adr U fs V d olds' i wb r M e a b w w' x T z p}(h:Ni N adr U fs V d olds' i wb r M e a b w)(s:x=Ab adr T)(q:(x,z)∈M)(n:T.length<=3)(g:∀f∈T,f∈U)(o:x∈a)(m:(M.map Prod.fst).Nodup)(hS:Eb N adr U fs V olds' w')(l:A6 w' wb r (iv M) (a.filter (λy=>decide (y≠x)))):Ni N adr U fs V d olds' i wb r M (e++[(T,z)]) (a.filter (λy=>decide (y≠x))) (b++[⟨⟨(i:Int),T.map (·.tag)⟩,p,z⟩]) w':=by
 subst s;refine⟨hS,l,?_,λy c=>?_,?_⟩
 .have Y:=(h.pm.nodup_iff.1 m)
  have O:(a.map id).Nodup:=by rw[KQ];exact(yP.1 Y).2.1
  have:=PJ (k:=id) O o;simp only[id]at this;rw[yJ,Yc];exact h.pm.j (List.Perm.append_left _ this)
 .rcases yr.1 c with c|c
  .exact h.ok y c
  rw[yv.1 c];exact⟨q,n,g⟩
 rw[yJ,h.pr];simp[Ju,GG]
def zR(N adr U fs V a bb l W)(h:Eb N adr U fs V a W)(C:∀(j:Nat)(old:List Kt),a[j]?=some old->∀x∈old,∃T,x=Ab adr T/\T.length<=3/\∀f∈T,f∈U)(hB:∀(j:Nat)(m:MK)(old:List Kt),N.Ms[j]?=some m->a[j]?=some old->old.length+(BV (m.X.map (Cv (N.vw V fs))) []).length<=2000000)(aa:W.heap[bb]?=some (.cells #[.pointer (some ⟨N.nw,0,none⟩)] 84 (0,0)))(J:List Ne->World->Prop)(d)(bJ:d<=W.heap.size)(hJ:∀c A B,J c A->Tn (λg=>∃m∈N.Ms,m.S g) Lx d A B->J c B)(hY:∀(m:Nat)c x A B,J c A->Bw A B->ZD c x A B->YieldAt Fence.wide m prog l (Zw x) B λe I=>e=.returned (.bool true)/\J (c++[x]) I/\KN N.Sm B I)(h0:J [] W) :
  Ca 161 #[.func (.yield l) #[] #[],.pointer (some ⟨bb,0,none⟩)] W λe I=>(∃v,e=.returned v)/\∃xs,J xs I/\FK N adr U fs V a xs I:=by
 obtain⟨HO,bu,HJ,HY⟩:=BE C hB hJ hY;have b0:=A3 aa;have c2:=AF (L:=[_,_,_]) h.bx.box (j:=2) rfl;obtain⟨A,aG⟩:∃A,A=N.ma:=⟨_,rfl⟩
 rw[<-aG]at c2;have bE:=Aa aG;have bT:=h.ok.cg;obtain⟨HN,H0⟩:=Ak (show Nl N adr U fs V a 0 [] a [] d W from⟨h,rfl,rfl,λj m old L _ _ q=>by simp at q,λj m old q=>absurd q qd,λj _=>rfl,yX _,bJ⟩) h0;clear h C aa hJ hY h0 aG hB;go_enter func161,ntmps161;go_wp2_with fail
 go_loopw [12] (λiv wr=>∃(i:Nat)(Ls:List (List (List F × Int)))(olds':List (List Kt))(c:List Ne),iv=.int .i64 (i:Int)/\i<=N.Ms.length/\Nl N adr U fs V a i Ls olds' c d wr/\J c wr) (λiv _=>N.Ms.length-(intOf iv).toNat)
 case atStart=>exact⟨0,[],a,[],rfl,yA _,HN.o,H0.o⟩
 case round=>
  obtain⟨i,Ls,olds',c,rfl,bU,bo,aT⟩:=hrel;obtain⟨O,JR⟩:=Ak bo aT;clear bo aT;by_cases hi:i<N.Ms.length
  .obtain⟨m,hm⟩:=AJ hi;obtain⟨old,af⟩:∃o,olds'[i]?=some o:=⟨olds'[i]'(by rw[O.o.st.ol];exact hi),qe⟩
   have aw:a[i]?=some old:=by rw[<-O.o.rest i AA];exact af
   have ax:=yd hm;obtain⟨p1,p2,p3⟩:=O.o.st.bx.pre O.o.st.lk ax;have aH:=O.o.st.st i m old hm af;obtain⟨K,M,ao,aE,aD⟩:=aH.now (O.o.st.ok.ok m ax) O.o.st.lk.inj p3;obtain⟨rb,aW,_,r0,_⟩:=CC O.o.st.bx.row (show(N.Ms.map MK.val)[i]?=some m.val by rw[yx,hm];rfl);have br:=bE.o.j aW;subst br;rw[MK.bZ m]at r0;have D:=Aa (V8 m aH);have q1:=λu=>Uf m u;have q2:=UJ m;have k1:=AF (L:=[_,_]) ao.q (j:=1) rfl;obtain⟨o,hR,aC⟩:=zu (P:=prog) IH ao.news;obtain⟨HM,am,bg,a7,aF⟩:=DU hm ax aw af ao;have bO:M.length<=2000000:=by
    have h1:=vy ao.nodup aE aD;have h2:=bu.o i m old hm aw;omega
   obtain⟨bi,aY,aL⟩:=AQ aE aD aC;have z0:(0:Int)<=(i:Int):=qd;have z1:(i:Int)<(N.Ms.length:Int):=qd;obtain⟨bV,au⟩:∃b,b=m.cb:=⟨_,rfl⟩
   obtain⟨av,ar⟩:∃b,b=m.wb:=⟨_,rfl⟩
   obtain⟨bB,bD⟩:=Ak au ar;rw[<-au]at D k1;rw[<-ar]at k1 hR aL;clear hm ax aw af p1 p2 p3 aH ao aE aD aC aW au ar b0 c2;go_wp2_with fail;refine D.o.ac ?_;rintro e s ⟨rfl,bt⟩;subst bt;go_wp2_with fail;have J7:=Aa (HJ.o _ _ _ JR.o (Tn.ab (Aj.alloc AA o)));have bW:s.heap.size<(s.alloc o).heap.size:=qe;have bN:m.S av:=by
    rw[bD.o];cases m with
    |inl Rc=>exact He.1 (Id (l:=Rc.1.l (N.vw V fs))).2
    |inr t=>exact .inr rfl
   have bI:=Aa (λm' aI q=>by
    have:=O.o.st.st.lt O.o.st.ol aI _ q;omega:∀m'∈N.Ms,¬m'.S s.heap.size)
   obtain⟨bz,bF⟩:=Ak (λ(x:Kt)(z:Int)(bv:(x,z)∈M)=>x_ aF.o.nodup bi.o aY.o (HO.o i old bg.o) (λT hT=>m.ch (O.o.st.ok.ok m am.o) (O.o.st.bx.pre O.o.st.lk am.o).2.2 hT) bv) (show Ni N adr U fs V Ls olds' i av s.heap.size M [] (M.map Prod.fst) c (s.alloc o) from⟨O.o.st.J (Aj.alloc AA o),by rw[<-RH];exact aL.o,qe,λy w=>(by cases w),by rw[O.o.pr];simp[Ju]⟩);clear aL hR k1 D q1 q2 r0
   go_loopw [] (λwr=>∃(dn:List (List F × Int))(k:List Kt)(Y:List Ne),Ni N adr U fs V Ls olds' i av s.heap.size M dn k Y wr/\J Y wr) (λwr=>wr.rangeLeft av s.heap.size)
   case atStart=>exact⟨[],_,c,bF.o,J7.o⟩
   case round=>
    obtain⟨dn,k,Y,G,aJ⟩:=hrel;obtain⟨p,JI⟩:=Ak G aJ;rcases RU (P:=prog) G.rg 0 with⟨h0,hN⟩|⟨x,v,ob,w2,hx,a8,bG,hN,aj,hE⟩
    .have aq:=p.o.st.st i m old HM.o a7.o;obtain⟨p1,p2,p3⟩:=p.o.st.bx.pre p.o.st.lk am.o;obtain⟨D,aM,a5⟩:=AQ (V8 m aq) (mR m adr U (N.vw V fs) old wr aq (p.o.st.ok.ok m am.o) p.o.st.lk.inj p3) (show NY adr U old (Jv N adr V fs m) dn from rZ bi.o aY.o aF.o.nodup (by have:=p.o.pm;rwa [h0,yM]at this) p.o.ok);have q1:=λu=>Uf m u;have q2:=UJ m;rw[<-bB.o]at D aM;clear G aJ aq p1 p2 p3 h0;go_wp2_with fail;refine D.o.ac ?_;rintro e w8 ⟨rfl,bA⟩;subst bA;go_wp2_with fail;refine aM.o.ac ?_;rintro e w9 ⟨rfl,⟨K',bm,aO⟩,az,ak⟩;obtain⟨bC,J9⟩:=Ak (O.o.next HM.o bg.o a5.o bm (p.o.st.set HM.o aO az ak) p.o.pr (yi p.o.few bO) (by have h1:=ak.rest.size;have h2:=p.o.rg.dd;have h3:=O.o.sz;omega)) (HJ.o _ _ _ JI.o (Tn.aS ak (λg hg=>⟨m,am.o,hg⟩)));clear bm aO az ak D aM q1 q2;go_wp2_with fail;go_roundw
     case rel=>exact⟨i+1,_,_,_,ql,qd,bC.o,J9.o⟩
     case measure=>(simp[intOf];omega)
    have C:=SG (r:=s.heap.size) (o:=ob) bG;obtain⟨W2,bc⟩:∃W,W=ChangeMaps.setBlock w2 s.heap.size ob:=⟨_,rfl⟩
    rw[<-bc]at hN aj hE C;obtain⟨oi,bd,aA⟩:=G.rg.it;have aB:=C.ck G.rg.cD;obtain⟨J2,bK⟩:=Ak (HJ.o _ _ _ JI.o (Tn.dh C bd aA O.o.sz)) (p.o.st.er aB (Av.of (S:=λg=>g=s.heap.size) C rfl) (λm' aI y w e=>bI.o m' aI (e▸w)));obtain⟨z,hz,rfl⟩:∃z,(x,z)∈M/\v=I6 z:=by
     obtain⟨y,w,e⟩:=yz.1 a8;cases e;exact⟨y.2,w,rfl⟩
    obtain⟨T,a9,aR,aV,a6⟩:=bz.o x z hz;obtain⟨aZ,HZ,aK,aU,bw,HX⟩:=Hl a9 hz aR aV a6 hx;have bk:Y.length<=2000000000:=by
     have h1:=congrArg List.length p.o.pr;rw[yp,yR]at h1;have h2:(Ju i dn).length=dn.length:=by simp[Ju]
     have h3:=p.o.few;have h4:=O.o.few;have h5:i*2000000<=999*2000000:=YQ _ qd;omega
    have bh:=Aa aj;have bS:=G.rg.left;have bQ:=aj.left;have bM:=Aa (show(k.filter (λy=>decide (y≠x))).length<k.length from VO hx);obtain⟨x0,x1,x2⟩:=x;simp only[AU]at hN hE;clear G aJ aj C bd aA aB a8 a9 aR aV a6 hz hx bc;go_upto_region 6 with fail;refine Bt ?_;intro Z ay bj;obtain⟨t0,t1,t2⟩:=Ao bj;have J3:=Aa (HJ.o _ _ _ J2.o (Tn.ab ay));have bl:=Aa (bK.o.J ay);have bq:=Aa (bh.o.J ay);have aP:=Aa (show Ca 59 #[.agg #[.pointer x0,.pointer x1,.pointer x2]] Z (b_ (T.map (·.tag)) Z) from zmv x0 x1 x2 T Z (by
     have:=sI bl.o.bx.us.facts aU.o aK.o;rw[<-aZ.o]at this;exact this))
    have aS:=Aa (λ(H:Option Addr)(E:Nat)(R:World)(ho:R.ownsRow Z.heap.size 3 1 (.slice H (T.map (·.tag)).length E) (T.map (·.tag)).length (Am (T.map (·.tag))))(hb:Bw Z R)=>HY.o 5 Y ⟨⟨(i:Int),T.map (·.tag)⟩,.slice H (T.map (·.tag)).length E,z⟩ Z R J3.o hb ⟨bk,⟨H,E,rfl⟩,ho,by rw[yp];exact aK.o,bw.o⟩);clear ay bj hN hE;refine(wpIn_wide (n:=6)).1 ?_;gi_wp2;refine⟨trivial,((callsIn_wide (n:=5)).2 aP.o).ac ?_⟩;rintro e R ⟨⟨H,E,rfl,aQ⟩,aN⟩;obtain⟨fn,tm,bH,bL,w,hR⟩:=aS.o H E R aQ aN;have HR:=Aa hR;have bf:(Instr.yield l #[.agg #[I6 (i:Int),.slice H (T.map (·.tag)).length E],I6 z]).run prog R=.ok (.round l fn tm bH bL) R:=w;have bp:=Aa aN;obtain⟨nt,bn⟩:∃n,n=(T.map (·.tag)).length:=⟨_,rfl⟩
    rw[<-bn]at bf⊢;clear w hR aQ aN bn;gi_wp2;refine HR.o.ac ?_;rintro e I ⟨rfl,aX,hk⟩;have KW:=Aa ((KN.ab bp.o).j hk);obtain⟨a0,JW⟩:=Ak (show Ni N adr U fs V Ls olds' i av s.heap.size M (dn++[(T,z)]) (k.filter (λy=>decide (y≠(x0,x1,x2)))) (Y++[⟨⟨(i:Int),T.map (·.tag)⟩,.slice H (T.map (·.tag)).length E,z⟩]) I from p.o.step aZ.o HZ.o aK.o aU.o HX.o aF.o.nodup (bl.o.kn KW.o.toK0) (bq.o.kn KW.o ⟨m,am.o,bN⟩)) aX;have bP:=a0.o.rg.left;have bR:=bM.o;clear aX hk HR bf aS aP t0 t1 t2;gi_wp2;go_wp2_with fail;go_roundw
    case rel=>exact⟨_,_,_,a0.o,JW.o⟩
    case measure=>omega
  obtain rfl:i=N.Ms.length:=qd;have w:¬(N.Ms.length:Int)<(N.Ms.length:Int):=qd;go_wp2_with fail;refine bodyPost_end (results_none rfl _ _ _) rfl ⟨⟨_,rfl⟩,c,JR.o,O.o.fin⟩
end
def FL(r:Ru)(fs:List F):List (List F):=CX (Bz r.af [] 0) fs []
def gR{X:List Cx}{r:Ru}{fs vw}(O:X.map Cx.cp=Bz r.af [] 0)(e:∀c∈X,gV vw c=fs.filter (Ae c.cp.aq))(k):BV ((X.take k).map (Cv vw)) []=CX ((Bz r.af [] 0).take k) fs []:=by
 refine iI (fs:=fs) _ _ ?_ (λj c d a hd=>?_) []
 .rw[<-O,yp,<-List.map_take,yp]
 rw[<-O,<-List.map_take,yx]at hd;rw[yx]at a;obtain⟨x,b,rfl⟩:=Ya.1 a;rw[b]at hd;cases hd;exact⟨rfl,rfl,rfl,rfl,e x (Wa (yd b))⟩
def TS{X:List Cx}{r fs vw}(O:X.map Cx.cp=Bz r.af [] 0)(a:∀c∈X,gV vw c=fs.filter (Ae c.cp.aq)):BV (X.map (Cv vw)) []=FL r fs:=by
 have h:=gR O a X.length;rw[yW,yu (by rw[<-O];simp)]at h;exact h
def Z9{vw}:∀(X:List Cx)(TT:List (List F)),(Fs vw X TT).map List.length=(List.range (X.length+1)).map λk=>(TT.flatMap (BV ((X.take k).map (Cv vw)))).length
 |[],TT=>by
  have e:TT.flatMap (BV (([]:List Cx).map (Cv vw)))=TT:=by
   exact Td
  simp only[Fs,yn,YF,YV,Yt,List.range_one,List.take_nil];rw[<-YF (f:=Cv vw),e]
 |c::X,TT=>by
  rw[Fs,yn,Z9 X,yH,show List.range (X.length+1+1)=0::(List.range (X.length+1)).map Nat.succ from List.range_succ_eq_map,yn,Yp];congr 1
  .have e:TT.flatMap (BV (((c::X).take 0).map (Cv vw)))=TT:=by
    simp only[Y7,YF,BV];exact List.flatMap_singleton' TT
   rw[e]
  refine Yn λk _=>?_;show _=(TT.flatMap (BV (((c::X).take (k+1)).map (Cv vw)))).length;rw[YG,<-PK]
def Im(d:Int)(r:Ru)(fs:List F):Int:=if d=0 then((AS r.af fs [⟨[],[]⟩] 0).2:Int) else((FL r fs).length:Int)
def X_{m:MK}{r fs vw d}(f:Fu r.af [] 0)(Y:m.X.map Cx.cp=Bz r.af [] 0)(a:∀c∈m.X,gV vw c=fs.filter (Ae c.cp.aq))(hd:m.bg d):m.sz vw=Im d r fs:=by
 cases m with
 |inl b=>
  obtain⟨R,c⟩:=b;have O:d=0:=hd;subst O;simp only[MK.X]at Y a;show N_ vw R.X=_;rw[Im,if_pos rfl,yc f,N_,Z9,List.range_succ_eq_map,yn,YN,Yp];have hl:R.X.length=r.af.length:=by
   have:=congrArg List.length Y;rw[yp,SC]at this;exact this
  have e:((List.range R.X.length).map ((λk=>(([[]]:List (List F)).flatMap (BV ((R.X.take k).map (Cv vw)))).length)∘Nat.succ))=(List.range r.af.length).map λj=>(CX ((Bz r.af [] 0).take (j+1)) fs []).length:=by
   rw[hl];refine Yn λk _=>?_;show(([[]]:List (List F)).flatMap (BV ((R.X.take (k+1)).map (Cv vw)))).length=_;rw[yE,YO,yM,gR Y a]
  rw[e];simp only[Y7,YF,BV,yE,YO,yM,yH,YV];omega
 |inr t=>
  have O:d=1:=hd;subst O;simp only[MK.X]at Y a;show((BV (t.X.map (Cv vw)) []).length:Int)=_;rw[Im,if_neg qh,TS Y a]
/-! ### In order -/
def gD:∀(A B C:List Int){x y:Int},x<y->Az (A++x::B) (A++y::C)<0
 |[],B,C,x,y,h=>by
  rcases Fr x y with⟨p,q⟩|⟨p,q⟩|⟨p,q⟩
  .simp[Az,q]
  .omega
  .omega
 |a::A,B,C,x,y,h=>by
  have O:=gD A B C h
  rcases Fr a a with⟨p,q⟩|⟨p,q⟩|⟨p,q⟩
  .omega
  .omega
  simpa[Az,q] using O
def Ow{fs}:∀(O:List Cp)(T V:List F),V∈CX O fs T->∃W,V=T++W/\∀f∈W,f∈fs
 |[],T,V,h=>by
  simp only[CX,yv]at h
  exact⟨[],by simp[h],λf b=>by cases b⟩
 |d::O,T,V,h=>by
  simp only[CX]at h
  split at h
  .split at h
   .simp at h
   exact Ow O T V h
  obtain⟨f,b,i⟩:=Yk.1 h
  obtain⟨W,e,c⟩:=Ow O (T++[f]) V i
  refine⟨f::W,by simp[e],λg a=>?_⟩
  rcases yO.1 a with rfl|a
  .exact(yg.1 b).1
  exact c g a
def UL{fs}(a:fs.Pairwise λf g=>f.tag<g.tag):∀(O:List Cp)(T:List F),(CX O fs T).Pairwise λA B=>Az (A.map (·.tag)) (B.map (·.tag))<0
 |[],T=>WR _ _
 |d::O,T=>by
  simp only[CX]
  split
  .split
   .exact List.Pairwise.nil
   exact UL a O T
  rw[Wi]
  refine⟨λf _=>UL a O _,?_⟩
  refine(a.filter _).imp λ{f g}Y A e B i=>?_
  obtain⟨W,c,_⟩:=Ow O _ _ e
  obtain⟨Z,b,_⟩:=Ow O _ _ i
  rw[c,b]
  simp only[Yc,yJ,yn,List.singleton_append]
  exact gD _ _ _ Y
def PF:∀{fs:List F}{last:Int},BO last fs=true->fs.Pairwise λf g=>f.tag<g.tag
 |[],_,_=>List.Pairwise.nil
 |f::r,last,h=>by
  have O:=h
  simp only[BO,yk]at O
  exact WT.2 ⟨λg a=>PH O.2 g a,PF O.2⟩
def gX{fs rs}(a:∀r∈rs,Fu r.af [] 0):∀i,Cs fs i rs=(rs.zipIdx i).flatMap λy=>(FL y.1 fs).map λT=>(⟨(y.2:Int),T.map (·.tag)⟩:It):=by
 induction rs with
 |nil=>intro i;rfl
 |cons r rs O=>
  intro i;rw[Cs,O (λq b=>a q (by simp[b])),Ry (a r qe),List.zipIdx_cons,yE,Yp];rfl
def Vd{fs rs}(d:∀r∈rs,Fu r.af [] 0){x}:x∈Cs fs 0 rs↔∃(i:Nat)(r:Ru)(T:List F),rs[i]?=some r/\T∈FL r fs/\x=⟨(i:Int),T.map (·.tag)⟩:=by
 rw[gX d,Yk];constructor
 .rintro⟨⟨r,i⟩,e,c⟩;obtain⟨T,a,rfl⟩:=yz.1 c;refine⟨i,r,T,?_,a,rfl⟩;have:=K5.1 e;exact this
 rintro⟨i,r,T,b,a,rfl⟩;exact⟨(r,i),K5.2 b,yz.2 ⟨T,a,rfl⟩⟩
def vG{x y}(h:x.au<y.au):BJ x y<0:=by
 rw[Oj];rcases Fr x.au y.au with⟨p,q⟩|⟨p,q⟩|⟨p,q⟩
 .rw[q,if_neg qh];decide
 .omega
 omega
def vT{i a b}(h:Az a b<0):BJ ⟨i,a⟩ ⟨i,b⟩<0:=by
 rw[Oj];rcases Fr i i with⟨p,q⟩|⟨p,q⟩|⟨p,q⟩
 .omega
 .omega
 rw[if_pos q];exact h
def U2{fs}(d:fs.Pairwise λf g=>f.tag<g.tag):∀{rs:List Ru}(_:∀r∈rs,Fu r.af [] 0)(i:Nat),(Cs fs i rs).Pairwise λx y=>BJ x y<0:=by
 intro rs
 induction rs with
 |nil=>intro _ i;exact List.Pairwise.nil
 |cons r rs O=>
  intro c i;rw[Cs,Ry (c r qe),Yp];refine Yy.2 ⟨?_,O (λq b=>c q (by simp[b])) (i+1),λx e y a=>?_⟩
  .rw[Y1];exact(UL d _ _).imp λh=>vT h
  obtain⟨T,_,rfl⟩:=yz.1 e;rw[gX (λq b=>c q (by simp[b]))]at a;obtain⟨⟨q,j⟩,hj,a⟩:=Yk.1 a;obtain⟨Z,_,rfl⟩:=yz.1 a;have:=List.le_snd_of_mem_zipIdx hj;refine vG ?_;show(i:Int)<((j:Nat):Int);simp only at this;omega
def sD{A B}(a:Fh A)(b:Fh B)(c:A.Perm B):A=B:=by
 refine List.Perm.eq_of_pairwise (λx y _ _ e d=>?_) a b c;have:=N5.swap x y;exact RV qd
def iV{A}(h:A.Pairwise λx y=>BJ x y<0):A.Nodup/\Fh A:=⟨h.imp λ{x y}q e=>by
 subst e;have:=N5.swap x x;omega,h.imp λq=>qd⟩
def jG{A B}(b:Fh A)(Y:A.Nodup)(a:Fh B)(O:B.Nodup)(h:∀x,x∈A↔x∈B):A=B:=sD b a ((WY Y O).2 h)
section
open Go.Maps
attribute [local go_sem ↓] wp_at_zero wp_at_succ
structure Jc(W:World) (b pb qb:Nat) (P Q:List Eh) (a:Option Addr) (c:Nat) (a':Option Addr) (c':Nat):Prop where
 p:W.heap[pb]?=some (.cells #[.slice a P.length c] 36 (0,0))
 q:W.heap[qb]?=some (.cells #[.slice a' Q.length c'] 36 (0,0))
 ip:Iw W b b a c P
 iq:Iw W b b a' c' Q
 ap:AL (.slice a P.length c) (.slice a' Q.length c')
def Jc.swap{W b pb e P Q a c d f}(h:Jc W b pb e P Q a c d f):Jc W b e pb Q P d f a c:=⟨h.q,h.p,h.iq,h.ip,λg j i=>h.ap g i j⟩
def Iw.aQ{w w' e base a c L}(h:Iw w e base a c L)(i:∀(k:Nat)c t,(t=45∨t=3)->e<=k∨base<=k->w.heap[k]?=some (.cells c t (0,0))->w'.heap[k]?=w.heap[k]?):Iw w' e base a c L:=
 ⟨BZ h.row (λg b=>by
  obtain⟨c,f⟩:=A8 h.row b
  exact i g c _ (.inl rfl) (.inl (h.row.lt g b).1) f),λx d=>⟨(h.all x d).ts,BZ (h.all x d).ot (λg b=>by
  obtain⟨c,f⟩:=A8 (h.all x d).ot b
  exact i g c _ (.inr rfl) (.inr ((h.all x d).ot.lt g b).1) f)⟩⟩
def Jc.keep{W i b pb f P Q a c g l}(h:Jc W b pb f P Q a c g l)(n:b<=pb)(m:b<=f)(d:∀(k:Nat)c t,b<=k->W.heap[k]?=some (.cells c t (0,0))->i.heap[k]?=W.heap[k]?):Jc i b pb f P Q a c g l:=
 ⟨(d _ _ _ n h.p).j h.p,(d _ _ _ m h.q).j h.q,h.ip.aQ λk c t _ hb e=>d k c t qX e,h.iq.aQ λk c t _ hb e=>d k c t qX e,h.ap⟩
def Jc.add{W o d r b pb u P Q a c s A x m n}(h:Jc W b pb u P Q a c s A)(w:pb≠u)(I:Gs W b x)(i:Bw W o)(M:d.ownsRow b 45 2 (.slice m (P.length+1) n) (P.length+1) (P.flatMap Dk++Dk x))(l:o.grownBy d (Value.slice a P.length c).ownBlock)(hl:(Value.slice m (P.length+1) n).ownBlock=(Value.slice a P.length c).ownBlock∨(Value.slice m (P.length+1) n).ownBlock=some o.heap.size)(R:r.heap[pb]?=some (.cells #[.slice m (P.length+1) n] 36 (0,0)))(E:Turned d r pb):Jc r b pb u (P++[x]) Q m n s A:=by
 have D:=h.ip.ar i;have v:=h.iq.ar i;have N:=Iw.snoc D (I.ar i) M l;have Y:∀k,(Value.slice a P.length c).ownBlock=some k->∃c,o.heap[k]?=some (.cells c 45 (0,0)):=λk f=>A8 D.row f;have J:=(i.block _ (As h.p)).j h.p;have G:=(i.block _ (As h.q)).j h.q;have K:d.heap[pb]?=some (.cells #[.slice a P.length c] 36 (0,0)):=Gq J l Y qh;have tys:∀(k:Nat)c t,(t=45∨t=3)->d.heap[k]?=some (.cells c t (0,0))->r.heap[k]?=d.heap[k]?:=λk c t O f=>E.block k λe=>by
  subst e;exact CB f K (by rcases O with rfl|rfl<;>decide)
 have H:Iw d b b s A Q:=⟨BZ v.row (λg B=>l.block g (v.row.lt g B).2 (λe=>h.ap g e.ai B)),λy L=>(v.all y L).grown l Y qh⟩
 refine⟨by simpa using R,(E.block _ (λe=>w e.ai)).j (Gq G l Y qh),?_,?_,?_⟩
 .exact N.aQ λk c t O _ f=>tys k c t O f
 .exact H.aQ λk c t O _ f=>tys k c t O f
 intro g z C;have T:=(h.iq.row.lt g C).2;rw[yR]at z;rcases hl with hl|hl
 .exact h.ap g (hl.ai.j z) C
 have e:=hl.ai.j z;injection e with e;have:=i.size;omega
def Z5{S W z q g pb v n xs b C}(d:Bw W z)(p:z.ownsRow b 45 2 v n xs)(i:z.grownBy q v.ownBlock)(B:q.heap[pb]?=some (.cells C 36 (0,0)))(u:Turned q g pb):KN S W g/\(∀(k:Nat)(o:Obj),W.heap[k]?=some o->El o=true->g.heap[k]?=some o)/\W.heap.size<=g.heap.size/\∀(k:Nat)(o:Obj),W.heap[k]?=some o->k<b->k≠pb->g.heap[k]?=some o:=by
 have key:∀(k:Nat)(o:Obj),W.heap[k]?=some o->k≠pb->v.ownBlock≠some k->g.heap[k]?=some o:=λk o a A w=>by
  have hl:=(ym.1 a).1;rw[u.block k A,i.block k (yh hl d.size) (λe=>w e.ai),d.block k hl];exact a
 have x:∀(k:Nat)(o:Obj),W.heap[k]?=some o->(∀c t s,o≠.cells c t s)->g.heap[k]?=some o:=λk o a l=>by
  have hl:=(ym.1 a).1;have Y:=(d.block k hl).j a;refine key k o a (λe=>?_) (λe=>?_)
  .subst e;have O:q.heap[k]?=some o:=(i.block k (yh hl d.size) (λe=>by
    obtain⟨c,f⟩:=A8 p e.ai;rw[Y]at f;injection f with f;exact l _ _ _ f)).j Y
   rw[B]at O;injection O with O;exact l _ _ _ O.ai
  obtain⟨c,f⟩:=A8 p e;rw[Y]at f;injection f with f;exact l _ _ _ f
 have r:W.heap.size<=g.heap.size:=by
  have A:=d.size;have w:=i.size;have E:=u.size;omega
 refine⟨⟨⟨⟨u.os.j (i.os.j d.os),u.tape.j (i.tape.j d.tape),u.output.j (i.output.j d.output),r,λk a=>absurd a qd⟩,λk c t s a y=>?_,λk es G a _=>x k _ a (λ_ _ _ e=>qp)⟩,λk o a l=>x k o a (λc t s e=>by subst e;cases l)⟩,λk o a l=>x k o a (λc t s e=>by subst e;cases l),r,λk o a A w=>key k o a w (λe=>by have:=(p.lt k e).1;omega)⟩;have hl:=As a;have Y:=(d.block k hl).j a;refine key k _ a (λe=>?_) (λe=>?_)
 .subst e;have O:q.heap[k]?=some (.cells c t s):=(i.block k (yh hl d.size) (λe=>by
   obtain⟨D,m⟩:=A8 p e.ai;rw[Y]at m;cases m;revert y
   decide)).j Y
  rw[B]at O;cases O;revert y
  decide
 obtain⟨D,m⟩:=A8 p e;rw[Y]at m;cases m;revert y
 decide
def ib{S W f b v n xs}(i:W.ownsRow b 45 2 v n xs)(d:W.grownBy f v.ownBlock):KN S W f/\(∀(k:Nat)(o:Obj),W.heap[k]?=some o->(∀c,o≠.cells c 45 (0,0))->f.heap[k]?=some o)/\∀(k:Nat)(o:Obj),W.heap[k]?=some o->k<b->f.heap[k]?=some o:=by
 have key:∀(k:Nat)(o:Obj),W.heap[k]?=some o->(∀c,o≠.cells c 45 (0,0))->f.heap[k]?=some o:=λk o a O=>(d.block k (ym.1 a).1 (λe=>by
  obtain⟨c,g⟩:=A8 i e.ai;rw[a]at g;injection g with g;exact O _ g)).j a
 refine⟨⟨⟨⟨d.os,d.tape,d.output,d.size,λk a=>absurd a qd⟩,λk c t m a hn=>key k _ a (λl e=>Tz),λk es q a _=>key k _ a (λl e=>qp)⟩,λk o a O=>key k o a (λl e=>by subst e;cases O)⟩,key,λk o a p=>(d.block k (ym.1 a).1 (λe=>by have:=(i.lt k e.ai).1;omega)).j a⟩
def jM{S W d pb Y}(b:W.heap[pb]?=some (.cells Y 36 (0,0)))(f:Turned W d pb):KN S W d/\∀(k:Nat)(o:Obj),W.heap[k]?=some o->(∀c,o≠.cells c 36 (0,0))->d.heap[k]?=some o:=by
 have key:∀(k:Nat)(o:Obj),W.heap[k]?=some o->(∀c,o≠.cells c 36 (0,0))->d.heap[k]?=some o:=λk o a O=>(f.block k (λe=>by
  subst e;rw[a]at b;injection b with b;exact O _ b)).j a
 exact⟨⟨⟨f.J (yA _),λk c t i a hn=>key k _ a (λg e=>Tz),λk es l a _=>key k _ a (λg e=>qp)⟩,λk o a O=>key k o a (λg e=>by subst e;cases O)⟩,key⟩
def Dh(xs:List Ne):List Eh:=(xs.filter λe=>decide (e.sg=1)).map λe=>(e.it,e.sl)
def CZ(xs:List Ne):List Eh:=(xs.filter λe=>!decide (e.sg=1)).map λe=>(e.it,e.sl)
def kJ{xs x}(h:x.sg=1):Dh (xs++[x])=Dh xs++[(x.it,x.sl)]/\CZ (xs++[x])=CZ xs:=by
 unfold Dh CZ;rw[yQ,yQ];simp[h]
def ie{xs x}(h:x.sg≠1):Dh (xs++[x])=Dh xs/\CZ (xs++[x])=CZ xs++[(x.it,x.sl)]:=by
 unfold Dh CZ;rw[yQ,yQ];simp[h]
def jy{xs y}(h:y∈Dh xs∨y∈CZ xs):∃e∈xs,y=(e.it,e.sl):=by
 rcases h with h|h<;>obtain⟨e,a,rfl⟩:=yz.1 h<;>exact⟨e,(yg.1 a).1,rfl⟩
def jR(xs):(Dh xs).length<=xs.length/\(CZ xs).length<=xs.length:=by
 unfold Dh CZ;simp only[yp];exact⟨Yd _ _,Yd _ _⟩
structure Lb(N:NT) (w0:World) (ab db:Nat) (xs:List Ne) (W:World):Prop where
 ex:∃a c a' c',Jc W w0.heap.size ab db (Dh xs) (CZ xs) a c a' c'
 ap:xs.Pairwise λx y=>AL x.sl y.sl
 l3:∀x∈xs,x.it.al.length<=3
 fr:Av N.Sm w0 W
def Lb.tn{N w0 b e d xs A B}(h:Lb N w0 b e xs A)(f:Tn N.Sm El d A B)(hS:∀g,N.Sm g->g<w0.heap.size)(hd:w0.heap.size<=d)(O:w0.heap.size<=b)(u:w0.heap.size<=e):Lb N w0 b e xs B:=by
 obtain⟨a,c,s,v,r⟩:=h.ex;refine⟨⟨a,c,s,v,r.keep O u λk cs t x o=>(f.block k _ o (λq=>by have:=hS k q;omega) (.inl rfl)).j o.ai⟩,h.ap,h.l3,⟨h.fr.rest.j f.rest,λg n p=>?_⟩⟩;have hl:g<A.heap.size:=yh n h.fr.rest.size;have m:A.heap[g]?=some A.heap[g]:=K2;rw[f.block g _ m p (.inr qd),<-m];exact h.fr.block g n p
structure Mv(N:NT) (w0:World) (ab db:Nat) (xs:List Ne) (x:Ne) (W:World):Prop where
 i:Lb N w0 ab db xs W
 p:Gs W w0.heap.size (x.it,x.sl)
 ap:∀y∈xs,AL y.sl x.sl
 l3:x.it.al.length<=3
 few:xs.length<=2000000000
 sg:x.sg=1∨x.sg = -1
def Mv.tn{N w0 b e d xs x A B}(h:Mv N w0 b e xs x A)(k:Tn (λ_=>False) El d A B)(hS:∀g,N.Sm g->g<w0.heap.size)(hd:w0.heap.size<=d)(O:w0.heap.size<=b)(n:w0.heap.size<=e):Mv N w0 b e xs x B:=
 ⟨h.i.tn (k.ac (λ_ q=>q.elim) (λ_ q=>q) AA) hS hd O n,⟨h.p.ts,BZ h.p.ot λg m=>by
  obtain⟨c,f⟩:=A8 h.p.ot m
  rw[k.block g _ f (λq=>q) (.inl rfl),f]⟩,h.ap,h.l3,h.few,h.sg⟩
def Lb.hand{N w0 f k xs x A B}(h:Lb N w0 f k xs A)(C:Bw A B)(m:ZD xs x A B)(hS:∀g,N.Sm g->g<w0.heap.size)(r:w0.heap.size<=f)(hd:w0.heap.size<=k):Mv N w0 f k xs x B:=by
 obtain⟨u,v,o,z,s⟩:=m;have b:=h.fr.rest.size;refine⟨h.tn (d:=w0.heap.size) (Tn.ab C) hS AA r hd,⟨v,DT o b⟩,λy p g n Y=>?_,z,u,s⟩;have D:=(o.lt g Y).1;obtain⟨a,c,E,G,t⟩:=h.ex;have O:(y.it,y.sl)∈Dh xs∨(y.it,y.sl)∈CZ xs:=by
  by_cases e:y.sg=1
  .exact .inl (yz.2 ⟨y,yg.2 ⟨p,by simp[e]⟩,rfl⟩)
  exact .inr (yz.2 ⟨y,yg.2 ⟨p,by simp[e]⟩,rfl⟩)
 rcases O with q|q
 .have:=((t.ip.all _ q).ot.lt g n).2;omega
 have:=((t.iq.all _ q).ot.lt g n).2;omega
end
def GL(L:List It)(x:It):Bool:=L.any λy=>decide (BJ x y=0)
def UQ(x):BJ x x=0:=by
 have:=N5.swap x x;omega
def i_{L x}:GL L x=true↔x∈L:=by
 unfold GL;rw[Ka];constructor
 .rintro⟨y,a,h⟩;rw[RV (of_decide_eq_true h)];exact a
 intro h;exact⟨x,h,by simp[UQ]⟩
def FM(A B:List It):List It:=A.filter λx=>!GL B x
def kd{A B x}:x∈FM A B↔x∈A/\x ∉ B:=by
 unfold FM;rw[yg];refine and_congr_right λ_=>?_;rw[WI,<-Bool.not_eq_true,i_]
def UZ{U:List F}(d:∀f∈U,∀g∈U,f.tag=g.tag->f=g):∀{A B:List F},(∀f∈A,f∈U)->(∀f∈B,f∈U)->A.map (·.tag)=B.map (·.tag)->A=B
 |[],[],_,_,_=>rfl
 |[],_::_,_,_,h=>by simp at h
 |_::_,[],_,_,h=>by simp at h
 |a::A,b::B,hA,hB,h=>by
  simp only[yn,Yh]at h
  rw[d a (hA a (by simp)) b (hB b (by simp)) h.1,UZ d (λf c=>hA f (by simp[c])) (λf c=>hB f (by simp[c])) h.2]
structure Q8(adr:F->Addr) (U:List F) (rs:List Ru) (fs0 fs1:List F) (Ls:List (List (List F × Int))):Prop where
 inj:Bm adr U
 tg:∀f∈U,∀g∈U,f.tag=g.tag->f=g
 len:Ls.length=rs.length
 each:∀(i:Nat)(r:Ru)(L:List (List F × Int)),rs[i]?=some r->Ls[i]?=some L->∃old now,NY adr U old now L/\old.Perm ((FL r fs0).map (Ab adr))/\now.Perm ((FL r fs1).map (Ab adr))
 ci:∀r∈rs,∀T∈FL r fs0,T.length<=3/\∀f∈T,f∈U
 cj:∀r∈rs,∀T∈FL r fs1,T.length<=3/\∀f∈T,f∈U
def gJ{adr U}(b:Bm adr U){E:List (List F)}(a:∀T∈E,T.length<=3/\∀f∈T,f∈U){T}(d:T.length<=3)(c:∀f∈T,f∈U):Ab adr T∈E.map (Ab adr)↔T∈E:=by
 rw[yz];constructor
 .rintro⟨Y,O,e⟩;rw[<-IW b (a Y O).2 c (a Y O).1 d e];exact O
 intro h;exact⟨T,h,rfl⟩
def Rr{adr U}{Y i:List (List F)}{old a L}(p:Bm adr U)(h:NY adr U old a L)(A:old.Perm (Y.map (Ab adr)))(x:a.Perm (i.map (Ab adr)))(n:∀T∈Y,T.length<=3/\∀f∈T,f∈U)(o:∀T∈i,T.length<=3/\∀f∈T,f∈U)(T):((T,(1:Int))∈L↔T∈i/\T ∉ Y)/\((T,(-1:Int))∈L↔T∈Y/\T ∉ i):=by
 have key:∀T,T.length<=3->(∀f∈T,f∈U)->(Ab adr T∈a↔T∈i)/\(Ab adr T∈old↔T∈Y):=λT m l=>⟨by rw[x.mem_iff];exact gJ p o m l,by rw[A.mem_iff];exact gJ p n m l⟩
 have u:∀z,(T,z)∈L->z=BK (Ab adr T) a-BK (Ab adr T) old/\(Ab adr T∈a↔T∈i)/\(Ab adr T∈old↔T∈Y):=λz c=>by
  obtain⟨m,l,e,_⟩:=h.ok _ c;exact⟨e,key T m l⟩
 have w:(T∈i∨T∈Y)->BK (Ab adr T) a-BK (Ab adr T) old≠0->(T,BK (Ab adr T) a-BK (Ab adr T) old)∈L:=λD c=>by
  have t:T.length<=3/\∀f∈T,f∈U:=by
   rcases D with q|q
   .exact o T q
   exact n T q
  obtain⟨y,v,e⟩:=h.all _ c;obtain⟨B,C,s,_⟩:=h.ok y v;have r:y.1=T:=IW p C t.2 B t.1 e;rw[e]at s;rw[<-r,r,<-s];have:y=(y.1,y.2):=rfl;rw[<-r];exact v
 constructor
 .constructor
  .intro c;obtain⟨e,d,g⟩:=u 1 c;by_cases b:Ab adr T∈a<;>by_cases O:Ab adr T∈old
   .rw[JU b,JU O]at e;omega
   .exact⟨d.1 b,λq=>O (g.2 q)⟩
   .rw[Hw b,JU O]at e;omega
   rw[Hw b,Hw O]at e;omega
  rintro⟨k,j⟩;obtain⟨d,g⟩:=key T (o T k).1 (o T k).2;have e:BK (Ab adr T) a-BK (Ab adr T) old=1:=by rw[JU (d.2 k),Hw (λq=>j (g.1 q))];rfl
  have:=w (.inl k) qd;rwa [e]at this
 constructor
 .intro c;obtain⟨e,d,g⟩:=u (-1) c;by_cases b:Ab adr T∈a<;>by_cases O:Ab adr T∈old
  .rw[JU b,JU O]at e;omega
  .rw[JU b,Hw O]at e;omega
  .exact⟨g.1 O,λq=>b (d.2 q)⟩
  rw[Hw b,Hw O]at e;omega
 rintro⟨j,k⟩;obtain⟨d,g⟩:=key T (n T j).1 (n T j).2;have e:BK (Ab adr T) a-BK (Ab adr T) old = -1:=by rw[Hw (λq=>k (d.1 q)),JU (g.2 j)];rfl
 have:=w (.inr j) qd;rwa [e]at this
def RI{x z}:∀(k:Nat)(c:List (List (List F × Int))),(x,z)∈F6 k c↔∃(i:Nat)(L:List (List F × Int))(T:List F),c[i]?=some L/\(T,z)∈L/\x=⟨((k+i:Nat):Int),T.map (·.tag)⟩
 |_,[]=>by simp[F6]
 |k,L::r=>by
  rw[F6,yr,RI (k+1) r]
  constructor
  .rintro(h|⟨i,M,T,h1,b,a⟩)
   .obtain⟨y,d,e⟩:=yz.1 h
    cases e
    exact⟨0,L,y.1,rfl,d,rfl⟩
   exact⟨i+1,M,T,qt,b,by rw[a,show k+1+i=k+(i+1) by omega]⟩
  rintro⟨i,M,T,h1,b,a⟩
  cases i with
  |zero=>
   simp only[yC,Y5]at h1
   subst h1
   exact .inl (yz.2 ⟨(T,z),b,by rw[a];rfl⟩)
  |succ i=>exact .inr ⟨i,M,T,qt,b,by rw[a,show k+1+i=k+(i+1) by omega]⟩
def jX{adr}{U:List F}(j:∀f∈U,∀g∈U,f.tag=g.tag->f=g):∀(k:Nat)(l:List (List (List F × Int))),(∀L∈l,(L.map (λy=>Ab adr y.1)).Nodup/\∀y∈L,∀f∈y.1,f∈U)->((F6 k l).map Prod.fst).Nodup
 |_,[],_=>by simp[F6]
 |k,L::r,h=>by
  obtain⟨u,m⟩:=h L qe
  rw[F6,yJ]
  refine yP.2 ⟨?_,jX j (k+1) r (λM n=>h M (by simp[n])),λx p y c e=>?_⟩
  .unfold Ju
   rw[Yp]
   have t:L.Pairwise λy z=>Ab adr y.1≠Ab adr z.1:=Y1.1 u
   refine Y1.2 (t.imp_of_mem λ{y z}c s a e=>a ?_)
   simp only[Function.comp_apply,It.mk.injEq,true_and]at e
   rw[UZ j (m y c) (m z s) e]
  obtain⟨⟨x',z⟩,Y,rfl⟩:=yz.1 p
  obtain⟨⟨v,w⟩,O,rfl⟩:=yz.1 c
  obtain⟨q,_,d⟩:=yz.1 Y
  obtain⟨i,M,T,_,_,b⟩:=(RI (k+1) r).1 O
  simp only[YW]at d
  have o:x'=v:=e
  rw[<-o,<-d.1]at b
  simp only[It.mk.injEq]at b
  have:=b.1
  omega
def ni(h:P:=by rintro⟨e,he,h2⟩;simp only[GG,YW]at h2;exact⟨e,yg.2 ⟨he,by simp[h2.2]⟩,h2.1⟩):=h
def tl{adr U rs b c o xs}{P Q:List Eh}(h:Q8 adr U rs b c o)(I:xs.map GG=F6 0 o)(v:∀r∈rs,Fu r.af [] 0)(s0:b.Pairwise λf g=>f.tag<g.tag)(W:c.Pairwise λf g=>f.tag<g.tag)(M:P.Perm (Dh xs))(G:Q.Perm (CZ xs))(am:Fh (P.map Prod.fst))(ai:Fh (Q.map Prod.fst))(ak:∀e∈xs,e.sg=1∨e.sg = -1) :
  P.map Prod.fst=FM (Cs c 0 rs) (Cs b 0 rs)/\Q.map Prod.fst=FM (Cs b 0 rs) (Cs c 0 rs):=by
 have J:((xs.map GG).map Prod.fst).Nodup:=by
  rw[I];refine jX (adr:=adr) h.tg 0 o λL d=>?_;obtain⟨i,K⟩:=YD d;have u:=(yf.1 K).1;obtain⟨r,a⟩:∃r,rs[i]?=some r:=⟨rs[i]'(by rw[<-h.len];exact u),qe⟩
  obtain⟨old,m,q,_,_⟩:=h.each i r L a K;exact⟨q.nd,λy hy=>(q.ok y hy).2.1⟩
 have aj:(xs.map GG).map Prod.fst=xs.map Ne.it:=by rw[Yp];rfl
 rw[aj]at J;have sub:∀(p:Ne->Bool),(((xs.filter p).map λe=>(e.it,e.sl)).map Prod.fst).Nodup:=λp=>by
  rw[Yp];exact J.sublist ((YH (p:=p)).map _)
 have mem:∀(x:It)(z:Int),(x,z)∈xs.map GG↔∃(i:Nat)(r:Ru)(L:List (List F × Int))(T:List F),rs[i]?=some r/\o[i]?=some L/\(T,z)∈L/\x=⟨(i:Int),T.map (·.tag)⟩:=λx z=>by
  rw[I,RI];constructor
  .rintro⟨i,L,T,n,h2,B⟩;have u:=(yf.1 n).1;exact⟨i,rs[i]'(by rw[<-h.len];exact u),L,T,qe,n,h2,by rw[B,Yt]⟩
  rintro⟨i,r,L,T,_,n,h2,B⟩;exact⟨i,L,T,n,h2,by rw[B,Yt]⟩
 have adds:∀x,x∈(Dh xs).map Prod.fst↔(x,(1:Int))∈xs.map GG:=λx=>by
  unfold Dh;rw[Yp,yz,yz];constructor
  .rintro⟨e,he,rfl⟩;obtain⟨n,h2⟩:=yg.1 he;exact⟨e,n,by simp only[GG,of_decide_eq_true h2];rfl⟩
  exact ni
 have drops:∀x,x∈(CZ xs).map Prod.fst↔(x,(-1:Int))∈xs.map GG:=λx=>by
  unfold CZ;rw[Yp,yz,yz];constructor
  .rintro⟨e,he,rfl⟩;obtain⟨n,h2⟩:=yg.1 he;rcases ak e n with q|q
   .simp[q]at h2
   exact⟨e,n,by simp only[GG,q];rfl⟩
  exact ni
 have Y:∀{i:Nat}{r:Ru}{T:List F}{fs:List F},rs[i]?=some r->(∀r∈rs,∀T∈FL r fs,T.length<=3/\∀f∈T,f∈U)->(∀f∈T,f∈U)->((⟨(i:Int),T.map (·.tag)⟩:It)∈Cs fs 0 rs↔T∈FL r fs):=λ{i r T fs}a C k=>by
  rw[Vd v];constructor
  .rintro⟨j,q,Z,H,R,e⟩;simp only[It.mk.injEq]at e;have ao:j=i:=by have:=e.1;omega
   subst ao;rw[a]at H;cases H;rw[UZ h.tg k (C r (yd a) Z R).2 e.2];exact R
  intro aq;exact⟨i,r,T,a,aq,rfl⟩
 have N:∀x,((x,(1:Int))∈xs.map GG↔x∈Cs c 0 rs/\x ∉ Cs b 0 rs)/\((x,(-1:Int))∈xs.map GG↔x∈Cs b 0 rs/\x ∉ Cs c 0 rs):=λx=>by
  constructor
  .rw[mem];constructor
   .rintro⟨i,r,L,T,a,d,k,rfl⟩;obtain⟨old,m,q,t,s⟩:=h.each i r L a d;have O:=yd a;obtain⟨A,w⟩:=(Rr h.inj q t s (h.ci r O) (h.cj r O) T).1.1 k;have l:=(h.cj r O T A).2;exact⟨(Y a h.cj l).2 A,λz=>w ((Y a h.ci l).1 z)⟩
   rintro⟨E,D⟩;obtain⟨i,r,T,a,k,rfl⟩:=(Vd v).1 E;have O:=yd a;have l:=(h.cj r O T k).2;obtain⟨L,d⟩:∃L,o[i]?=some L:=⟨o[i]'(by rw[h.len];exact(yf.1 a).1),qe⟩
   obtain⟨old,m,q,t,s⟩:=h.each i r L a d;exact⟨i,r,L,T,a,d,(Rr h.inj q t s (h.ci r O) (h.cj r O) T).1.2 ⟨k,λz=>D ((Y a h.ci l).2 z)⟩,rfl⟩
  rw[mem];constructor
  .rintro⟨i,r,L,T,a,d,k,rfl⟩;obtain⟨old,m,q,t,s⟩:=h.each i r L a d;have O:=yd a;obtain⟨w,A⟩:=(Rr h.inj q t s (h.ci r O) (h.cj r O) T).2.1 k;have l:=(h.ci r O T w).2;exact⟨(Y a h.ci l).2 w,λz=>A ((Y a h.cj l).1 z)⟩
  rintro⟨D,E⟩;obtain⟨i,r,T,a,k,rfl⟩:=(Vd v).1 D;have O:=yd a;have l:=(h.ci r O T k).2;obtain⟨L,d⟩:∃L,o[i]?=some L:=⟨o[i]'(by rw[h.len];exact(yf.1 a).1),qe⟩
  obtain⟨old,m,q,t,s⟩:=h.each i r L a d;exact⟨i,r,L,T,a,d,(Rr h.inj q t s (h.ci r O) (h.cj r O) T).2.2 ⟨k,λz=>E ((Y a h.cj l).2 z)⟩,rfl⟩
 obtain⟨n1,o1⟩:=iV (U2 W v 0);obtain⟨n0,o0⟩:=iV (U2 s0 v 0);constructor
 .refine jG am ((M.map _).nodup_iff.2 (sub _)) (o1.filter _) (n1.sublist YH) λx=>?_;rw[(M.map _).mem_iff,adds,(N x).1];exact kd.ai
 refine jG ai ((G.map _).nodup_iff.2 (sub _)) (o0.filter _) (n0.sublist YH) λx=>?_;rw[(G.map _).mem_iff,drops,(N x).2];exact kd.ai
structure Wo where
 kind:Int
 tag:Int
 ak:ByteArray
 ad:List V
def BF(fs:List F)(nx cp:Int)(sg:Bool)(o:Wo):C6:=if o.kind=1 then De fs nx cp sg o.ak o.ad else if o.kind=2 then CV fs nx cp sg o.tag else if o.kind=3 then BS fs nx cp sg o.tag o.ad else C6.bad
def Si{fs nx cp sg}(o)(h:VS fs nx cp sg):En fs nx cp sg (BF fs nx cp sg o):=by
 unfold BF;split
 .exact xc _ _ h
 split
 .exact zL _ h
 split
 .exact zM _ _ h
 exact .inl rfl
structure JG(fs:List F) (nx:Int) (o:Wo) (gs K Nw:List F) (nx':Int):Prop where
 eq:gs=K++Nw
 sub:K.Sublist fs
 one:Nw.length<=1
 bP:∀g∈Nw,g.tag=nx/\g.ad=o.ad/\C4 o.ad=true/\(g.ak=o.ak/\Aw o.ak.data.toList=true∨∃f∈fs,f.ak=g.ak)
 eu:Nw=[]/\nx'=nx∨nx'=nx+1
def nz{k:Int}{p:Prop}(h:k=0)(a:k≠0):p:=absurd h a
def Nh(h:P:=by exact nz (show(_:Int)=0 from O) (by simp)):=h
def kR{fs nx cp sg}(o)(h:VS fs nx cp sg)(O:(BF fs nx cp sg o).code=0):∃K p,JG fs nx o (BF fs nx cp sg o).fs K p (BF fs nx cp sg o).nx:=by
 have hv:=VS.iff.2 h;have Y:¬C6.bad.code=0:=qh;unfold BF at O⊢;split at O
 .rename_i e;rw[if_pos e];cases a:(Cg fs nx cp sg&&(Aw o.ak.data.toList&&C4 o.ad))
  .rw[RZ a]at O;exact absurd O Y
  simp only[yk]at a;obtain⟨t,m,l⟩:=a;rw[RG t m l]at O⊢;unfold Cf at O⊢;split at O
  .exact Nh
  rename_i k;rw[if_neg k];split at O
  .exact Nh
  rename_i c;rw[if_neg c];split at O
  .exact Nh
  rename_i q;rw[if_neg q];exact⟨fs,[⟨nx,o.ak,o.ad⟩],rfl,List.Sublist.refl _,qe,λg a=>by rw[yv.1 a];exact⟨rfl,rfl,l,.inl ⟨rfl,m⟩⟩,.inr rfl⟩
 rename_i e;rw[if_neg e];split at O
 .rename_i d;rw[if_pos d];cases b:AD o.tag fs with
  |none=>
   rw[Sv hv b]at O;exact Nh
  |some i=>
   rw[Ss hv b];exact⟨fs.eraseIdx i,[],qe,WD _ _,qe,λg a=>(by cases a),.inl ⟨rfl,rfl⟩⟩
 rename_i d;rw[if_neg d];split at O
 .rename_i s;rw[if_pos s];cases a:C4 o.ad
  .rw[Sa (by rw[a,Wz])]at O;exact absurd O Y
  cases b:AD o.tag fs with
  |none=>
   rw[Sl hv a b]at O;exact Nh
  |some i=>
   have j:=Ou b;obtain⟨f,n⟩:=AJ j;rw[Sr hv a b n]at O⊢;unfold JQ at O⊢;split at O
   .exact Nh
   rename_i k;rw[if_neg k];split at O
   .exact Nh
   rename_i c;rw[if_neg c];exact⟨fs.eraseIdx i,[⟨nx,f.ak,o.ad⟩],rfl,WD _ _,qe,λg r=>by rw[yv.1 r];exact⟨rfl,rfl,a,.inr ⟨f,yd n,rfl⟩⟩,.inr rfl⟩
 exact absurd O Y
def V_{p}:∀{K fs:List F},K.Sublist fs->(∀f∈K,p f=true)->(fs.Pairwise λf g=>f.tag<g.tag)->(∀f∈fs,p f=true->∃g∈K,g.tag=f.tag)->fs.filter p=K
 |_,_,.slnil,_,_,_=>rfl
 |_,_,.cons a h,hp,hs,hq=>by
  rename_i K fs
  have O:=WT.1 hs
  have Y:¬p a=true:=λe=>by
   obtain⟨g,c,d⟩:=hq a qe e
   have:=O.1 g (h.subset c)
   omega
  rw[yN Y]
  exact V_ h hp O.2 (λf b=>hq f (by simp[b]))
 |_,_,.cons_cons a h,hp,hs,hq=>by
  rename_i K fs
  have O:=WT.1 hs
  rw[yL (hp a qe)]
  congr 1
  refine V_ h (λf b=>hp f (by simp[b])) O.2 (λf b e=>?_)
  obtain⟨g,c,d⟩:=hq f (by simp[b]) e
  rcases yO.1 c with rfl|c
  .have:=O.1 f b
   omega
  exact⟨g,c,d⟩
def JG.stay{fs:List F}{nx:Int}{o:Wo}{gs K c:List F}{nx':Int}(h:JG fs nx o gs K c nx')(d:fs.Pairwise λf g=>f.tag<g.tag)(hl:∀f∈fs,f.tag<nx):stay fs gs=K/\(gs.filter λg=>!kn fs g)=c:=by
 have l:∀f∈K,kn fs f=true:=λf b=>Rm.2 ⟨f,h.sub.subset b,rfl⟩;have i:∀g∈c,kn fs g=false:=λg a=>by
  rw[<-Bool.not_eq_true,Rm];rintro⟨f,b,e⟩;have k:=hl f b;have j:=(h.bP g a).1;omega
 constructor
 .unfold Go.Proofs.YtikojfajahnhgaaGreat.stay;refine V_ h.sub (λf b=>PC.2 ⟨f,by rw[h.eq];exact Wb _ b,rfl⟩) d (λf b e=>?_);obtain⟨g,a,O⟩:=PC.1 e;rw[h.eq]at a;rcases yr.1 a with a|a
  .exact⟨g,a,O⟩
  have k:=hl f b;have j:=(h.bP g a).1;omega
 rw[h.eq,yQ,Ww.2 (λf b=>by simp[l f b]),Yj];exact Yv.2 λg a=>by simp[i g a]
structure Iy where
 code:Int
 tag:Int
 br:List It
 aY:List It
 size:Int
def JO(rs:List Ru)(ms:List Int)(fs:List F):Int:=((rs.zip ms).map λy=>Im y.2 y.1 fs).sum
def IG(fs:List F)(nx cp:Int)(sg:Bool)(o:Wo):List F × Int:=if(BF fs nx cp sg o).code=0 then((BF fs nx cp sg o).fs,(BF fs nx cp sg o).nx) else(fs,nx)
def Rf(rs:List Ru)(ms:List Int)(cp:Int)(sg:Bool)(s:List F × Int)(o:Wo):Iy:=
 ⟨(BF s.1 s.2 cp sg o).code,(BF s.1 s.2 cp sg o).tag,FM (Cs (IG s.1 s.2 cp sg o).1 0 rs) (Cs s.1 0 rs),FM (Cs s.1 0 rs) (Cs (IG s.1 s.2 cp sg o).1 0 rs),JO rs ms (IG s.1 s.2 cp sg o).1⟩
def Bb(cp:Int)(sg:Bool)(os:List Wo):List F × Int:=os.foldl (λs o=>IG s.1 s.2 cp sg o) ([],1)
def PQ{cp sg}{a:List Wo}{k o}(h:a[k]?=some o):Bb cp sg (a.take (k+1))=IG (Bb cp sg (a.take k)).1 (Bb cp sg (a.take k)).2 cp sg o:=by
 rw[yY,h];simp[Bb]
def Ib(rs:List Ru)(ms:List Int)(cp:Int)(sg:Bool)(os:List Wo)(n:Nat):List Iy:=(List.range n).filterMap λk=>os[k]?.map λo=>Rf rs ms cp sg (Bb cp sg (os.take k)) o
def lI{rs b cp sg a k o}(h:a[k]?=some o):Ib rs b cp sg a (k+1)=Ib rs b cp sg a k++[Rf rs b cp sg (Bb cp sg (a.take k)) o]:=by
 unfold Ib;rw[Xx,List.filterMap_append];simp[h]
def Om{cp sg}(b:0<=cp)(O:cp<=40)(a:List Wo):∀k,VS (Bb cp sg (a.take k)).1 (Bb cp sg (a.take k)).2 cp sg
 |0=>⟨b,O,b,rfl,show(1:Int)<=1 by decide,show(1:Int)<=1000001 by decide,λf d=>(by cases d),λ_=>We⟩
 |k+1=>by
  have Y:=Om (sg:=sg) b O a k
  cases h:a[k]? with
  |none=>
   have hl:a.length<=k:=qq
   rw[yu hl]at Y
   rw[yu qd]
   exact Y
  |some o=>
   rw[PQ h]
   unfold IG
   split
   .rename_i g
    rcases Si o Y with q|q
    .rw[g]at q
     omega
    obtain⟨c,_,e,i,_⟩:=q
    rw[e,i]at c
    exact c
   exact Y
def DO(rs:List Ru)(ms:List Int)(cp:Int)(sg:Bool)(os:List Wo):List Iy:=if(Bh rs).1=0/\Hr ms rs.length=true/\0<=cp/\cp<=40/\os.length<=60 then Ib rs ms cp sg os os.length else []
section
open Go.Maps
attribute [local go_sem ↓] wp_at_zero wp_at_succ
attribute [local go_sem] Oper.semAt_some
def znw{l n P}{o:Oper}{a w K Q}(hd:∀c,o.op≠.defer c)(h:o.wp P a w K Q):o.wpIn (Fence.wide.inRound l) n P a w K Q:=by
 refine⟨λ_ _=>trivial,?_⟩;rw[Oper.semAt_plain _ _ _ hd];unfold Oper.wp at h;generalize (execOp a.eval o).run P w=r at h⊢;cases r with
 |ok x w'=>
  cases x<;>simp only[Oper.upon,Oper.uponIn]at h⊢<;>first
   |exact h
   |exact h.elim
   |(refine⟨λhx=>Tv,CallsIn.inRound l (callsIn_wide.2 (Calls.ac h ?_))⟩;intro e O b;cases e<;>exact b)
   |exact⟨λhx=>Tv,λc cs _=>let ⟨v,O,r,s⟩:=h c cs;⟨v,O,r,stepsIn_wide.2 s⟩⟩
 |halt x w'=>cases x<;>simp only[Oper.upon,Oper.uponIn]at h⊢<;>exact h
def mW{l k P w Y rest o a Q}(I:o.guard=none)(s x t)(A:o.op=.call { callee:=.builtin .append,args:=#[s,x],argTypes:=#[t,t] })(base e z size O)(J:P.underlying t=some (.slice e))(hinfo:(P.info? e).map (λi=>(i.zero,i.size,i.bytes))=some (some z,size,O))(y:z.cells.size=size)(q:0<size)(v n xs)(C:a.eval s=v)(g:w.ownsRow base e size v n xs)(p m c)(E:a.eval x=.slice p m c)(news)(hl:news.length=m*size)(f:p=none->m=0)(hnews:∀a,p=some a->∀j u,news[j]?=some u->w.cell? (a.add j)=some u)(K:∀u∈news,u.oneCell'=true)(r:n+m<=maxLen)(hbytes:(n+m)*O<=140737488355328)(hbase:base<=w.heap.size)(h:∀b d w',Hid (w'.ownsRow base e size (.slice b (n+m) d) (n+m) (xs++news))->Hid (w.grownBy w' v.ownBlock)->Hid ((Value.slice b (n+m) d).ownBlock=v.ownBlock∨(Value.slice b (n+m) d).ownBlock=some w.heap.size)->wpListIn (Fence.wide.inRound l) k P Y Q rest (a.put o.dst (.slice b (n+m) d)) w'):wpListIn (Fence.wide.inRound l) k P Y Q (o::rest) a w:=
 wpListIn_plain I λ_ L=>znw (λc B=>by rw[A]at B;cases B) (Xo s x t A base e z size O J hinfo y q v n xs C g p m c E news hl f hnews K r hbytes hbase λb d w' G D H=>L _ _ (h b d w' G D H))
def ZB:∀(w:World)(a:Value),(Instr.makeFunc (.func 161) #[] #[a]).run prog w=.ok (.func (.func 161) #[] #[a]) w:=λ_ _=>by kernel_rfl
def xS(a w):Ca 99 #[Pn a] w λe w'=>e=.returned (.func (.func 161) #[] #[Pn w.heap.size])/\Hid (w'.heap[w.heap.size]?=some (.cells #[Pn a] 84 (0,0)))/\Bw w w':=by
 have d:=ZB;go_enter func99,ntmps99;go_upto_region 1 with fail;refine Bt ?_;intro f O Y;obtain⟨c,b⟩:=Ak O Y;clear O Y;go_wp2_with fail;go_ret;exact⟨rfl,b,c.o⟩
def si(N adr U fs V a c n w)(h:Eb N adr U fs V a w)(e:∀(j:Nat)(old:List Kt),a[j]?=some old->∀x∈old,∃T,x=Ab adr T/\T.length<=3/\∀f∈T,f∈U)(g:∀(j:Nat)(m:MK)(old:List Kt),N.Ms[j]?=some m->a[j]?=some old->old.length+(BV (m.X.map (Cv (N.vw V fs))) []).length<=2000000)(b:w.heap[c]?=some (.cells #[Pn N.nw] 84 (0,0))) :
  QZ n prog 161 #[Pn c] Zw N.Sm (KN N.Sm) ZD (FK N adr U fs V a) w:=by
 intro l J W d i O Y;refine callsIn_wide.2 ?_;exact zR N adr U fs V a c l W (h.J d) e g ((d.block _ (As b)).j b) J w.heap.size d.size i O Y
def oI(h:P:=by
 rcases yr.1 hy with hy|hy
 .exact h.i.l3 y hy
 rw[yv.1 hy];exact h.l3
 ):=h
def nP(h:P:=by
 have hl':g<W.heap.size:=yh O h.i.fr.rest.size;have e1:W.heap[g]?=some W.heap[g]:=by simp[hl']
 rw[k4 g _ e1 O (by omega),<-e1];exact h.i.fr.block g O hn
 ):=h
def xW{N w0 b m xs x W q Y a c G J e d D}(h:Mv N w0 b m xs x W)(l:Jc W w0.heap.size b m (Dh xs) (CZ xs) a c G J)(u:x.sg=1)(o:b≠m)(v:w0.heap.size<=b)(f:Bw W q)(E:Y.ownsRow w0.heap.size 45 2 (.slice e ((Dh xs).length+1) d) ((Dh xs).length+1) ((Dh xs).flatMap Dk++Dk (x.it,x.sl)))(n:q.grownBy Y (Value.slice a (Dh xs).length c).ownBlock)(hl:(Value.slice e ((Dh xs).length+1) d).ownBlock=(Value.slice a (Dh xs).length c).ownBlock∨(Value.slice e ((Dh xs).length+1) d).ownBlock=some q.heap.size) :
  Ue (KN N.Sm) (Lb N w0 b m (xs++[x])) W .normal D (Y.setCell ⟨b,0,none⟩ (.slice e ((Dh xs).length+1) d)):=by
 have r:Y.heap[b]?=some (.cells #[.slice a (Dh xs).length c] 36 (0,0)):=Gq ((f.block _ (As l.p)).j l.p) n (λk B=>A8 (l.ip.ar f).row B) qh;have t:Turned Y (Y.setCell ⟨b,0,none⟩ (.slice e ((Dh xs).length+1) d)) b:=Turned.setCells [_] 0 Y b;have H:=Fq (i:=0) r (.slice e ((Dh xs).length+1) d);have w:=l.add o h.p f E n hl (by simpa using H) t;obtain⟨s,C,I,k4⟩:=Z5 (S:=N.Sm) f (l.ip.ar f).row n r t;refine⟨I,C,s,⟨⟨_,_,_,_,by rw[(kJ u).1,(kJ u).2];exact w⟩,Yy.2 ⟨h.i.ap,WR _ _,λy hy z A=>by rw[yv.1 A];exact h.ap y hy⟩,λy hy=>?_,⟨h.i.fr.rest.j s.rest,λg O hn=>?_⟩⟩⟩
 .exact oI
 exact nP
def xd{N w0 m b xs x W q Y a c G J e d D}(h:Mv N w0 m b xs x W)(l:Jc W w0.heap.size b m (CZ xs) (Dh xs) a c G J)(u:x.sg≠1)(o:b≠m)(v:w0.heap.size<=b)(f:Bw W q)(E:Y.ownsRow w0.heap.size 45 2 (.slice e ((CZ xs).length+1) d) ((CZ xs).length+1) ((CZ xs).flatMap Dk++Dk (x.it,x.sl)))(n:q.grownBy Y (Value.slice a (CZ xs).length c).ownBlock)(hl:(Value.slice e ((CZ xs).length+1) d).ownBlock=(Value.slice a (CZ xs).length c).ownBlock∨(Value.slice e ((CZ xs).length+1) d).ownBlock=some q.heap.size) :
  Ue (KN N.Sm) (Lb N w0 m b (xs++[x])) W .normal D (Y.setCell ⟨b,0,none⟩ (.slice e ((CZ xs).length+1) d)):=by
 have r:Y.heap[b]?=some (.cells #[.slice a (CZ xs).length c] 36 (0,0)):=Gq ((f.block _ (As l.p)).j l.p) n (λk B=>A8 (l.ip.ar f).row B) qh;have t:Turned Y (Y.setCell ⟨b,0,none⟩ (.slice e ((CZ xs).length+1) d)) b:=Turned.setCells [_] 0 Y b;have H:=Fq (i:=0) r (.slice e ((CZ xs).length+1) d);have w:=l.add o h.p f E n hl (by simpa using H) t;obtain⟨s,C,I,k4⟩:=Z5 (S:=N.Sm) f (l.ip.ar f).row n r t;refine⟨I,C,s,⟨⟨_,_,_,_,by rw[(ie u).1,(ie u).2];exact w.swap⟩,Yy.2 ⟨h.i.ap,WR _ _,λy hy z A=>by rw[yv.1 A];exact h.ap y hy⟩,λy hy=>?_,⟨h.i.fr.rest.j s.rest,λg O hn=>?_⟩⟩⟩
 .exact oI
 exact nP
def tS(N:NT)(adr:F->Addr)(U fs:List F)(V:List Value)(olds:List (List Kt))(w:World)(e:Ending)(w':World):Prop:=
 ∃(P Q:List Eh)(a a':Option Addr)(c c':Nat)(xs:List Ne),e=.returned (.tuple #[.slice a P.length c,.slice a' Q.length c'])/\Iw w' w.heap.size w.heap.size a c P/\Iw w' w.heap.size w.heap.size a' c' Q/\AL (.slice a P.length c) (.slice a' Q.length c')/\(P++Q).Pairwise (λx y=>AL x.2 y.2)/\P.Perm (Dh xs)/\Q.Perm (CZ xs)/\Fh (P.map Prod.fst)/\Fh (Q.map Prod.fst)/\FK N adr U fs V olds xs w'/\Av N.Sm w w'
def zmT(N adr U fs V z w)(h:Eb N adr U fs V z w)(hO:∀(j:Nat)(old:List Kt),z[j]?=some old->∀x∈old,∃T,x=Ab adr T/\T.length<=3/\∀f∈T,f∈U)(hB:∀(j:Nat)(m:MK)(old:List Kt),N.Ms[j]?=some m->z[j]?=some old->old.length+(BV (m.X.map (Cv (N.vw V fs))) []).length<=2000000) :
  Ca 48 #[Pn N.nw] w (tS N adr U fs V z w):=by
 have HH:=Aa h;have HO:=Aa hO;have aT:=Aa hB;have am:=Aa (λg(q:N.Sm g)=>by
  obtain⟨m,hm,q⟩:=q;exact h.st.lt h.ol hm g q:∀g,N.Sm g->g<w.heap.size)
 clear h hO hB;refine (callsIn_wide (n:=9)).1 ?_;refine callsIn_of_wp_marks func48 rfl trivial ?_ rfl;simp only[ntmps48,List.size_toArray,yH,YV,Nat.reduceAdd,Nat.reduceSub,Array.replicate_succ,Array.replicate_zero,List.push_toArray,List.append_toArray,Yj,Ye];refine wpIn_wide.2 ?_;go_upto_region 1 with fail;refine Bo ?_;intro w1 bm aP aR;obtain ⟨B1,Q1,Q2,bf⟩:=BE bm aP aR (xS N.nw w1);clear bm aP aR;go_wp2_with fail;refine bf.o.an λw2 ⟨aS,ai⟩=>?_;have B2:=Aa ai;have ad:=B1.o.size;have bO:=ai.size;have bM:=As aS.o;have ah:=Aa (B1.o.j (ai.ac ad));obtain ⟨bB,bJ⟩:=Ak (si N adr U fs V z w1.heap.size 8 w2 (HH.o.J ah.o) HO.o aT.o aS.o) (show Lb N w w.heap.size (w.heap.size+1) [] w2 from ⟨⟨none,0,none,0,⟨(ai.block _ (As Q1.o)).j Q1.o,(ai.block _ (As Q2.o)).j Q2.o,Iw.nil _ _ _,Iw.nil _ _ _,λg q=>Np⟩⟩,List.Pairwise.nil,λx Z=>(by cases Z),Av.ab ah.o⟩);clear ai bf HO aT;go_wp2_with fail;have aC:=Aa (λg q=>yh (am.o g q) ah.o.size:∀ g,N.Sm g->g<w2.heap.size);have M:w.heap.size≠w.heap.size+1:=qd;refine (wpIn_wide (n:=9)).1 ?_;refine uA (α:=Ne) qh (gf:=161) (lb:=#[Pn w1.heap.size]) rfl (enters_of func161 qf rfl) (λ_=>rfl) aC.o bB.o (λh k=>KN.j h k) (λ_ _ h=>KN.ab h) (λ_ _ _ _ h1 h2 h3=>KN.bo h1 h2 h3)
  (Lb N w w.heap.size (w.heap.size+1)) (λr A B hA v=>hA.tn v am.o ah.o.size AA (Kr _)) bJ.o
  (Mv N w w.heap.size (w.heap.size+1)) (λr x A B hA hb aa=>hA.hand hb aa am.o AA (Kr _))
  (λr x a' W=>Mv N w w.heap.size (w.heap.size+1) r x W/\∃tb,W.heap[tb]?=some (.cells #[I6 x.it.au,x.sl] 45 (0,0))/\a'={ tmps:=#[Pn N.nw,undef,Pn w.heap.size,Pn (w.heap.size+1),Pn tb,I6 x.sg,Pn N.nw,.func (.func 161) #[] #[Pn w1.heap.size],.agg #[I6 x.it.au,x.sl],I6 x.sg,undef,undef,undef,undef,undef,undef,undef,undef,undef,undef,undef,undef,undef,undef,undef,undef],defers:=[] }) (λr x a' A B h v=>⟨h.1.tn v am.o ah.o.size AA (Kr _),by
   obtain⟨tb,h1,h2⟩:=h.2;exact⟨tb,v.block _ _ h1 (λq=>q) (.inl rfl),h2⟩⟩) (λxs A B h v=>h.tn v) ?assign ?body ?done
 case assign=>
  rintro l m r ⟨⟨rule,tags⟩,sl,sg⟩ C K I hK;obtain⟨sa,sc,L⟩:=I.p.ts;simp only at L;subst L;obtain⟨HI,bC⟩:=Ak I hK;clear I hK;simp only[Zw];gi_wp2;exact bC.o _ _ Af ⟨HI.o.tn (d:=w.heap.size) (Tn.ab Af) am.o AA AA (Kr _),C.heap.size,heap_alloc_new _ _,rfl⟩
 case body=>
  rintro l m r ⟨⟨rule,tags⟩,sl,sg⟩ a' C ⟨I,tb,aI,rfl⟩;obtain⟨⟨a,c,E,G,v⟩,aA,av,aB⟩:=I.i;have HI:=Aa I;obtain⟨sa,sc,L⟩:=I.p.ts;simp only at L;subst L;obtain⟨t0,t1⟩:=Ay aI;have p0:=A3 v.p;have q0:=A3 v.q;have al:=jR r;have bP:=I.few;have a5:=I.sg;simp only at a5;obtain⟨s,bT⟩:=Ak v aI;have bR:C.frozen? ⟨w.heap.size,0,none⟩=false:=by simp[World.frozen?,v.p]
  have bQ:C.frozen? ⟨w.heap.size+1,0,none⟩=false:=by simp[World.frozen?,v.q]
  clear I v aA av aB aI;rcases a5 with rfl|rfl
  .obtain⟨ar,O⟩:=Ak s.o.ip.row (λo=>Aj.alloc AA o:∀o,Bw C (C.alloc o));have ae:w.heap.size<=C.heap.size:=HI.o.i.fr.rest.size
   gi_wp2_with (first|(gi_at_builtin;refine mW qi (.tmp 12) (.tmp 14) 36 qi w.heap.size 45 _ 2 32 underlying36 RO qi qd _ (Dh r).length _ qi (Bg ar.o (O.o _)) (some ⟨_,0,none⟩) 1 1 qi (Dk (⟨rule,tags⟩,.slice sa tags.length sc)) qi (λe=>qp) (Et _ _ _ _ qH) pC qm qd qg ?_;intro a8 c8 W8 aH ak aG;have af:=Aa (Gq ((O.o _).block _ (As s.o.p) |>.j s.o.p) ak.o (λk b=>A8 (Bg ar.o (O.o _)) b) qh);have aN:=A3 af.o;have aQ:W8.frozen? ⟨w.heap.size,0,none⟩=false:=qx)|fail)
   exact xW HI.o s.o rfl M AA (O.o _) aH.o ak.o aG.o
  .obtain⟨ar,O⟩:=Ak s.o.swap.ip.row (λo=>Aj.alloc AA o:∀o,Bw C (C.alloc o));have ae:w.heap.size<=C.heap.size:=HI.o.i.fr.rest.size
   gi_wp2_with (first|(gi_at_builtin;refine mW qi (.tmp 16) (.tmp 18) 36 qi w.heap.size 45 _ 2 32 underlying36 RO qi qd _ (CZ r).length _ qi (Bg ar.o (O.o _)) (some ⟨_,0,none⟩) 1 1 qi (Dk (⟨rule,tags⟩,.slice sa tags.length sc)) qi (λe=>qp) (Et _ _ _ _ qH) pC qm qd qg ?_;intro a8 c8 W8 aH ak aG;have af:=Aa (Gq ((O.o _).block _ (As s.o.swap.p) |>.j s.o.swap.p) ak.o (λk b=>A8 (Bg ar.o (O.o _)) b) qh);have aN:=A3 af.o;have aQ:W8.frozen? ⟨w.heap.size+1,0,none⟩=false:=qx)|fail)
   exact xd HI.o s.o.swap (show(-1:Int)≠1 by decide) M.ai (Kr _) (O.o _) aH.o ak.o aG.o
 case done=>
  rintro D xs C hD I hF hK;obtain⟨⟨a,c,E,G,v⟩,aA,av,aB⟩:=I;have ag:=jR xs;have bU:xs.length<=2000000000:=by
   obtain⟨_,_,h0,_⟩:=hF;exact h0
  have p0:=A3 v.p;have aV:=Aa (lQ a c w.heap.size w.heap.size (Dh xs) C v.ip (λx Z=>by
   obtain⟨e,he,rfl⟩:=jy (.inl Z);exact av e he) qd)
  obtain⟨s,HF,HK,bH,bz,aJ⟩:=Hl v hF hK aA av aB;clear v hF hK aA av aB;go_wp2_with fail;refine aV.o.an λw3⟨P,hP,bi,aF,au⟩=>?_;obtain⟨a9,ay,a7⟩:=ib (S:=N.Sm) s.o.ip.row au;have aX:P.length=(Dh xs).length:=hP.length_eq;have bj:w3.heap[w.heap.size]?=some (.cells #[.slice a (Dh xs).length c] 36 (0,0)):=ay _ _ s.o.p (λc' e=>qp);have aL:w3.heap[w.heap.size+1]?=some (.cells #[.slice E (CZ xs).length G] 36 (0,0)):=ay _ _ s.o.q (λc' e=>qp);have ao:Iw w3 w.heap.size w.heap.size E G (CZ xs):=⟨BZ s.o.iq.row (λg aj=>au.block g (s.o.iq.row.lt g aj).2 (λe=>s.o.ap g e.ai aj)),λy hy=>(s.o.iq.all y hy).grown au (λk b=>A8 s.o.ip.row b) qh⟩
  have q0:=A3 aL;have bk:=Aa (lQ E G w.heap.size w.heap.size (CZ xs) w3 ao (λx Z=>by
   obtain⟨e,he,rfl⟩:=jy (.inr Z);exact bz.o e he) qd)
  obtain⟨G3,bo,bG,bK,HP,bv,aq,aD,bL⟩:=Ja au a9 ay a7 hP bi aF ao bj;obtain⟨bD,aW⟩:=Ak aL aX;clear hP bi aF au a9 ay a7 bj aL ao aX aV p0;go_wp2_with fail;refine bk.o.an λH⟨Q,hQ,bh,aE,aK⟩=>?_;obtain⟨aY,az,bl⟩:=ib (S:=N.Sm) aD.o.row aK;have aw:H.heap[w.heap.size]?=some (.cells #[.slice a (Dh xs).length c] 36 (0,0)):=az _ _ bL.o (λc' e=>qp);have ax:H.heap[w.heap.size+1]?=some (.cells #[.slice E (CZ xs).length G] 36 (0,0)):=az _ _ bD.o (λc' e=>qp);have aZ:H.heap[D]?=some (.deferred (some [])):=az _ _ (bG.o _ _ HK.o (λc' e=>qp)) (λc' e=>qp);have p4:=A3 aw;have q4:=A3 ax;have bS:H.frozen? ⟨w.heap.size,0,none⟩=false:=by simp[World.frozen?,aw]
  have bN:H.frozen? ⟨w.heap.size+1,0,none⟩=false:=by simp[World.frozen?,ax]
  obtain⟨G4,aU,bF,HQ,a0,bn,bg,bA,bp⟩:=Ja aK aY bl hQ bh aE aw ax aZ;clear hQ bh aE aK aY az bl aw ax aZ bk q0;go_wp2_with fail;go_region;go_wp2_with fail;have T1:Turned H (H.setCell ⟨w.heap.size,0,none⟩ (.slice a (Dh xs).length c)) w.heap.size:=Turned.setCells [_] 0 H _;have p5:=Fq (i:=0) bg.o (.slice a (Dh xs).length c);obtain⟨u5,bt⟩:∃u,u=H.setCell ⟨w.heap.size,0,none⟩ (.slice a (Dh xs).length c):=⟨_,rfl⟩
  rw[<-bt]at T1 p5⊢;obtain⟨a4,bI⟩:=jM (S:=N.Sm) bg.o T1;have q5:u5.heap[w.heap.size+1]?=some (.cells #[.slice E (CZ xs).length G] 36 (0,0)):=(T1.block _ M.ai).j bA.o;have T2:Turned u5 (u5.setCell ⟨w.heap.size+1,0,none⟩ (.slice E (CZ xs).length G)).drew (w.heap.size+1):=⟨rfl,rfl,rfl,(Turned.setCells [_] 0 u5 _).size,λk b=>(Turned.setCells [.slice E (CZ xs).length G] 0 u5 (w.heap.size+1)).block k b⟩
  have q6:=Fq (i:=0) q5 (.slice E (CZ xs).length G);have bc:(u5.setCell ⟨w.heap.size+1,0,none⟩ (.slice E (CZ xs).length G)).drew.heap[w.heap.size+1]?=some (.cells #[.slice E (CZ xs).length G] 36 (0,0)):=by
   have:=q6;simp at this;exact this
  obtain⟨u6,bw⟩:∃u,u=(u5.setCell ⟨w.heap.size+1,0,none⟩ (.slice E (CZ xs).length G)).drew:=⟨_,rfl⟩
  rw[<-bw]at T2 bc⊢;obtain⟨aO,br⟩:=jM (S:=N.Sm) q5 T2;have p6:u6.heap[w.heap.size]?=some (.cells #[.slice a (Dh xs).length c] 36 (0,0)):=(T2.block _ M).j (by simpa using p5);have ky:∀(k:Nat)(o:Obj),H.heap[k]?=some o->(∀c,o≠.cells c 36 (0,0))->u6.heap[k]?=some o:=λk o b ho=>br k o (bI k o b ho) ho;have bE:=ky _ _ bp.o (λc' e=>qp);have lo:∀(k:Nat)(o:Obj),C.heap[k]?=some o->k<w.heap.size->u6.heap[k]?=some o:=λk o b hl=>by
   rw[T2.block k qd,T1.block k qd];exact bF.o k o (bK.o k o b hl) hl
  have aM:Iw H w.heap.size w.heap.size a c P:=⟨BZ aq.o.row (λg aj=>G4.o.block g (aq.o.row.lt g aj).2 (λe=>s.o.ap g (by rw[<-aW.o];exact aj) e.ai)),λy hy=>(aq.o.all y hy).grown G4.o (λk b=>A8 aD.o.row b) qh⟩
  refine Ut (B:=w2.heap.size) [D] _ ⟨qe,λD' bu=>by rw[yv.1 bu];exact⟨hD,bE⟩⟩ ?_;intro W2 Y;have pW:=A3 (Y.bY _ _ _ _ p6);have qW:=A3 (Y.bY _ _ _ _ bc);have tys:∀(k:Nat)c t,(t=45∨t=3)->H.heap[k]?=some (.cells c t (0,0))->W2.heap[k]?=H.heap[k]?:=λk cs t R b=>(Y.bY _ _ _ _ (ky k _ b (λc' e=>by cases e;rcases R with R|R<;>revert R<;>decide))).j b.ai;have bd:=aW.o;have a6:Q.length=(CZ xs).length:=HQ.o.length_eq;refine⟨.tuple #[.slice a P.length c,.slice E Q.length G],?_,P,Q,a,E,c,G,xs,rfl,aM.aQ (λk cs t R _ b=>tys k cs t R b),bn.o.aQ (λk cs t R _ b=>tys k cs t R b),by rw[bd,a6];exact s.o.ap,?_,HP.o,HQ.o,bv.o,a0.o,?_,?_⟩
  .rw[bd,a6];simp[results,results48,go_sem,pW,qW]
  .have Z:(xs.map λe=>(e.it,e.sl)).Pairwise (λx y:Eh=>AL x.2 y.2):=Y1.2 bH.o;have bq:(P++Q).Perm (xs.map λe=>(e.it,e.sl)):=by
    refine(List.Perm.append HP.o HQ.o).j ?_;unfold Dh CZ;rw[<-yJ];exact(List.filter_append_perm (λe:Ne=>decide (e.sg=1)) xs).map _
   exact bq.ai.pairwise Z (λh g h1 h2=>h g h2 h1)
  .refine((((HF.o.kn bo.o.toK0).kn aU.o.toK0).kn a4.toK0).kn aO.toK0).kn ⟨Y.ar.ac (yA _),λk cs t fr b _=>Y.bY _ _ _ _ b,λk es cl b hs=>?_⟩;exact(Y.ar.block k (aC.o k hs)).j b
  refine⟨((((aJ.o.rest.j bo.o.rest).j aU.o.rest).j a4.rest).j aO.rest).j (Y.ar.ac (yA _)),λg hg hn=>?_⟩;have hl:g<C.heap.size:=yh hg aJ.o.rest.size;have e1:C.heap[g]?=some C.heap[g]:=K2;rw[Y.ar.block g (yh hg ah.o.size),lo g _ e1 hg,<-e1];exact aJ.o.block g hg hn
end
end Go.Proofs.YtikojfajahnhgaaGreat
