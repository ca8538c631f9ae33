import Derived.Test.YtikojfajahnhgaaGreatKbp
import Derived.Test.YtikojfajahnhgaaGreatKbr
import Derived.Shelf.SlSortCmp.WholeK
set_option linter.all false
set_option maxHeartbeats 12800000
set_option maxRecDepth 100000
namespace Go.Proofs.YtikojfajahnhgaaGreat
attribute [local simp] At I6 Pn mzI
attribute [local go_sem] At I6 Pn
open Go.RowKit Go.Proofs.Tryz
section
open Go.Maps
def Ra(t:TypeId):Bool:=[159,238,194,247,106,320,165,197,330,277,145,187,263,339,336,252,258].contains t
def NT.Sm(N:NT)(k:Nat):Prop:=∃m∈N.Ms,m.S k
structure K0(S:Nat->Prop) (A B:World):Prop where
 rest:Below 0 A B
 kept:∀(k:Nat)(c:Array Value)(t:TypeId)(fr:Nat × Nat),A.heap[k]?=some (.cells c t fr)->Ra t=true->B.heap[k]?=some (.cells c t fr)
 maps:∀(k:Nat)es cl,A.heap[k]?=some (.map es cl)->S k->B.heap[k]?=some (.map es cl)
structure KN(S:Nat->Prop) (A B:World):Prop extends K0 S A B where
 er:∀(k:Nat)(o:Obj),A.heap[k]?=some o->Ly o=true->B.heap[k]?=some o
def KN.c{S A B C}(h:KN S A B)(k:KN S B C):KN S A C:=⟨⟨h.rest.c k.rest,λj c t b hj a=>k.kept j c t b (h.kept j c t b hj a) a,λj es e hj d=>k.maps j es e (h.maps j es e hj d) d⟩,λj o hj O=>k.er j o (h.er j o hj O) O⟩
def KN.m{S A B}(h:Bw A B):KN S A B:=⟨⟨h.j (yk _),λk _ _ _ a _=>(h.block k (Ak a)).c a,λk _ _ a _=>(h.block k (yj.1 a).1).c a⟩,λk _ a _=>(h.block k (yj.1 a).1).c a⟩
def KN.ba{S A l o o'}(h:A.heap[l]?=some o)(b:Es o=true)(d:Ly o=false):KN S A (A.putObj l o'):=⟨⟨⟨rfl,rfl,rfl,by simp[World.putObj],λ_ q=>absurd q qd⟩,λk c t g a _=>by
 rw[Ym (λe=>by subst e;rw[h]at a;cases a;cases b)];exact a,λk es i a _=>by
 rw[Ym (λe=>by subst e;rw[h]at a;cases a;cases b)];exact a⟩,λk f a O=>by
 rw[Ym (λe=>by subst e;rw[h]at a;cases a;rw[d]at O;cases O)];exact a⟩
def K0.Q{S B w w' e m v n xs}(h:K0 S w w')(O:w.ownsRow B e m v n xs)(b:Ra e=true):w'.ownsRow B e m v n xs:=
 Bv O λk d=>by
  obtain⟨c,a⟩:=AO O d
  rw[h.kept k _ _ _ a b,a]
def NF.kn{S w w' base e mb g j L f V QQ}(h:NF w base e mb g j L f V QQ)(a:K0 S w w'):NF w' base e mb g j L f V QQ:=
 ⟨a.kept _ _ _ _ h.box qh,a.Q h.row qh,h.aX,h.aL,λi x b v c d hv=>by
  obtain⟨n,k,l,m⟩:=h.node i x b v c d hv
  exact⟨a.kept _ _ _ _ n qh,k,l,a.Q m qh⟩,λx c=>⟨(h.aK x c).1,a.Q (h.aK x c).2 qh⟩,h.apart⟩
def G9.kn{S adr U w w'}(h:G9 adr U w)(d:K0 S w w'):G9 adr U w':=λf b=>(h f b).keep λg c t e a ht=>d.kept g c t e a qA
def Eg.kn{S N adr U fs V w w'}(h:Eg N adr U fs V w)(a:K0 S w w'):Eg N adr U fs V w':=
 ⟨a.kept _ _ _ _ h.box qh,h.nf.kn a,a.Q h.row qh,λm b=>by
  obtain⟨cc,e,d,g,i⟩:=h.pd m b
  exact⟨cc,e,d,g,i.aj λk c t j f ht=>a.kept _ _ _ _ f qS⟩,h.us.kn a,yh h.hb a.rest.size⟩
structure Em(N:NT) (adr:F->Addr) (U fs:List F) (V:List Value) (olds:List (List Kt)) (w:World):Prop where
 ok:FD N
 bx:Eg N adr U fs V w
 lk:Gh adr U fs
 st:Ck N adr U (N.vw V fs) (λ_=>gV (N.vw V fs)) olds w
 ol:olds.length=N.Ms.length
def Em.kn{N adr U fs V a w w'}(h:Em N adr U fs V a w)(b:K0 N.Sm w w'):Em N adr U fs V a w':=
 ⟨h.ok,h.bx.kn b,h.lk,λi m old f g=>by
  have d:=yd f
  obtain⟨o,q,j⟩:=(h.bx.kn b).aI h.lk d
  exact(h.st i m old f g).bq (h.ok.ok m d) (λ_ _=>rfl) j o ⟨λk c t l e ht=>b.kept k c t l e qx,λk es p n e=>b.maps k es p e ⟨m,d,n⟩⟩,h.ol⟩
def Em.tn{N adr U fs V b d w w'}(h:Em N adr U fs V b w)(f:Tn (λ_=>False) Es d w w'):Em N adr U fs V b w':=by
 have g:CK w w':=λk c t o e=>f.block k _ e (λq=>q) (.inl rfl);exact⟨h.ok,h.bx.O g f.rest.size,h.lk,λi m old n p=>by
  have j:=yd n;obtain⟨s,v,r⟩:=(h.bx.O g f.rest.size).aI h.lk j;exact(h.st i m old n p).bq (h.ok.ok m j) (λ_ _=>rfl) r s ⟨λk c t o e _=>g k c t o e,λk es u _ e=>f.block k _ e (λq=>q) (.inl rfl)⟩,h.ol⟩
def Em.d{N adr U fs V a w w'}(h:Em N adr U fs V a w)(b:Bw w w'):Em N adr U fs V a w':=h.kn (KN.m b).toK0
def Em.set{N adr U fs V a w w' i m K}(h:Em N adr U fs V a w)(d:N.Ms[i]?=some m)(hS:m.St adr U (N.vw V fs) (gV (N.vw V fs)) K w')(g:CK w w')(f:Av m.S w w'):Em N adr U fs V (a.set i K) w':=
 ⟨h.ok,h.bx.O g f.rest.size,h.lk,λj m' old c b=>by
  by_cases e:j=i
  .subst e
   rw[d]at c
   cases c
   have hl:j<a.length:=by rw[h.ol];exact(ye.1 d).1
   rw[Y2 hl]at b
   cases b
   exact hS
  rw[YN (λq=>e q.y)]at b
  exact(h.st j m' old c b).keep g f (h.ok.apart j i m' m c d e),by rw[List.length_set];exact h.ol⟩
def A3.kn{S w w' b r L a}(h:A3 w b r L a)(e:KN S w w')(j:S b):A3 w' b r L a:=by
 obtain⟨es,d,since,seen,m,p,n,i,f,l,o⟩:=h.N;exact⟨⟨es,d,since,seen,m,e.maps b _ _ p j,n,i,f,e.er r _ l rfl,o⟩,h.nd,λy k=>(h.ok y k).aV λg c q=>e.kept g c _ _ q qh⟩
def zn5{P mt m k w b L}(g:P.underlying mt=some (.map m k))(h:Ag w b L):∃o,(Instr.range mt (.map (some b))).run P w=.ok (Pn w.heap.size) (w.alloc o)/\A3 (w.alloc o) b w.heap.size L (L.map Prod.fst):=by
 obtain⟨es,a,f,he,l,O⟩:=h.N;refine⟨.mapIter (some b) a #[] a,?_,⟨⟨es,a,a,#[],a,?_,he,l,O,heap_alloc_new _ _,O,yu _,yu _,?_⟩,h.nd,λy i=>(h.ok y i).d Aj⟩⟩
 .simp[Instr.range,run_underlying g,gM f,newObj,Sem.run]
 .exact(yS _ _ _ h.lt).c f
 have j:(leftOf es #[]).toList=es.toList:=by simp[leftOf]
 rw[j];exact oy
def uB{adr U T w}(h:Br adr U w)(c:∀f∈T,f∈U)(hl:T.length<=3):Is w (Ab adr T).1 (Ab adr T).2.1 (Ab adr T).2.2 T:=by
 have b:∀i,T.length<=i->T[i]?=none:=λi a=>Yi a;refine⟨λi f a=>?_,λq=>by simp[Ab,b 0 q],λq=>by simp[Ab,b 1 q],λq=>by simp[Ab,b 2 q],hl⟩;have d:=(h f (c f (yd a))).1;have hi3:i<3:=yg (ye.1 a).1 hl;refine⟨.pointer (some (adr f)),?_,d⟩;rcases(show i=0∨i=1∨i=2 by omega) with rfl|rfl|rfl<;>simp[Ab,a]
structure Rx(adr:F->Addr) (U:List F) (old now:List Kt) (L:List (List F × Int)):Prop where
 nd:(L.map (λy=>Ab adr y.1)).Nodup
 ok:∀y∈L,y.1.length<=3/\(∀f∈y.1,f∈U)/\y.2=C9 (Ab adr y.1) now-C9 (Ab adr y.1) old/\y.2≠0
 all:∀x,C9 x now-C9 x old≠0->∃y∈L,Ab adr y.1=x
def J6(i:Nat)(L:List (List F × Int)):List (It × Int):=L.map λy=>(⟨(i:Int),y.1.map (·.tag)⟩,y.2)
def Jg:Nat->List (List (List F × Int))->List (It × Int)
 |_,[]=>[]
 |i,L::r=>J6 i L++Jg (i+1) r
def VP:∀(i:Nat)(a:List (List (List F × Int)))(L:List (List F × Int)),Jg i (a++[L])=Jg i a++J6 (i+a.length) L
 |i,[],L=>by simp[Jg]
 |i,M::r,L=>by
  rw[Yb,Jg,Jg,VP (i+1) r L,yW,yI,show i+1+r.length=i+(r.length+1) by omega]
structure Ne where
 it:It
 sl:Value
 sg:Int
def Z7(e:Ne):Array Value:=#[.agg #[.int .i64 e.it.af,e.sl],.int .i64 e.sg]
def Rd(e:Ne):It × Int:=(e.it,e.sg)
def fJ(pre:List Ne)(e:Ne)(A B:World):Prop:=pre.length<=2000000000/\(∃a c,e.sl=.slice a e.it.K.length c)/\B.ownsRow A.heap.size 3 1 e.sl e.it.K.length (Ax e.it.K)/\e.it.K.length<=3/\(e.sg=1∨e.sg = -1)
def FG(N:NT)(adr:F->Addr)(U fs:List F)(V:List Value)(olds:List (List Kt))(xs:List Ne)(W:World):Prop:=
 ∃ (Ls:List (List (List F × Int))) (olds':List (List Kt)),xs.length<=2000000000/\xs.map Rd=Jg 0 Ls/\Ls.length=N.Ms.length/\Em N adr U fs V olds' W /\
  (∀(i:Nat)(m:MK)(old:List Kt)(L:List (List F × Int)),N.Ms[i]?=some m->olds[i]?=some old->Ls[i]?=some L->Rx adr U old ((BK (m.X.map (Ce (N.vw V fs))) []).map (Ab adr)) L) /\
  (∀(i:Nat)(m:MK)(old:List Kt),N.Ms[i]?=some m->olds'[i]?=some old->old.Perm ((BK (m.X.map (Ce (N.vw V fs))) []).map (Ab adr)))
def FG.tn{N adr U fs V b xs d w w'}(h:FG N adr U fs V b xs w)(j:Tn (λ_=>False) Es d w w'):FG N adr U fs V b xs w':=by
 obtain⟨k,olds',O,n,m,f,e,g⟩:=h;exact⟨k,olds',O,n,m,f.tn j,e,g⟩
def FG.kn{N adr U fs V a xs w w'}(h:FG N adr U fs V a xs w)(e:K0 N.Sm w w'):FG N adr U fs V a xs w':=by
 obtain⟨f,olds',O,i,g,c,b,d⟩:=h;exact⟨f,olds',O,i,g,c.kn e,b,d⟩
end
section
open Go.Maps
attribute [local go_sem ↓] wp_at_zero wp_at_succ
def Tn.dm{S d A B r o}(h:Bg (some r) A B)(f:A.heap[r]?=some o)(O:Ly o=true)(hd:d<=r):Tn S Ly d A B:=⟨h.rest,λg i b _ a=>(h.block g (yj.1 b).1 (λe=>by
 injection e with e;subst e;rw[f]at b;cases b;rcases a with a|a
 .rw[O]at a;cases a
 omega)).c b⟩
def Tn.aA{S O p d A B}(h:Av O A B)(e:∀g,O g->S g):Tn S p d A B:=⟨h.rest,λg _ a b _=>(h.block g (yj.1 a).1 (λq=>b (e g q))).c a⟩
def A3.it{w b r L a}(h:A3 w b r L a):∃o,w.heap[r]?=some o/\Ly o=true:=by
 obtain⟨es,c,since,seen,e,_,_,_,_,d,_⟩:=h.N;exact⟨_,d,rfl⟩
def Jh(N:NT)(adr:F->Addr)(V:List Value)(fs:List F)(m:MK):List Kt:=(BK (m.X.map (Ce (N.vw V fs))) []).map (Ab adr)
structure Nl(N:NT) (adr:F->Addr) (U fs:List F) (V:List Value) (olds:List (List Kt)) (i:Nat) (Ls:List (List (List F × Int))) (olds':List (List Kt)) (pre:List Ne) (d:Nat) (w:World):Prop where
 st:Em N adr U fs V olds' w
 len:Ls.length=i
 pr:pre.map Rd=Jg 0 Ls
 eW:∀(j:Nat)(m:MK)(old:List Kt)(L:List (List F × Int)),N.Ms[j]?=some m->olds[j]?=some old->Ls[j]?=some L->Rx adr U old (Jh N adr V fs m) L
 eu:∀(j:Nat)(m:MK)(old:List Kt),j<i->N.Ms[j]?=some m->olds'[j]?=some old->old.Perm (Jh N adr V fs m)
 rest:∀j,i<=j->olds'[j]?=olds[j]?
 few:(Jg 0 Ls).length<=i*2000000
 sz:d<=w.heap.size
def Nl.eV{N adr U fs V a c olds' pre w d}(h:Nl N adr U fs V a N.Ms.length c olds' pre d w):FG N adr U fs V a pre w:=
 ⟨c,olds',by
  have b:=congrArg List.length h.pr
  rw[yt]at b
  have e:=h.few
  have f:=h.st.ok.bY
  have g:N.Ms.length*2000000<=1000*2000000:=Yl _ f
  omega,h.pr,h.len,h.st,h.eW,λi m old b e=>h.eu i m old (ye.1 b).1 b e⟩
def Nl.next{N adr U fs V a i f olds' pre n w w' m old K L d}(h:Nl N adr U fs V a i f olds' pre d w)(k:N.Ms[i]?=some m)(t:a[i]?=some old)(o:Rx adr U old (Jh N adr V fs m) L)(u:K.Perm (Jh N adr V fs m))(hS:Em N adr U fs V (olds'.set i K) w')(r:n.map Rd=Jg 0 f++J6 i L)(v:L.length<=2000000)(l:d<=w'.heap.size):Nl N adr U fs V a (i+1) (f++[L]) (olds'.set i K) n d w':=by
 have hl:=h.len;refine⟨hS,JZ,by rw[r,VP,Yc,hl],λj m' O p c b g=>?_,λj m' O hj c b=>?_,λj hj=>?_,?_,l⟩
 .rcases Lg g with g|⟨e,rfl⟩
  .exact h.eW j m' O p c b g
  rw[hl]at e;subst e;rw[k]at c;rw[t]at b;cases c;cases b;exact o
 .by_cases e:j=i
  .subst e;rw[k]at c;cases c;have s:j<olds'.length:=by rw[h.st.ol];exact(ye.1 k).1
   rw[Y2 s]at b;cases b;exact u
  rw[YN (λq=>e q.y)]at b;exact h.eu j m' O qd c b
 .rw[YN qd];exact h.rest j qd
 rw[VP,yP];have c:=h.few;have b:(J6 (0+f.length) L).length=L.length:=by simp[J6]
 omega
def U8{M}(c:(M.map Prod.fst).Nodup){x v}(h:(x,v)∈M):As x M=v:=by
 have f:M.find? (λy=>decide (y.1=x))=some (x,v):=by
  obtain⟨y,a⟩:∃y,M.find? (λy=>decide (y.1=x))=some y:=by
   cases e:M.find? (λy=>decide (y.1=x)) with
   |none=>exact absurd (KU.1 e _ h) qe
   |some y=>exact⟨y,rfl⟩
  have d:y.1=x:=by simpa using List.find?_some a
  have b:=KX a;rw[a,Oz c b h d]
 simp[As,f]
def vz{M x}(h:x ∉ M.map Prod.fst):As x M=0:=by
 have:M.find? (λy=>decide (y.1=x))=none:=KU.2 λy a q=>h (by
  simp only[decide_eq_true_eq]at q;rw[<-q];exact yU a)
 simp[As,this]
def sH{adr U old K a M d}(c:BS old K M)(l:K.Perm a)(i:(M.map Prod.fst).Nodup)(k:(M.map Prod.fst).Perm (d.map (λy=>Ab adr y.1)))(hd:∀y∈d,(Ab adr y.1,y.2)∈M/\y.1.length<=3/\∀f∈y.1,f∈U):Rx adr U old a d:=by
 refine⟨k.nodup_iff.1 i,λy b=>?_,λx g=>?_⟩
 .obtain⟨j,o,m⟩:=hd y b;refine⟨o,m,?_,c.nz _ j⟩;rw[<-V8 l,<-c.cnt,U8 i j]
 rw[<-V8 l,<-c.cnt]at g;have n:x∈M.map Prod.fst:=by
  refine WO λq=>g (vz q)
 obtain⟨y,b,e⟩:=yz.1 (k.mem_iff.1 n);exact⟨y,b,e⟩
def Em.eX{N adr U fs V a S w w'}(h:Em N adr U fs V a w)(c:CK w w')(b:Av S w w')(d:∀m∈N.Ms,∀x,m.S x->¬S x):Em N adr U fs V a w':=⟨h.ok,h.bx.O c b.rest.size,h.lk,h.st.keep c b d,h.ol⟩
def MK.bZ(m:MK)(b:m.Ok){U vw}(hv:EG U m.X (gV vw)){T}(d:T∈BK (m.X.map (Ce vw)) []):T.length<=3/\∀f∈T,f∈U:=by
 obtain⟨W,e,q⟩:=(Lm _ _ _).1 d;rw[yY]at e;subst e;have hs:Dz (m.X.map (BB U)) []:=by
  cases m with
  |inl O=>exact(b U).sr
  |inr t=>exact b.2.2 U
 exact LY hs (λc g x n=>yf.1 ((hv c g).1 x n)) q qe qe
def CS.nodup{w cb nb wb T M}(h:CS w cb nb wb T M):(M.map Prod.fst).Nodup:=by
 have:=h.ab.nd;rwa [Sy]at this
def W9{α:Type}[DecidableEq α]{x}:∀{l:List α},x∈l->(l.filter (λy=>decide (y≠x))).length<l.length
 |[],h=>by simp at h
 |y::r,h=>by
  by_cases e:y=x
  .rw[yJ (by simp[e]),yI]
   exact Nat.lt_succ_of_le (y8 _ _)
  rw[yD (by simp[e]),yI,yI]
  have a:x∈r:=by
   rcases yG.1 h with q|q
   .exact absurd q.y e
   exact q
  exact Nat.succ_lt_succ (W9 a)
def gY{α:Type}[DecidableEq α]:∀{l l':List α},l.Nodup->(∀x∈l,x∈l')->l.length<=l'.length
 |[],_,_,_=>yk _
 |x::l,l',hn,h=>by
  have b:=gY (l:=l) (l':=l'.filter λy=>decide (y≠x)) (y9.1 hn).2 λy hy=>yf.2 ⟨h y Jc,by
   simp only[ne_eq,decide_eq_true_eq]
   intro e
   exact(y9.1 hn).1 (e▸hy)⟩
  have a:=W9 (h x qe)
  rw[yI]
  omega
def zF{adr old K}{E:List (List F)}{M}(d:(M.map Prod.fst).Nodup)(f:BS old K M)(i:K.Perm (E.map (Ab adr))):M.length<=old.length+E.length:=by
 have b:∀x∈M.map Prod.fst,x∈old++K:=λx g=>by
  obtain⟨⟨O,z⟩,c,rfl⟩:=yz.1 g;have b:=U8 d c;rw[f.cnt O]at b;have a:=f.nz _ c;simp only at a;refine yn.2 ?_;by_cases e:O∈K
  .exact .inr e
  refine .inl (WO λq=>a ?_);rw[<-b,Oo e,Oo q];rfl
 have a:=gY d b;rw[yt,yP,i.length_eq,yt]at a;exact a
def ud{adr}{U:List F}{old K}{E:List (List F)}{M}(n:(M.map Prod.fst).Nodup)(i:BS old K M)(p:K.Perm (E.map (Ab adr)))(o:∀x∈old,∃T,x=Ab adr T/\T.length<=3/\∀f∈T,f∈U)(b:∀T∈E,T.length<=3/\∀f∈T,f∈U){x z}(h:(x,z)∈M):∃T,x=Ab adr T/\T.length<=3/\(∀f∈T,f∈U)/\(z=1∨z = -1):=by
 have a:=U8 n h;rw[i.cnt x]at a;have j:=i.nz _ h;simp only at j;have k:z=1∨z = -1:=by
  rcases SH x K with e|e<;>rcases SH x old with c|c<;>rw[e,c]at a<;>omega
 by_cases d:x∈K
 .obtain⟨T,g,e⟩:=yz.1 (p.mem_iff.1 d);exact⟨T,e.y,(b T g).1,(b T g).2,k⟩
 have O:x∈old:=WO λq=>j (by rw[<-a,Oo d,Oo q];rfl);obtain⟨T,e,m,l⟩:=o x O;exact⟨T,e,m,l,k⟩
structure Ni(N:NT) (adr:F->Addr) (U fs:List F) (V:List Value) (Ls:List (List (List F × Int))) (olds':List (List Kt)) (i wb r:Nat) (M:List (Kt × Int)) (dn:List (List F × Int)) (todo:List Kt) (pre:List Ne) (w:World):Prop where
 st:Em N adr U fs V olds' w
 rg:A3 w wb r (iv M) todo
 pm:(M.map Prod.fst).Perm (dn.map (λy=>Ab adr y.1)++todo)
 ok:∀y∈dn,(Ab adr y.1,y.2)∈M/\y.1.length<=3/\∀f∈y.1,f∈U
 pr:pre.map Rd=Jg 0 Ls++J6 i dn
def Ni.few{N adr U fs V c olds' i wb r M b a pre w}(h:Ni N adr U fs V c olds' i wb r M b a pre w):b.length<=M.length:= by
 have:=h.pm.length_eq;simp only[yt,yP]at this;omega
def Ni.step{N adr U fs V d olds' i wb r M e a pre w w' x T z m}(h:Ni N adr U fs V d olds' i wb r M e a pre w)(p:x=Ab adr T)(g:(x,z)∈M)(j:T.length<=3)(s:∀f∈T,f∈U)(n:x∈a)(q:(M.map Prod.fst).Nodup)(hS:Em N adr U fs V olds' w')(l:A3 w' wb r (iv M) (a.filter (λy=>decide (y≠x)))):Ni N adr U fs V d olds' i wb r M (e++[(T,z)]) (a.filter (λy=>decide (y≠x))) (pre++[⟨⟨(i:Int),T.map (·.tag)⟩,m,z⟩]) w':=by
 subst p;refine⟨hS,l,?_,λy b=>?_,?_⟩
 .have o:=(h.pm.nodup_iff.1 q)
  have O:(a.map id).Nodup:=by rw[Kx];exact(yK.1 o).2.1
  have:=Ql (k:=id) O n;simp only[id]at this;rw[yF,yW];exact h.pm.c (List.Perm.append_left _ this)
 .rcases yn.1 b with b|b
  .exact h.ok y b
  rw[yp.1 b];exact⟨g,j,s⟩
 rw[yF,h.pr];simp[J6,Rd]
def zO(N adr U fs V a bb l W)(h:Em N adr U fs V a W)(C:∀(j:Nat)(old:List Kt),a[j]?=some old->∀x∈old,∃T,x=Ab adr T/\T.length<=3/\∀f∈T,f∈U)(hB:∀(j:Nat)(m:MK)(old:List Kt),N.Ms[j]?=some m->a[j]?=some old->old.length+(BK (m.X.map (Ce (N.vw V fs))) []).length<=2000000)(aa:W.heap[bb]?=some (.cells #[.pointer (some ⟨N.nw,0,none⟩)] 84 (0,0)))(J:List Ne->World->Prop)(d)(bq:d<=W.heap.size)(hJ:∀pre A B,J pre A->Tn (λg=>∃m∈N.Ms,m.S g) Ly d A B->J pre B)(hY:∀(m:Nat)pre x A B,J pre A->Bw A B->fJ pre x A B->YieldAt Fence.wide m prog l (Z7 x) B λe Y=>e=.returned (.bool true)/\J (pre++[x]) Y/\KN N.Sm B Y)(h0:J [] W) :
  Ca 161 #[.func (.yield l) #[] #[],.pointer (some ⟨bb,0,none⟩)] W λe Y=>(∃v,e=.returned v)/\∃xs,J xs Y/\FG N adr U fs V a xs Y:=by
 obtain⟨HO,bt,HJ,HY⟩:=Bn C hB hJ hY;have b0:=AV aa;have c2:=AS (L:=[_,_,_]) h.bx.box (j:=2) rfl;obtain⟨A,aM⟩:∃A,A=N.ma:=⟨_,rfl⟩
 rw[<-aM]at c2;have bL:=Aa aM;have bW:=h.ok.bY;obtain⟨HN,H0⟩:=Ah (show Nl N adr U fs V a 0 [] a [] d W from⟨h,rfl,rfl,λj m old L _ _ q=>by simp at q,λj m old q=>absurd q qd,λj _=>rfl,yu _,bq⟩) h0;clear h C aa hJ hY h0 aM hB;go_enter func161,ntmps161;go_wp2_with fail
 go_loopw [12] (λiv wr=>∃(i:Nat)(Ls:List (List (List F × Int)))(olds':List (List Kt))(pre:List Ne),iv=.int .i64 (i:Int)/\i<=N.Ms.length/\Nl N adr U fs V a i Ls olds' pre d wr/\J pre wr) (λiv _=>N.Ms.length-(intOf iv).toNat)
 case atStart=>exact⟨0,[],a,[],rfl,yk _,HN.o,H0.o⟩
 case round=>
  obtain⟨i,Ls,olds',pre,rfl,bV,a7,aX⟩:=hrel;obtain⟨O,JR⟩:=Ah a7 aX;clear a7 aX;by_cases hi:i<N.Ms.length
  .obtain⟨m,hm⟩:=Ba hi;obtain⟨old,ah⟩:∃o,olds'[i]?=some o:=⟨olds'[i]'(by rw[O.o.st.ol];exact hi),qe⟩
   have aw:a[i]?=some old:=by rw[<-O.o.rest i AH];exact ah
   have az:=yd hm;obtain⟨p1,p2,p3⟩:=O.o.st.bx.aI O.o.st.lk az;have aI:=O.o.st.st i m old hm ah;obtain⟨K,M,ar,aG,aK⟩:=aI.now (O.o.st.ok.ok m az) O.o.st.lk.inj p3;obtain⟨rb,a6,_,r0,_⟩:=BM O.o.st.bx.row (show(N.Ms.map MK.val)[i]?=some m.val by rw[yA,hm];rfl);have bC:=bL.o.c a6;subst bC;rw[MK.bU m]at r0;have E:=Aa (Xw m aI);have q1:=λu=>UV m u;have q2:=Vz m;have k1:=AS (L:=[_,_]) ar.q (j:=1) rfl;obtain⟨o,hR,aD⟩:=zn5 (P:=prog) IB ar.ab;obtain⟨HM,ao,bo,aZ,aL⟩:=DE hm az aw ah ar;have bG:M.length<=2000000:=by
    have h1:=zF ar.nodup aG aK;have h2:=bt.o i m old hm aw;omega
   obtain⟨aW,bk,aN⟩:=AA aG aK aD;have z0:(0:Int)<=(i:Int):=qd;have z1:(i:Int)<(N.Ms.length:Int):=qd;obtain⟨bU,ax⟩:∃b,b=m.cb:=⟨_,rfl⟩
   obtain⟨au,aq⟩:∃b,b=m.wb:=⟨_,rfl⟩
   obtain⟨bO,bA⟩:=Ah ax aq;rw[<-ax]at E k1;rw[<-aq]at k1 hR aN;clear hm az aw ah p1 p2 p3 aI ar aG aK aD a6 ax aq b0 c2;go_wp2_with fail;refine E.o.j ?_;rintro e s ⟨rfl,bE⟩;subst bE;go_wp2_with fail;have J7:=Aa (HJ.o _ _ _ JR.o (Tn.m (An.alloc AH o)));have bT:s.heap.size<(s.alloc o).heap.size:=qe;have bv:m.S au:=by
    rw[bA.o];cases m with
    |inl Rc=>exact G_.1 (Ia (l:=Rc.1.l (N.vw V fs))).2
    |inr t=>exact .inr rfl
   have bB:=Aa (λm' aP q=>by
    have:=O.o.st.st.lt O.o.st.ol aP _ q;omega:∀m'∈N.Ms,¬m'.S s.heap.size)
   obtain⟨bI,bD⟩:=Ah (λ(x:Kt)(z:Int)(bF:(x,z)∈M)=>ud aL.o.nodup aW.o bk.o (HO.o i old bo.o) (λT hT=>m.bZ (O.o.st.ok.ok m ao.o) (O.o.st.bx.aI O.o.st.lk ao.o).2.2 hT) bF) (show Ni N adr U fs V Ls olds' i au s.heap.size M [] (M.map Prod.fst) pre (s.alloc o) from⟨O.o.st.d (An.alloc AH o),by rw[<-Sy];exact aN.o,qe,λy w=>(by cases w),by rw[O.o.pr];simp[J6]⟩);clear aN hR k1 E q1 q2 r0
   go_loopw [] (λwr=>∃(dn:List (List F × Int))(k:List Kt)(Z:List Ne),Ni N adr U fs V Ls olds' i au s.heap.size M dn k Z wr/\J Z wr) (λwr=>wr.rangeLeft au s.heap.size)
   case atStart=>exact⟨[],_,pre,bD.o,J7.o⟩
   case round=>
    obtain⟨dn,k,Z,H,aO⟩:=hrel;obtain⟨p,JI⟩:=Ah H aO;rcases SU (P:=prog) H.rg 0 with⟨h0,hN⟩|⟨x,v,ob,w2,hx,bd,bu,hN,am,hE⟩
    .have ay:=p.o.st.st i m old HM.o aZ.o;obtain⟨p1,p2,p3⟩:=p.o.st.bx.aI p.o.st.lk ao.o;obtain⟨E,aF,a0⟩:=AA (Xw m ay) (nR m adr U (N.vw V fs) old wr ay (p.o.st.ok.ok m ao.o) p.o.st.lk.inj p3) (show Rx adr U old (Jh N adr V fs m) dn from sH aW.o bk.o aL.o.nodup (by have:=p.o.pm;rwa [h0,yQ]at this) p.o.ok);have q1:=λu=>UV m u;have q2:=Vz m;rw[<-bO.o]at E aF;clear H aO ay p1 p2 p3 h0;go_wp2_with fail;refine E.o.j ?_;rintro e w8 ⟨rfl,bw⟩;subst bw;go_wp2_with fail;refine aF.o.j ?_;rintro e w9 ⟨rfl,⟨K',bh,aQ⟩,aB,ak⟩;obtain⟨bN,J9⟩:=Ah (O.o.next HM.o bo.o a0.o bh (p.o.st.set HM.o aQ aB ak) p.o.pr (yh p.o.few bG) (by have h1:=ak.rest.size;have h2:=p.o.rg.dj;have h3:=O.o.sz;omega)) (HJ.o _ _ _ JI.o (Tn.aA ak (λg hg=>⟨m,ao.o,hg⟩)));clear bh aQ aB ak E aF q1 q2;go_wp2_with fail;go_roundw
     case rel=>exact⟨i+1,_,_,_,qm,qd,bN.o,J9.o⟩
     case measure=>(simp[intOf];omega)
    have C:=Tj (r:=s.heap.size) (o:=ob) bu;obtain⟨W2,aV⟩:∃W,W=ChangeMaps.setBlock w2 s.heap.size ob:=⟨_,rfl⟩
    rw[<-aV]at hN am hE C;obtain⟨oi,bm,aC⟩:=H.rg.it;have aE:=C.O H.rg.cB;obtain⟨J2,bK⟩:=Ah (HJ.o _ _ _ JI.o (Tn.dm C bm aC O.o.sz)) (p.o.st.eX aE (Av.of (S:=λg=>g=s.heap.size) C rfl) (λm' aP y w e=>bB.o m' aP (e▸w)));obtain⟨z,hz,rfl⟩:∃z,(x,z)∈M/\v=I6 z:=by
     obtain⟨y,w,e⟩:=yz.1 bd;cases e;exact⟨y.2,w,rfl⟩
    obtain⟨T,bi,bg,aS,aR⟩:=bI.o x z hz;obtain⟨a3,HZ,aJ,bf,bH,HX⟩:=Jk bi hz bg aS aR hx;have aT:Z.length<=2000000000:=by
     have h1:=congrArg List.length p.o.pr;rw[yt,yP]at h1;have h2:(J6 i dn).length=dn.length:=by simp[J6]
     have h3:=p.o.few;have h4:=O.o.few;have h5:i*2000000<=999*2000000:=Yl _ qd;omega
    have bp:=Aa am;have bS:=H.rg.left;have bQ:=am.left;have bJ:=Aa (show(k.filter (λy=>decide (y≠x))).length<k.length from W9 hx);obtain⟨x0,x1,x2⟩:=x;simp only[AM]at hN hE;clear H aO am C bm aC aE bd bi bg aS aR hz hx aV;go_upto_region 6 with fail;refine Be ?_;intro w3 aA aY;obtain⟨t0,t1,t2⟩:=Ao aY;have J3:=Aa (HJ.o _ _ _ J2.o (Tn.m aA));have bc:=Aa (bK.o.d aA);have bM:=Aa (bp.o.d aA);have bj:=Aa (show Ca 59 #[.agg #[.pointer x0,.pointer x1,.pointer x2]] w3 (gk (T.map (·.tag)) w3) from zmv x0 x1 x2 T w3 (by
     have:=uB bc.o.bx.us.G bf.o aJ.o;rw[<-a3.o]at this;exact this))
    have a9:=Aa (λ(D:Option Addr)(R:Nat)(I:World)(ho:I.ownsRow w3.heap.size 3 1 (.slice D (T.map (·.tag)).length R) (T.map (·.tag)).length (Ax (T.map (·.tag))))(hb:Bw w3 I)=>HY.o 5 Z ⟨⟨(i:Int),T.map (·.tag)⟩,.slice D (T.map (·.tag)).length R,z⟩ w3 I J3.o hb ⟨aT,⟨D,R,rfl⟩,ho,by rw[yt];exact aJ.o,bH.o⟩);clear aA aY hN hE;refine(wpIn_wide (n:=6)).1 ?_;gi_wp2;refine⟨trivial,((callsIn_wide (n:=5)).2 bj.o).j ?_⟩;rintro e I ⟨⟨D,R,rfl,aU⟩,aH⟩;obtain⟨fn,tm,bP,bz,w,hR⟩:=a9.o D R I aU aH;have HR:=Aa hR;have bn:(Instr.yield l #[.agg #[I6 (i:Int),.slice D (T.map (·.tag)).length R],I6 z]).run prog I=.ok (.round l fn tm bP bz) I:=w;have br:=Aa aH;obtain⟨nt,bl⟩:∃n,n=(T.map (·.tag)).length:=⟨_,rfl⟩
    rw[<-bl]at bn⊢;clear w hR aU aH bl;gi_wp2;refine HR.o.j ?_;rintro e Y ⟨rfl,a8,hk⟩;have KW:=Aa ((KN.m br.o).c hk);obtain⟨a5,JW⟩:=Ah (show Ni N adr U fs V Ls olds' i au s.heap.size M (dn++[(T,z)]) (k.filter (λy=>decide (y≠(x0,x1,x2)))) (Z++[⟨⟨(i:Int),T.map (·.tag)⟩,.slice D (T.map (·.tag)).length R,z⟩]) Y from p.o.step a3.o HZ.o aJ.o bf.o HX.o aL.o.nodup (bc.o.kn KW.o.toK0) (bM.o.kn KW.o ⟨m,ao.o,bv⟩)) a8;have bR:=a5.o.rg.left;have bX:=bJ.o;clear a8 hk HR bn a9 bj t0 t1 t2;gi_wp2;go_wp2_with fail;go_roundw
    case rel=>exact⟨_,_,_,a5.o,JW.o⟩
    case measure=>omega
  obtain rfl:i=N.Ms.length:=qd;have w:¬(N.Ms.length:Int)<(N.Ms.length:Int):=qd;go_wp2_with fail;refine bodyPost_end (results_none rfl _ _ _) rfl ⟨⟨_,rfl⟩,pre,JR.o,O.o.eV⟩
end
section
attribute [local go_sem ↓] wp_at_zero wp_at_succ
def jn(x y w):Ca 165 #[I6 x,I6 y] w λe w'=>e=.returned (I6 (Lib.compareInt x y))/\w'=w:=AnyG.cmp_Compare_int cmpI x y w
def Nm{a b}(h:b=a):Ending.returned (I6 a)=.returned (I6 b):=by rw[h]
def zh{xs ys:List Int}{k x y}(b:xs[k]?=some x)(a:ys[k]?=some y):A6 (xs.drop k) (ys.drop k)=if Lib.compareInt x y=0 then A6 (xs.drop (k+1)) (ys.drop (k+1)) else Lib.compareInt x y:=by
 rw[CF b,CF a,A6]
def TX{P:Prop}(h:P:=by
 go_wp2_with fail;go_ret;exact⟨Nm (by rw[HG.o,HE.o]),rfl⟩
 ):P:=h
def zmc(a n c t xs ys w){q q'}(hv:CU q w a xs)(B:CU q' w n ys)(hl:xs.length<=1048576)(z:ys.length<=1048576) :
  Ca 166 #[.slice a xs.length c,.slice n ys.length t] w λe w'=>e=.returned (.int .i64 (A6 xs ys))/\w'=w:=by
 go_enter func166,ntmps166;go_wp2
 go_loopw [11] (λi wr=>∃(k:Nat),k<=xs.length/\k<=ys.length/\i=.int .i64 k/\A6 xs ys=A6 (xs.drop k) (ys.drop k)/\wr=w) (mz xs.length)
 case atStart=>exact⟨0,qd,qd,rfl,rfl,rfl⟩
 case round=>
  obtain⟨k,K,M,rfl,s,rfl⟩:=hrel;have HG:=Aa s;clear s;by_cases u:k<xs.length
  .obtain⟨x,m⟩:=Ba u;obtain⟨b,o,rfl,E,H⟩:=hv.get m;by_cases O:k<ys.length
   .obtain⟨y,g⟩:=Ba O;obtain⟨G,o',rfl,I,L⟩:=B.get g;obtain⟨p,f⟩:=Ah (zh m g) (jn x y);by_cases d:Lib.compareInt x y=0
    .have C:=Aa d;rw[d]at f;clear d;go_wp2_with (go_at_call 165;refine(f.o _).j ?_;rintro e w' ⟨rfl,rfl⟩);go_roundw
     case rel=>exact⟨k+1,qd,qd,qm,by rw[HG.o,p.o,if_pos C.o],by first|trivial|rfl⟩
     case measure=>(simp;omega)
    obtain⟨r,l⟩:∃r,Lib.compareInt x y=r:=⟨_,rfl⟩
    rw[l]at f d;obtain⟨D,A⟩:=Ah l d;clear l;go_wp2_with (go_at_call 165;refine(f.o _).j ?_;rintro e w' ⟨rfl,rfl⟩);go_ret;exact⟨Nm (by rw[HG.o,p.o,D.o,if_neg A.o]),rfl⟩
   have J:ys.length=k:=qd;have HE:=Aa (show A6 (xs.drop k) (ys.drop k)=1 from by rw[CF m,(yy qd:ys.drop k=[])];rfl);exact TX
  by_cases O:k<ys.length
  .obtain⟨y,g⟩:=Ba O;have HE:=Aa (show A6 (xs.drop k) (ys.drop k) = -1 from by rw[CF g,(yy qd:xs.drop k=[])];rfl);have v:(xs.length:Int)<(ys.length:Int):=qd;exact TX
  have HE:=Aa (show A6 (xs.drop k) (ys.drop k)=0 from by rw[(yy qd:xs.drop k=[]),(yy qd:ys.drop k=[])];rfl);have v:¬(xs.length:Int)<(ys.length:Int):=qd;exact TX
def uc{xs:List Int}{k x}(a:xs[k]?=some x):Ii (xs.drop k)=if x=0 then Ii (xs.drop (k+1)) else x:=by
 rw[CF a,Ii]
def ss(a c xs w){q}(hv:CU q w a xs)(hl:xs.length<=1048576) :
  Ca 164 #[.slice a xs.length c] w λe w'=>e=.returned (.int .i64 (Ii xs))/\w'=w:=by
 go_enter func164,ntmps164;go_wp2
 go_loopw [8] (λi wr=>∃(k:Nat),k<=xs.length/\i=.int .i64 k/\Ii xs=Ii (xs.drop k)/\wr=w) (mz xs.length)
 case atStart=>exact⟨0,qd,rfl,rfl,rfl⟩
 case round=>
  obtain⟨k,p,rfl,f,rfl⟩:=hrel;have HG:=Aa f;clear f;by_cases l:k<xs.length
  .obtain⟨x,O⟩:=Ba l;obtain⟨b,o,rfl,n,m⟩:=hv.get O;have d:=Aa (uc O);by_cases g:x=0
   .subst g;go_wp2_with fail;go_roundw
    case rel=>exact⟨k+1,qd,qm,by rw[HG.o,d.o,if_pos rfl],by first|trivial|rfl⟩
    case measure=>(simp;omega)
   have j:=Aa g;go_wp2_with fail;go_ret;exact⟨Nm (by rw[HG.o,d.o,if_neg j.o]),rfl⟩
  have HE:=Aa (show Ii (xs.drop k)=0 from by rw[yy qd];rfl);exact TX
end
section
open Go.Sort Go.Lib Go.Shelf
attribute [local go_sem ↓] wp_at_zero wp_at_succ

end
section
attribute [local go_sem ↓] wp_at_zero wp_at_succ
def vr(w:World)(xs ty):CU none (w.alloc (.cells (xs.map (Value.int .i64)).toArray ty)) (some ⟨w.heap.size,0,none⟩) xs:=by
 intro i s a;refine⟨w.heap.size,0,[I6 s],rfl,Qb.ah _ _ _,rfl,?_,rfl⟩;intro j v hj;have O:j=0:=by
  exact TU
 subst O;simp at hj;subst hj;simp[a]
def wO(w:World)(g a O ty)(b:g=w.heap.size):CU none (w.alloc (.cells #[I6 a,I6 O] ty)) (some ⟨g,0,none⟩) [a,O]:=by
 subst b;exact vr w [a,O] ty
def zld(x y:In)(a b c d w){q q'}(B:CU q w a x.K)(u:CU q' w b y.K)(hl:x.K.length<=1048576)(p:y.K.length<=1048576) :
  Ca 101 #[.agg #[I6 x.af,.slice a x.K.length c],.agg #[I6 y.af,.slice b y.K.length d]] w λe w'=>
   e=.returned (I6 (Ii [Lib.compareInt x.af y.af,A6 x.K y.K]))/\Bw w w'/\∃n E,w'=Go.Sort.grow (w.drewN n) E:=by
 have m:∀o o',Bw w (((w.alloc o).alloc o').drew):=λo o'=>(Aj.alloc qe _).drew;obtain⟨J,I,t⟩:=AA (λo o'=>B.d (m o o')) (λo o'=>u.d (m o o')) (jn x.af y.af);obtain⟨af,C⟩:∃r,Lib.compareInt x.af y.af=r:=⟨_,rfl⟩
 obtain⟨s,z⟩:∃r,A6 x.K y.K=r:=⟨_,rfl⟩
 have A:=Aa (λw'(G:CU q w' a x.K)(L:CU q' w' b y.K)=>zmc a b c d x.K y.K w' G L hl p);have D:=Aa (λw' g ty(H:g=w'.heap.size)=>(show Ca 164 #[.slice (some ⟨g,0,none⟩) 2 2] ((w'.alloc (.cells #[I6 af,I6 s] ty)).drew) _ from ss (some ⟨g,0,none⟩) 2 [af,s] _ ((wO w' g af s ty H).d (An.drew)) qe));rw[C]at t⊢;rw[z]at A⊢;clear C z B u;go_enter func101,ntmps101;go_wp2;refine wp_region_noPanic ?_;refine wp_region_held_drew (S:=(λw'=>At w' w.heap.size 0 (I6 x.af)/\At w' w.heap.size 1 (.slice a x.K.length c)/\At w' (w.heap.size+1) 0 (I6 y.af)/\At w' (w.heap.size+1) 1 (.slice b y.K.length d))) qg ?_ (λhHeld=>?_)
 ·(try dsimp only);(go_split_ands;refine⟨?_,?_,?_,?_⟩<;>first|(simp[*];done))
 refine wpAnyH_take (i:=0) (oi:=?oi1) (v:=?v1) ?hi1 qg qg qg (λ_ _ _ h=>h) (Or.inl ⟨?wd1,?hy1⟩) hHeld ?rest1
 case hi1=>(simp only[ym,yv];rfl)
 case wd1=>rfl
 case hy1=>(intro w O;(try dsimp only at O);go_simp;try with_reducible rfl)
 (try simp only[Act.put,yo,yB,yC]);refine wpAnyH_take (i:=1) (oi:=?oi2) (v:=?v2) ?hi2 qg qg qg (λ_ _ _ h=>h) (Or.inl ⟨?wd2,?hy2⟩) hHeld ?rest2
 case hi2=>(simp only[ym,yw,yv];rfl)
 case wd2=>rfl
 case hy2=>(intro w O;(try dsimp only at O);go_simp;try with_reducible rfl)
 (try simp only[Act.put,yo,yB,yC]);refine wpAnyH_take (i:=2) (oi:=?oi3) (v:=?v3) ?hi3 qg qg qg (λ_ _ _ h=>h) (Or.inl ⟨?wd3,?hy3⟩) hHeld ?rest3
 case hi3=>(simp only[ym,yw,yv];rfl)
 case wd3=>rfl
 case hy3=>(intro w O;(try dsimp only at O);go_simp;try with_reducible rfl)
 (try simp only[Act.put,yo,yB,yC]);refine wpAnyH_take (i:=3) (oi:=?oi4) (v:=?v4) ?hi4 qg qg qg (λ_ _ _ h=>h) (Or.inl ⟨?wd4,?hy4⟩) hHeld ?rest4
 case hi4=>(simp only[ym,yw,yv];rfl)
 case wd4=>rfl
 case hy4=>(intro w O;(try dsimp only at O);go_simp;try with_reducible rfl)
 (try simp only[Act.put,yo,yB,yC]);refine wpAnyH_take (i:=5) (oi:=?oi5) (v:=?v5) ?hi5 qg qg qg (λ_ _ _ h=>h) (Or.inl ⟨?wd5,?hy5⟩) hHeld ?rest5
 case hi5=>(simp only[ym,yw,yv];rfl)
 case wd5=>rfl
 case hy5=>(intro w O;(try dsimp only at O);go_simp;try with_reducible rfl)
 (try simp only[Act.put,yo,yB,yC]);refine wpAnyH_take (i:=6) (oi:=?oi6) (v:=?v6) ?hi6 qg qg qg (λ_ _ _ h=>h) (Or.inl ⟨?wd6,?hy6⟩) hHeld ?rest6
 case hi6=>(simp only[ym,yw,yv];rfl)
 case wd6=>rfl
 case hy6=>(intro w O;(try dsimp only at O);go_simp;try with_reducible rfl)
 (try simp only[Act.put,yo,yB,yC]);refine wpAnyH_take (i:=7) (oi:=?oi7) (v:=?v7) ?hi7 qg qg qg (λ_ _ _ h=>h) (Or.inl ⟨?wd7,?hy7⟩) hHeld ?rest7
 case hi7=>(simp only[ym,yw,yv];rfl)
 case wd7=>rfl
 case hy7=>(intro w O;(try dsimp only at O);go_simp;try with_reducible rfl)
 (try simp only[Act.put,yo,yB,yC]);refine wpAnyH_take (i:=8) (oi:=?oi8) (v:=?v8) ?hi8 qg qg qg (λ_ _ _ h=>h) (Or.inl ⟨?wd8,?hy8⟩) hHeld ?rest8
 case hi8=>(simp only[ym,yw,yv];rfl)
 case wd8=>rfl
 case hy8=>(intro w O;(try dsimp only at O);go_simp;try with_reducible rfl)
 (try simp only[Act.put,yo,yB,yC]);refine r1 4 λK k=>?_;go_simp;(go_at_call 165;refine(t.o _).j ?_;rintro e N ⟨rfl,rfl⟩);(try go_wp2_with fail);refine k.o _ _ (by(try dsimp only);(go_split_ands;refine⟨?_,?_,?_,?_⟩<;>first|assumption)) λf=>?_;replace hHeld:=f;clear k K f;(try simp only[Act.put,yo,yB,yC]);refine r1 9 λK k=>?_;go_simp;(go_at_call 166;refine(A.o _ (J.o _ _) (I.o _ _)).j ?_;rintro e M ⟨rfl,rfl⟩);(try go_wp2_with fail);refine k.o _ _ (by(try dsimp only);(go_split_ands;refine⟨?_,?_,?_,?_⟩<;>first|assumption)) λf=>?_;replace hHeld:=f;clear k K f;(try simp only[Act.put,yo,yB,yC]);refine r1 10 λK k=>?_;go_simp;refine k.o _ _ (by(try dsimp only);(go_split_ands;refine⟨?_,?_,?_,?_⟩<;>first|exact zab Aj qk)) λf=>?_;replace hHeld:=f;clear k K f;(try simp only[Act.put,yo,yB,yC]);refine r1 11 λK k=>?_;go_simp;(go_at_call 164;refine(D.o _ _ _ qe).j ?_;rintro e R ⟨rfl,rfl⟩);(try go_wp2_with fail);refine k.o _ _ (by(try dsimp only);(go_split_ands;refine⟨?_,?_,?_,?_⟩<;>first|assumption)) λf=>?_;replace hHeld:=f;clear k K f;(try simp only[Act.put,yo,yB,yC]);refine wpAnyH_take (i:=12) (oi:=?oi17) (v:=?v17) ?hi17 qg qg qg (λ_ _ _ h=>h) (Or.inl ⟨?wd17,?hy17⟩) hHeld ?rest17
 case hi17=>(simp only[ym,yw,yv];rfl)
 case wd17=>rfl
 case hy17=>(intro w O;(try dsimp only at O);go_simp;try with_reducible rfl)
 (try simp only[Act.put,yo,yB,yC]);refine wpAnyH_done qg ?_ _;refine Ya ?_;go_wp2;go_ret;exact⟨rfl,((m _ _).alloc (m _ _).size _),1,#[_,_,_],by rw[Kn,Kn w,Kn (Go.Sort.grow w _),Go.Sort.grow_grow];exact Go.Sort.grow_grow (w.drewN 1) _ _⟩
end
section
open Go.Sort Go.Lib Go.Shelf
attribute [local go_sem ↓] wp_at_zero wp_at_succ
def ED(x y:It):Int:=Ii [Lib.compareInt x.af y.af,A6 x.K y.K]
def sj(x y):ED x y=if Lib.compareInt x.af y.af=0 then A6 x.K y.K else Lib.compareInt x.af y.af:=by
 have O:∀x:Int,Ii [x]=x:=λx=>by simp only[Ii];split<;>omega
 show(if _=0 then Ii [_] else _)=_;rw[O]
def fP:ET ED:=by
 have h:=(sB.map It.af).or (rj.map It.K);have e:ED=λa b:It=>if Lib.compareInt a.af b.af=0 then A6 a.K b.K else Lib.compareInt a.af b.af:=by
  funext a b
  exact sj a b
 rw[e];exact h
def rP(w:World)(g:Nat)(x:H5):Prop:=x.1.K.length<=3/\∃a c,x.2=.slice a x.1.K.length c/\∀(i:Nat)(s:Int),x.1.K[i]?=some s->∃b o,a=some ⟨b,o,none⟩/\b≠g/\w.cell? ⟨b,o+i,none⟩=some (.int .i64 s)
abbrev Ix(w:World)(g:Nat):={x:H5 // rP w g x}
def ixD(w:World)(g:Nat):Ix w g:=⟨(⟨0,[]⟩,.slice none 0 0),qe,none,0,rfl,λi s h=>by simp at h⟩
def GC{w:World}{g:Nat}(x:Ix w g):List Value:=Fb x.1
def a_{w:World}{g:Nat}(x y:Ix w g):Int:=ED x.1.1 y.1.1
def r9(w g):SWO (ltOf (a_ (w:=w) (g:=g))):=by
 have h:=fP.map (λx:Ix w g=>x.1.1);refine⟨λx=>?_,λx y z b a=>?_,λx y z b a=>?_⟩
 .have e:ED x.1.1 x.1.1 =-ED x.1.1 x.1.1:=h.swap x x;exact decide_eq_false (show¬ED x.1.1 x.1.1<0 by omega)
 .have c:ED x.1.1 y.1.1<0:=of_decide_eq_true b;have d:ED y.1.1 z.1.1<0:=of_decide_eq_true a;exact decide_eq_true (h.lt x y z (show ED x.1.1 y.1.1<=0 by omega) (show ED y.1.1 z.1.1<=0 by omega) (.inl c))
 have c:¬ED x.1.1 y.1.1<0:=of_decide_eq_false b;have d:¬ED y.1.1 z.1.1<0:=of_decide_eq_false a;have a1:ED y.1.1 x.1.1 =-ED x.1.1 y.1.1:=h.swap x y;have f:ED z.1.1 y.1.1 =-ED y.1.1 z.1.1:=h.swap y z;have i:ED z.1.1 x.1.1 =-ED x.1.1 z.1.1:=h.swap x z;have O:ED z.1.1 x.1.1<=0:=h.le z y x (show ED z.1.1 y.1.1<=0 by omega) (show ED y.1.1 x.1.1<=0 by omega);exact decide_eq_false (show¬ED x.1.1 z.1.1<0 by omega)
def iu{w a xs}(h:∀(i:Nat)(s:Int),xs[i]?=some s->∃b o,a=some ⟨b,o,none⟩/\At w b (o+i) (I6 s)):CU none w a xs:=by
 intro i s c;obtain⟨b,o,e,d⟩:=h i s c;refine⟨b,o,[I6 s],e,Qb.ah _ _ _,rfl,?_,rfl⟩;intro j v hj;have O:j=0:=by
  exact TU
 subst O;simp at hj;subst hj;simpa using d
def sD(w g size)[Inhabited (Ix w g)]:CmpLays prog 101 #[] (GC (w:=w) (g:=g)) 2 a_ g 0 size w:=by
 intro m r O _ x y;have u:∀(b o:Nat)(v:Value),b≠g->w.cell? ⟨b,o,none⟩=some v->(sortWorldK (GC (w:=w) (g:=g)) 2 w g 0 m O r).cell? ⟨b,o,none⟩=some v:=λb o v z hv=>by
  have E:b<w.heap.size:=yO w ⟨b,o,none⟩ hv;unfold sortWorldK;have C:(grow (putRowK (GC (w:=w) (g:=g)) 2 (Sort.ahead w m) g 0 O) r).heap[b]?=(putRowK (GC (w:=w) (g:=g)) 2 (Sort.ahead w m) g 0 O).heap[b]?:=heap_grow_old _ _ (by simpa[putRowK] using E);rw[yR (w:=putRowK (GC (w:=w) (g:=g)) 2 (Sort.ahead w m) g 0 O) C];exact(cell?_putRow_other id (Sort.ahead w m) g 0 (flatK (GC (w:=w) (g:=g)) 2 O) ⟨b,o,none⟩ (Or.inl z)).c hv
 obtain⟨⟨x1,G⟩,D,a,c,p,A⟩:=x;obtain⟨⟨k,H⟩,hy3,b,d,t,B⟩:=y;simp only at p t;subst p;subst t;refine(show Ca 101 #[.agg #[.int .i64 x1.af,.slice a x1.K.length c],.agg #[.int .i64 k.af,.slice b k.K.length d]] _ _ from zld ⟨x1.af,x1.K⟩ ⟨k.af,k.K⟩ a b c d _ (iu λi s n=>?_) (iu λi s n=>?_) (by simp only at D⊢;omega) (by simp only at hy3⊢;omega)).j λe w' q=>⟨q.1,q.2.2⟩
 .obtain⟨l,o',e,f,hv⟩:=A i s n;exact⟨l,o',e,u _ _ _ f hv⟩
 obtain⟨l,o',e,f,hv⟩:=B i s n;exact⟨l,o',e,u _ _ _ f hv⟩
def LH(L:List It):Prop:=L.Pairwise λx y=>ED x y<=0
def r7(w):(isAgg 45).run prog w=.ok true w:=isAgg45 w
def rl(w):(Go.sizeOf 45).run prog w=.ok 2 w:=sizeOf45 w
def lX{α}[Inhabited α](enc)(a:∀x,(enc x).length=2)(l:List α):(flatK enc 2 l.toArray).toList=l.flatMap enc:=by
 apply YA;intro t;by_cases ht:t<l.length*2
 .have e:(flatK enc 2 l.toArray).toList[t]?=some ((enc l.toArray[t/2]!)[t%2]!):=by
   rw[Yh,<-get_flatK enc 2 l.toArray t Mq];have:t<(flatK enc 2 l.toArray).size:=Mq;rw[getElem!_pos _ t this];simp
  have hl:t/2<l.length:=qd;have d:l[t/2]?=some (l[t/2]'hl):=JZ;have b:t%2<(enc l[t/2]).length:=by rw[a];omega
  have c:=FK (cells:=enc) (m:=2) a l (t/2) l[t/2] (t%2) ((enc l[t/2])[t%2]) d (by simp[b]);rw[show t/2*2+t%2=t by omega]at c;rw[e,c];have f:l.toArray[t/2]! =l[t/2]:=JZ;rw[f,getElem!_pos (enc (l[t/2]'hl)) (t%2) b]
 have:(l.flatMap enc).length=l.length*2:=by
  rw[List.length_flatMap];have key:∀l:List α,(l.map λx=>(enc x).length).sum=l.length*2:=λl=>by
   induction l with
   |nil=>rfl
   |cons x l O=>rw[yq,YU,O,a,yI];omega
  exact key l
 rw[Yi (show(flatK enc 2 l.toArray).toList.length<=t by simp;omega),Yi (show(l.flatMap enc).length<=t by omega)]
def xE{w g n d O e b}(F)(a:w.heap[g]?=some (.cells O e b)):(grow (putRow id (Sort.ahead w n) g 0 F) d).heap[g]?=some (.cells (putCells id 0 F O) e b):=by
 have c:g<w.heap.size:=(yj.1 a).1;rw[heap_grow_old _ _ (by simpa using c)];simp[putRow,mapBlock,Sort.ahead,YT,a,onCells]
def lK{w:World}{g n b}(F):w.grownBy (grow (putRow id (Sort.ahead w n) g 0 F) b) (some g):=by
 refine⟨rfl,rfl,rfl,qe,λk hk a=>?_⟩;rw[heap_grow_old _ _ OW];have:g≠k:=λe=>a Gx;simp[putRow,mapBlock,Sort.ahead,YT,this]
def xO(O F)(h:F.size<=O.size):(putCells id 0 F O).toList.take F.size=F.toList:=by
 apply YA;intro j;by_cases hj:j<F.size
 .rw[Wq hj,Yh,Yh];simp[putCells,hj,show j<O.size by omega]
 rw[List.getElem?_take_eq_none qd,Yi qf]
def xk{α}[Inhabited α]{a}{l:List α}{d}(k:PermIn 0 l.toArray.size l.toArray d)(g:SortedIn a 0 l.toArray.size d):d.toList.Perm l/\d.toList.Pairwise (λx y=>a y x=false):=by
 obtain⟨hz,_,O⟩:=k;have c:d.size=l.length:=Nv;have e:d.extract 0 l.toArray.size=d:=by rw[<-hz];exact Array.extract_size
 have b:l.toArray.extract 0 l.toArray.size=l.toArray:=Array.extract_size;rw[e,b]at O;refine⟨O,?_⟩;rw[List.pairwise_iff_getElem];intro i j hi hj f;have h:=g i j (yk _) f (by simpa[c] using hj);have m:i<d.size:=OX;have n:j<d.size:=QY;rw[getElem!_pos d i m,getElem!_pos d j n]at h;simpa using h
def g_(b1 base:Nat)(a:Option Addr)(c:Nat)(L:List H5)(w:World)(e:Ending)(w':World):Prop:=e=.returned (.tuple #[])/\∃L',L'.Perm L/\LH (L'.map Prod.fst)/\Iw w' b1 base a c L'/\w.grownBy w' (Value.slice a L.length c).ownBlock
def wF(g c G base L w)(h:Iw w G base (some ⟨g,0,none⟩) c L)(h3:∀x∈L,x.1.K.length<=3)(hl:L.length<=4000000000) :
  Ca 100 #[.slice (some ⟨g,0,none⟩) L.length c,.func (.func 101) #[] #[]] w (g_ G base (some ⟨g,0,none⟩) c L w):=by
 rcases h.row.2 with⟨e,_⟩|⟨g',cap,ar,e,aA,O,J,au,I,ax⟩
 .cases e
 simp only[YX,YY,Addr.mk.injEq,and_true]at e;obtain⟨rfl,_,rfl⟩:=e;have ay:∀x∈L,rP w g x:=λx N=>by
  obtain⟨⟨D,C,p⟩,u⟩:=h.all x N;refine⟨h3 x N,D,C,p,λi s r=>?_⟩;rw[p]at u;obtain⟨b,H,_,hc,_⟩:=BM u (show(Ax x.1.K)[i]?=some (I6 s) by simp[Ax,r]);refine⟨b,0,H,λq=>?_,Nx⟩;obtain⟨c2,M⟩:=AO u (k:=b) (by rw[H];rfl);rw[q]at M;exact Cf O M qh
 letI:Inhabited (Ix w g):=⟨ixD w g⟩
 obtain⟨d,hd⟩:∃d:List (Ix w g),d.map Subtype.val=L:=⟨L.attach.map λy=>⟨y.1,ay y.1 y.2⟩,by rw[Yv];exact List.attach_map_subtype_val L⟩
 have m:d.length=L.length:=by rw[<-hd,yt]
 have U:∀l:List (Ix w g),l.flatMap GC=(l.map Subtype.val).flatMap Fb:=λl=>by
  rw[Ko];rfl
 have hH:HoldsK (GC (w:=w) (g:=g)) 2 w g 0 d.toArray:=by
  intro j hj;have W:j<L.length*2:=by simpa[m] using hj
  refine⟨?_,O5⟩;have E:(ar.toList.take (L.length*2))[j]?=(L.flatMap Fb)[j]?:=by rw[ax]
  rw[Wq W]at E;have h2:(flatK (GC (w:=w) (g:=g)) 2 d.toArray).toList[j]?=(L.flatMap Fb)[j]?:=by rw[lX GC (λ_=>rfl),U,hd]
  have Y:(flatK (GC (w:=w) (g:=g)) 2 d.toArray)[j]?=some (flatK (GC (w:=w) (g:=g)) 2 d.toArray)[j]!:=by
   rw[getElem!_pos _ j hj];simp
  simp only[World.cell?,O,Yc];simp only[Option.isSome_none,Yn,if_false,id];rw[<-Yh,E,<-h2,Yh,Y]
 have B:=AnyQ.slices_SortFunc sortN 2 r7 rl (GC (w:=w) (g:=g)) (λ_=>rfl) (λx v hv=>by
  obtain⟨y,_,D,C,p,_⟩:=x;simp only[GC,Fb,yG,YF,or_false]at hv;rcases hv with rfl|rfl
  .rfl
  rw[p];rfl) a_ (r9 w g) 101 #[] g 0 c d.toArray w (enters_of func101 qg rfl) (sD w g d.toArray.size) hH (yj.1 O).1 (by simp[m];omega)
 rw[show d.toArray.size=L.length from by simpa using m]at B;change Ca 100 #[.slice (some ⟨g,0,none⟩) L.length c,_] _ _ at B;refine B.j ?_;rintro x w' ⟨rfl,f,n,os,T,r,rfl⟩;rw[<-show d.toArray.size=L.length from by simpa using m]at T r;obtain⟨A,p2⟩:=xk T r;have R:f.size=L.length:=by rw[<-m,<-A.length_eq];simp
 have hF:(flatK (GC (w:=w) (g:=g)) 2 f).toList=(f.toList.map Subtype.val).flatMap Fb:=by
  rw[<-U,<-lX GC (λ_=>rfl)]
 have t:(flatK (GC (w:=w) (g:=g)) 2 f).size=L.length*2:=by simp[R]
 refine⟨rfl,f.toList.map Subtype.val,by rw[<-hd];exact A.map _,?_,⟨?_,λy hy=>?_⟩,lK _⟩
 .unfold LH;rw[Kj,Kj];refine p2.imp λ{a b}q=>?_;have q':¬ED b.1.1 a.1.1<0:=of_decide_eq_false q;have:=fP.swap a.1.1 b.1.1;show ED a.1.1 b.1.1<=0;omega
 .have o:(f.toList.map Subtype.val).length=L.length:=by simp[R]
  rw[o];refine⟨by rw[<-hF,Wu,t],.inr ⟨g,c,_,rfl,aA,xE _ O,J,au,by simp[putCells,I],?_⟩⟩;rw[<-t,xO _ _ (by rw[t,I];exact Yl 2 J),hF]
 obtain⟨z,Z,rfl⟩:=yz.1 hy;have az:z.1∈L:=by
  rw[<-hd];exact yU (A.mem_iff.1 Z)
 exact(h.all z.1 az).grown (lK _) (λk hk=>by cases hk;exact⟨_,O⟩) qh
def sP(w):Ca 222 #[.slice none 0 0,I6 0,I6 0,.func (.func 101) #[] #[]] w λe w'=>e=.returned (.tuple #[])/\w'=w:=by
 go_enter func222,ntmps222;go_wp2_with fail
 go_loopw [8] (λiv wr=>iv=I6 1/\wr=w) (λ_ _=>0)
 case atStart=>exact⟨rfl,rfl⟩
 case round=>
  obtain⟨rfl,rfl⟩:=hrel;go_wp2_with fail;go_end0;exact⟨rfl,rfl⟩
def s5(w):Ca 162 #[.slice none 0 0,I6 0,I6 0,I6 0,.func (.func 101) #[] #[]] w λe w'=>e=.returned (.tuple #[])/\w'=w:=by
 have b:=Aa (sP w);go_enter func162,ntmps162;go_wp2_with fail
 go_loopw [1,2] (λa O wr=>a=I6 0/\O=I6 0/\wr=w) (λ_ _ _=>0)
 case atStart=>exact⟨rfl,rfl,rfl⟩
 case round=>
  obtain⟨rfl,rfl,rfl⟩:=hrel;go_wp2_with fail;refine b.o.j ?_;rintro e w' ⟨rfl,rfl⟩;go_wp2_with fail;exact bodyPost_ret (v:=.tuple #[]) (results_none rfl _ _ _) rfl ⟨rfl,rfl⟩
def r5(w):Ca 163 #[.int .u64 0] w λe w'=>e=.returned (I6 0)/\w'=w:=by
 have h:=Any.bits_Len (SlLaysF0.n15.bits (P:=prog) (ρ:=sortN_ren) { sortN with }) 0 w qd qd;exact h
def uP(w):Ca 100 #[.slice none 0 0,.func (.func 101) #[] #[]] w λe w'=>e=.returned (.tuple #[])/\w'=w:=by
 obtain⟨a,O⟩:=Ah (r5 w) (s5 w);go_enter func100,ntmps100;go_wp2_with fail;refine a.o.j ?_;rintro e w' ⟨rfl,rfl⟩;go_wp2_with fail;refine O.o.j ?_;rintro e w' ⟨rfl,rfl⟩;go_wp2_with fail;go_end0;exact⟨rfl,rfl⟩
def mG(a c b base L w)(h:Iw w b base a c L)(f:∀x∈L,x.1.K.length<=3)(hl:L.length<=4000000000) :
  Ca 100 #[.slice a L.length c,.func (.func 101) #[] #[]] w (g_ b base a c L w):=by
 rcases h.row.2 with⟨e,_⟩|⟨g,cap,O,e,_⟩
 .simp only[YX]at e;obtain⟨rfl,i,rfl⟩:=e;have d:L=[]:=YL.1 i;subst d;refine(uP w).j ?_;rintro e w' ⟨rfl,rfl⟩;exact⟨rfl,[],.refl _,List.Pairwise.nil,h,⟨rfl,rfl,rfl,yu _,λ_ _ _=>rfl⟩⟩
 simp only[YX]at e;obtain⟨rfl,_,_⟩:=e;exact wF g c b base L w h f hl
end
def GP(r:Ru)(fs:List F):List (List F):=Ci (Bm r.v [] 0) fs []
def UZ{X:List Cx}{r:Ru}{fs vw}(O:X.map Cx.cp=Bm r.v [] 0)(e:∀c∈X,gV vw c=fs.filter (Ae c.cp.F))(k):BK ((X.take k).map (Ce vw)) []=Ci ((Bm r.v [] 0).take k) fs []:=by
 refine j8 (fs:=fs) _ _ ?_ (λj c d b hd=>?_) []
 .rw[<-O,yt,<-List.map_take,yt]
 rw[<-O,<-List.map_take,yA]at hd;rw[yA]at b;obtain⟨x,a,rfl⟩:=Yd.1 b;rw[a]at hd;cases hd;exact⟨rfl,rfl,rfl,rfl,e x (YM (yd a))⟩
def Uz{X:List Cx}{r fs vw}(O:X.map Cx.cp=Bm r.v [] 0)(a:∀c∈X,gV vw c=fs.filter (Ae c.cp.F)):BK (X.map (Ce vw)) []=GP r fs:=by
 have h:=UZ O a X.length;rw[yV,yT (by rw[<-O];simp)]at h;exact h
def gE{vw}:∀(X:List Cx)(TT:List (List F)),(Fm vw X TT).map List.length=(List.range (X.length+1)).map λk=>(TT.flatMap (BK ((X.take k).map (Ce vw)))).length
 |[],TT=>by
  have e:TT.flatMap (BK (([]:List Cx).map (Ce vw)))=TT:=by
   exact TM
  simp only[Fm,yq,YB,Yz,Yc,List.range_one,List.take_nil];rw[<-YB (f:=Ce vw),e]
 |c::X,TT=>by
  rw[Fm,yq,gE X,yI,show List.range (X.length+1+1)=0::(List.range (X.length+1)).map Nat.succ from List.range_succ_eq_map,yq,Yv];congr 1
  .have e:TT.flatMap (BK (((c::X).take 0).map (Ce vw)))=TT:=by
    simp only[Y0,YB,BK];exact List.flatMap_singleton' TT
   rw[e]
  refine Ye λk _=>?_;show _=(TT.flatMap (BK (((c::X).take (k+1)).map (Ce vw)))).length;rw[YS,<-Qe]
def Mo(d:Int)(r:Ru)(fs:List F):Int:=if d=0 then((AP r.v fs [⟨[],[]⟩] 0).2:Int) else((GP r fs).length:Int)
def ZO{m:MK}{r fs vw d}(g:Fq r.v [] 0)(a:m.X.map Cx.cp=Bm r.v [] 0)(b:∀c∈m.X,gV vw c=fs.filter (Ae c.cp.F))(hd:m.aP d):m.sz vw=Mo d r fs:=by
 cases m with
 |inl f=>
  obtain⟨R,c⟩:=f;have O:d=0:=hd;subst O;simp only[MK.X]at a b;show Oc vw R.X=_;rw[Mo,if_pos rfl,W_ g,Oc,gE,List.range_succ_eq_map,yq,YU,Yv];have hl:R.X.length=r.v.length:=by
   have:=congrArg List.length a;rw[yt,Na]at this;exact this
  have e:((List.range R.X.length).map ((λk=>(([[]]:List (List F)).flatMap (BK ((R.X.take k).map (Ce vw)))).length)∘Nat.succ))=(List.range r.v.length).map λj=>(Ci ((Bm r.v [] 0).take (j+1)) fs []).length:=by
   rw[hl];refine Ye λk _=>?_;show(([[]]:List (List F)).flatMap (BK ((R.X.take (k+1)).map (Ce vw)))).length=_;rw[yL,YQ,yQ,UZ a b]
  rw[e];simp only[Y0,YB,BK,yL,YQ,yQ,yI,Yz];omega
 |inr t=>
  have O:d=1:=hd;subst O;simp only[MK.X]at a b;show((BK (t.X.map (Ce vw)) []).length:Int)=_;rw[Mo,if_neg qh,Uz a b]
/-! ### In order -/
def SR{fs}:∀(O:List Cp)(T V:List F),V∈Ci O fs T->∃W,V=T++W/\∀f∈W,f∈fs
 |[],T,V,h=>by
  simp only[Ci,yp]at h
  exact⟨[],by simp[h],λf b=>by cases b⟩
 |d::O,T,V,h=>by
  simp only[Ci]at h
  split at h
  .split at h
   .simp at h
   exact SR O T V h
  obtain⟨f,b,i⟩:=Yo.1 h
  obtain⟨W,e,c⟩:=SR O (T++[f]) V i
  refine⟨f::W,by simp[e],λg a=>?_⟩
  rcases yG.1 a with rfl|a
  .exact(yf.1 b).1
  exact c g a
def Xh:∀{fs:List F}{last:Int},BN last fs=true->fs.Pairwise λf g=>f.tag<g.tag
 |[],_,_=>List.Pairwise.nil
 |f::r,last,h=>by
  have O:=h
  simp only[BN,yi]at O
  exact WZ.2 ⟨λg a=>Qd O.2 g a,Xh O.2⟩
def uW{fs rs}(a:∀r∈rs,Fq r.v [] 0):∀i,EY fs i rs=(rs.zipIdx i).flatMap λy=>(GP y.1 fs).map λT=>(⟨(y.2:Int),T.map (·.tag)⟩:It):=by
 induction rs with
 |nil=>intro i;rfl
 |cons r rs O=>
  intro i;rw[EY,O (λq b=>a q (by simp[b])),tG (a r qe),List.zipIdx_cons,yL,Yv];rfl
section
open Go.Maps
attribute [local go_sem ↓] wp_at_zero wp_at_succ
structure IW(W:World) (b pb qb:Nat) (P Q:List H5) (a:Option Addr) (c:Nat) (a':Option Addr) (c':Nat):Prop where
 p:W.heap[pb]?=some (.cells #[.slice a P.length c] 36 (0,0))
 q:W.heap[qb]?=some (.cells #[.slice a' Q.length c'] 36 (0,0))
 ip:Iw W b b a c P
 iq:Iw W b b a' c' Q
 ap:BI (.slice a P.length c) (.slice a' Q.length c')
def IW.swap{W b pb d P Q a c e f}(h:IW W b pb d P Q a c e f):IW W b d pb Q P e f a c:=⟨h.q,h.p,h.iq,h.ip,λg j i=>h.ap g i j⟩
def Iw.bJ{w w' e base a c L}(h:Iw w e base a c L)(i:∀(k:Nat)c t,(t=45∨t=3)->e<=k∨base<=k->w.heap[k]?=some (.cells c t (0,0))->w'.heap[k]?=w.heap[k]?):Iw w' e base a c L:=
 ⟨Bv h.row (λg b=>by
  obtain⟨c,f⟩:=AO h.row b
  exact i g c _ (.inl rfl) (.inl (h.row.lt g b).1) f),λx d=>⟨(h.all x d).ts,Bv (h.all x d).ot (λg b=>by
  obtain⟨c,f⟩:=AO (h.all x d).ot b
  exact i g c _ (.inr rfl) (.inr ((h.all x d).ot.lt g b).1) f)⟩⟩
def IW.keep{W i b pb f P Q a c j l}(h:IW W b pb f P Q a c j l)(n:b<=pb)(m:b<=f)(e:∀(k:Nat)c t,b<=k->W.heap[k]?=some (.cells c t (0,0))->i.heap[k]?=W.heap[k]?):IW i b pb f P Q a c j l:=
 ⟨(e _ _ _ n h.p).c h.p,(e _ _ _ m h.q).c h.q,h.ip.bJ λk c t _ d g=>e k c t (by rcases d with d|d<;>exact d) g,h.iq.bJ λk c t _ d g=>e k c t (by rcases d with d|d<;>exact d) g,h.ap⟩
def IW.add{W o d n b pb z P Q a c s r x j m}(h:IW W b pb z P Q a c s r)(u:pb≠z)(I:Iv W b x)(i:Bw W o)(K:d.ownsRow b 45 2 (.slice j (P.length+1) m) (P.length+1) (P.flatMap Fb++Fb x))(l:o.grownBy d (Value.slice a P.length c).ownBlock)(hl:(Value.slice j (P.length+1) m).ownBlock=(Value.slice a P.length c).ownBlock∨(Value.slice j (P.length+1) m).ownBlock=some o.heap.size)(N:n.heap[pb]?=some (.cells #[.slice j (P.length+1) m] 36 (0,0)))(G:Turned d n pb):IW n b pb z (P++[x]) Q j m s r:=by
 have D:=h.ip.C i;have A:=h.iq.C i;have M:=Iw.snoc D (I.C i) K l;have w:∀k,(Value.slice a P.length c).ownBlock=some k->∃c,o.heap[k]?=some (.cells c 45 (0,0)):=λk f=>AO D.row f;have H:=(i.block _ (Ak h.p)).c h.p;have L:=(i.block _ (Ak h.q)).c h.q;have T:d.heap[pb]?=some (.cells #[.slice a P.length c] 36 (0,0)):=Ef H l w qh;have tys:∀(k:Nat)c t,(t=45∨t=3)->d.heap[k]?=some (.cells c t (0,0))->n.heap[k]?=d.heap[k]?:=λk c t O f=>G.block k λe=>by
  subst e;exact Cf f T (by rcases O with rfl|rfl<;>decide)
 have R:Iw d b b s r Q:=⟨Bv A.row (λg E=>l.block g (A.row.lt g E).2 (λe=>h.ap g e.y E)),λy J=>(A.all y J).grown l w qh⟩
 refine⟨by simpa using N,(G.block _ (λe=>u e.y)).c (Ef L l w qh),?_,?_,?_⟩
 .exact M.bJ λk c t O _ f=>tys k c t O f
 .exact R.bJ λk c t O _ f=>tys k c t O f
 intro g v B;have U:=(h.iq.row.lt g B).2;rw[yP]at v;rcases hl with hl|hl
 .exact h.ap g (hl.y.c v) B
 have e:=hl.y.c v;injection e with e;have:=i.size;omega
def gB{S W A r g pb v n xs b E}(d:Bw W A)(q:A.ownsRow b 45 2 v n xs)(j:A.grownBy r v.ownBlock)(C:r.heap[pb]?=some (.cells E 36 (0,0)))(p:Turned r g pb):KN S W g/\(∀(k:Nat)(o:Obj),W.heap[k]?=some o->Es o=true->g.heap[k]?=some o)/\W.heap.size<=g.heap.size/\∀(k:Nat)(o:Obj),W.heap[k]?=some o->k<b->k≠pb->g.heap[k]?=some o:=by
 have key:∀(k:Nat)(o:Obj),W.heap[k]?=some o->k≠pb->v.ownBlock≠some k->g.heap[k]?=some o:=λk o a z w=>by
  have hl:=(yj.1 a).1;rw[p.block k z,j.block k (yg hl d.size) (λe=>w e.y),d.block k hl];exact a
 have x:∀(k:Nat)(o:Obj),W.heap[k]?=some o->(∀c t m,o≠.cells c t m)->g.heap[k]?=some o:=λk o a O=>by
  have hl:=(yj.1 a).1;have l:=(d.block k hl).c a;refine key k o a (λe=>?_) (λe=>?_)
  .subst e;have i:r.heap[k]?=some o:=(j.block k (yg hl d.size) (λe=>by
    obtain⟨c,f⟩:=AO q e.y;rw[l]at f;injection f with f;exact O _ _ _ f)).c l
   rw[C]at i;injection i with i;exact O _ _ _ i.y
  obtain⟨c,f⟩:=AO q e;rw[l]at f;injection f with f;exact O _ _ _ f
 have u:W.heap.size<=g.heap.size:=by
  have z:=d.size;have w:=j.size;have G:=p.size;omega
 refine⟨⟨⟨⟨p.os.c (j.os.c d.os),p.tape.c (j.tape.c d.tape),p.output.c (j.output.c d.output),u,λk a=>absurd a qd⟩,λk c t m a B=>?_,λk es H a _=>x k _ a (λ_ _ _ e=>qo)⟩,λk o a O=>x k o a (λc t m e=>Uc)⟩,λk o a O=>x k o a (λc t m e=>Uc),u,λk o a z w=>key k o a w (λe=>by have:=(q.lt k e).1;omega)⟩;have hl:=Ak a;have l:=(d.block k hl).c a;refine key k _ a (λe=>?_) (λe=>?_)
 .subst e;have i:r.heap[k]?=some (.cells c t m):=(j.block k (yg hl d.size) (λe=>by
   obtain⟨D,s⟩:=AO q e.y;rw[l]at s;cases s;revert B
   decide)).c l
  rw[C]at i;cases i;revert B
  decide
 obtain⟨D,s⟩:=AO q e;rw[l]at s;cases s;revert B
 decide
def jJ{S W f b v n xs}(j:W.ownsRow b 45 2 v n xs)(d:W.grownBy f v.ownBlock):KN S W f/\(∀(k:Nat)(o:Obj),W.heap[k]?=some o->(∀c,o≠.cells c 45 (0,0))->f.heap[k]?=some o)/\∀(k:Nat)(o:Obj),W.heap[k]?=some o->k<b->f.heap[k]?=some o:=by
 have key:∀(k:Nat)(o:Obj),W.heap[k]?=some o->(∀c,o≠.cells c 45 (0,0))->f.heap[k]?=some o:=λk o a O=>(d.block k (yj.1 a).1 (λe=>by
  obtain⟨c,g⟩:=AO j e.y;rw[a]at g;injection g with g;exact O _ g)).c a
 refine⟨⟨⟨⟨d.os,d.tape,d.output,d.size,λk a=>absurd a qd⟩,λk c t m a hn=>key k _ a (λi e=>Uh),λk es p a _=>key k _ a (λi e=>qo)⟩,λk o a O=>key k o a (λi e=>Uc)⟩,key,λk o a l=>(d.block k (yj.1 a).1 (λe=>by have:=(j.lt k e.y).1;omega)).c a⟩
def k_{S W b pb j}(f:W.heap[pb]?=some (.cells j 36 (0,0)))(g:Turned W b pb):KN S W b/\∀(k:Nat)(o:Obj),W.heap[k]?=some o->(∀c,o≠.cells c 36 (0,0))->b.heap[k]?=some o:=by
 have key:∀(k:Nat)(o:Obj),W.heap[k]?=some o->(∀c,o≠.cells c 36 (0,0))->b.heap[k]?=some o:=λk o a O=>(g.block k (λe=>by
  subst e;rw[a]at f;injection f with f;exact O _ f)).c a
 exact⟨⟨⟨g.d (yk _),λk c t l a hn=>key k _ a (λi e=>Uh),λk es m a _=>key k _ a (λi e=>qo)⟩,λk o a O=>key k o a (λi e=>Uc)⟩,key⟩
def DG(xs:List Ne):List H5:=(xs.filter λe=>decide (e.sg=1)).map λe=>(e.it,e.sl)
def Dg(xs:List Ne):List H5:=(xs.filter λe=>!decide (e.sg=1)).map λe=>(e.it,e.sl)
def kY{xs x}(h:x.sg=1):DG (xs++[x])=DG xs++[(x.it,x.sl)]/\Dg (xs++[x])=Dg xs:=by
 unfold DG Dg;rw[yM,yM];simp[h]
def jc{xs x}(h:x.sg≠1):DG (xs++[x])=DG xs/\Dg (xs++[x])=Dg xs++[(x.it,x.sl)]:=by
 unfold DG Dg;rw[yM,yM];simp[h]
def kU{xs y}(h:y∈DG xs∨y∈Dg xs):∃e∈xs,y=(e.it,e.sl):=by
 rcases h with h|h<;>obtain⟨e,a,rfl⟩:=yz.1 h<;>exact⟨e,(yf.1 a).1,rfl⟩
def kH(xs):(DG xs).length<=xs.length/\(Dg xs).length<=xs.length:=by
 unfold DG Dg;simp only[yt];exact⟨y8 _ _,y8 _ _⟩
structure J_(N:NT) (w0:World) (ab db:Nat) (xs:List Ne) (W:World):Prop where
 ex:∃a c a' c',IW W w0.heap.size ab db (DG xs) (Dg xs) a c a' c'
 ap:xs.Pairwise λx y=>BI x.sl y.sl
 l3:∀x∈xs,x.it.K.length<=3
 fr:Av N.Sm w0 W
def J_.tn{N w0 e f d xs A B}(h:J_ N w0 e f xs A)(b:Tn N.Sm Es d A B)(hS:∀g,N.Sm g->g<w0.heap.size)(hd:w0.heap.size<=d)(O:w0.heap.size<=e)(s:w0.heap.size<=f):J_ N w0 e f xs B:=by
 obtain⟨a,c,r,u,p⟩:=h.ex;refine⟨⟨a,c,r,u,p.keep O s λk cs t v o=>(b.block k _ o (λq=>by have:=hS k q;omega) (.inl rfl)).c o.y⟩,h.ap,h.l3,⟨h.fr.rest.c b.rest,λg m j=>?_⟩⟩;have hl:g<A.heap.size:=yg m h.fr.rest.size;have n:A.heap[g]?=some A.heap[g]:=JZ;rw[b.block g _ n j (.inr qd),<-n];exact h.fr.block g m j
structure MF(N:NT) (w0:World) (ab db:Nat) (xs:List Ne) (x:Ne) (W:World):Prop where
 i:J_ N w0 ab db xs W
 p:Iv W w0.heap.size (x.it,x.sl)
 ap:∀y∈xs,BI y.sl x.sl
 l3:x.it.K.length<=3
 few:xs.length<=2000000000
 sg:x.sg=1∨x.sg = -1
def MF.tn{N w0 b e d xs x A B}(h:MF N w0 b e xs x A)(f:Tn (λ_=>False) Es d A B)(hS:∀g,N.Sm g->g<w0.heap.size)(hd:w0.heap.size<=d)(O:w0.heap.size<=b)(m:w0.heap.size<=e):MF N w0 b e xs x B:=
 ⟨h.i.tn (f.j (λ_ q=>q.elim) (λ_ q=>q) AH) hS hd O m,⟨h.p.ts,Bv h.p.ot λg n=>by
  obtain⟨c,k⟩:=AO h.p.ot n
  rw[f.block g _ k (λq=>q) (.inl rfl),k]⟩,h.ap,h.l3,h.few,h.sg⟩
def J_.ew{N w0 b f xs x A B}(h:J_ N w0 b f xs A)(u:Bw A B)(j:fJ xs x A B)(hS:∀g,N.Sm g->g<w0.heap.size)(z:w0.heap.size<=b)(hd:w0.heap.size<=f):MF N w0 b f xs x B:=by
 obtain⟨v,r,n,s,C⟩:=j;have k:=h.fr.rest.size;refine⟨h.tn (d:=w0.heap.size) (Tn.m u) hS AH z hd,⟨r,CA n k⟩,λy p g o af=>?_,s,v,C⟩;have G:=(n.lt g af).1;obtain⟨a,c,D,E,t⟩:=h.ex;have O:(y.it,y.sl)∈DG xs∨(y.it,y.sl)∈Dg xs:=by
  by_cases e:y.sg=1
  .exact .inl (yz.2 ⟨y,yf.2 ⟨p,by simp[e]⟩,rfl⟩)
  exact .inr (yz.2 ⟨y,yf.2 ⟨p,by simp[e]⟩,rfl⟩)
 rcases O with q|q
 .have:=((t.ip.all _ q).ot.lt g o).2;omega
 have:=((t.iq.all _ q).ot.lt g o).2;omega
end
section
open Go.Maps
attribute [local go_sem ↓] wp_at_zero wp_at_succ
attribute [local go_sem] Oper.semAt_some
def zmx{l n P}{o:Oper}{a w K Q}(hd:∀c,o.op≠.defer c)(h:o.wp P a w K Q):o.wpIn (Fence.wide.inRound l) n P a w K Q:=by
 refine⟨λ_ _=>trivial,?_⟩;rw[Oper.semAt_plain _ _ _ hd];unfold Oper.wp at h;generalize (execOp a.eval o).run P w=r at h⊢;cases r with
 |ok x w'=>
  cases x<;>simp only[Oper.upon,Oper.uponIn]at h⊢<;>first
   |exact h
   |exact h.elim
   |(refine⟨λhx=>Ua,CallsIn.inRound l (callsIn_wide.2 (Calls.j h ?_))⟩;intro e O b;cases e<;>exact b)
   |exact⟨λhx=>Ua,λc cs _=>let ⟨v,O,r,s⟩:=h c cs;⟨v,O,r,stepsIn_wide.2 s⟩⟩
 |halt x w'=>cases x<;>simp only[Oper.upon,Oper.uponIn]at h⊢<;>exact h
def nT{l k P w ops rest o a Q}(O:o.guard=none)(s x t)(A:o.op=.call { callee:=.builtin .append,args:=#[s,x],argTypes:=#[t,t] })(base e z size bytes)(H:P.underlying t=some (.slice e))(hinfo:(P.info? e).map (λi=>(i.zero,i.size,i.bytes))=some (some z,size,bytes))(q:z.cells.size=size)(y:0<size)(v n xs)(J:a.eval s=v)(g:w.ownsRow base e size v n xs)(p m c)(E:a.eval x=.slice p m c)(news)(hl:news.length=m*size)(f:p=none->m=0)(hnews:∀a,p=some a->∀j u,news[j]?=some u->w.cell? (a.add j)=some u)(I:∀u∈news,u.oneCell'=true)(r:n+m<=maxLen)(hbytes:(n+m)*bytes<=140737488355328)(hbase:base<=w.heap.size)(h:∀d b w',Hid (w'.ownsRow base e size (.slice d (n+m) b) (n+m) (xs++news))->Hid (w.grownBy w' v.ownBlock)->Hid ((Value.slice d (n+m) b).ownBlock=v.ownBlock∨(Value.slice d (n+m) b).ownBlock=some w.heap.size)->wpListIn (Fence.wide.inRound l) k P ops Q rest (a.put o.dst (.slice d (n+m) b)) w'):wpListIn (Fence.wide.inRound l) k P ops Q (o::rest) a w:=
 wpListIn_plain O λ_ K=>zmx (λc B=>by rw[A]at B;cases B) (Za s x t A base e z size bytes H hinfo q y v n xs J g p m c E news hl f hnews I r hbytes hbase λd b w' G D C=>K _ _ (h d b w' G D C))
def c_:∀(w:World)(a:Value),(Instr.makeFunc (.func 161) #[] #[a]).run prog w=.ok (.func (.func 161) #[] #[a]) w:=λ_ _=>by kernel_rfl
def ui(b w):Ca 99 #[Pn b] w λe w'=>e=.returned (.func (.func 161) #[] #[Pn w.heap.size])/\Hid (w'.heap[w.heap.size]?=some (.cells #[Pn b] 84 (0,0)))/\Bw w w':=by
 have f:=c_;go_enter func99,ntmps99;go_upto_region 1 with fail;refine Be ?_;intro g a O;obtain⟨c,d⟩:=Ah a O;clear a O;go_wp2_with fail;go_ret;exact⟨rfl,d,c.o⟩
def tp(N adr U fs V a g n w)(h:Em N adr U fs V a w)(p:∀(j:Nat)(old:List Kt),a[j]?=some old->∀x∈old,∃T,x=Ab adr T/\T.length<=3/\∀f∈T,f∈U)(o:∀(j:Nat)(m:MK)(old:List Kt),N.Ms[j]?=some m->a[j]?=some old->old.length+(BK (m.X.map (Ce (N.vw V fs))) []).length<=2000000)(b:w.heap[g]?=some (.cells #[Pn N.nw] 84 (0,0))) :
  Rr n prog 161 #[Pn g] Z7 N.Sm (KN N.Sm) fJ (FG N adr U fs V a) w:=by
 intro l J W e i O k;refine callsIn_wide.2 ?_;exact zO N adr U fs V a g l W (h.d e) p o ((e.block _ (Ak b)).c b) J w.heap.size e.size i O k
def oS{P:Prop}(h:P:=by
 rcases yn.1 hy with hy|hy
 .exact h.i.l3 y hy
 rw[yp.1 hy];exact h.l3
 ):P:=h
def pR{P:Prop}(h:P:=by
 have hl':g<W.heap.size:=yg O h.i.fr.rest.size;have e1:W.heap[g]?=some W.heap[g]:=by simp[hl']
 rw[k4 g _ e1 O (by omega),<-e1];exact h.i.fr.block g O hn
 ):P:=h
def vK{N w0 b m xs x W q d a c B w e f H}(h:MF N w0 b m xs x W)(l:IW W w0.heap.size b m (DG xs) (Dg xs) a c B w)(s:x.sg=1)(n:b≠m)(A:w0.heap.size<=b)(j:Bw W q)(D:d.ownsRow w0.heap.size 45 2 (.slice e ((DG xs).length+1) f) ((DG xs).length+1) ((DG xs).flatMap Fb++Fb (x.it,x.sl)))(o:q.grownBy d (Value.slice a (DG xs).length c).ownBlock)(hl:(Value.slice e ((DG xs).length+1) f).ownBlock=(Value.slice a (DG xs).length c).ownBlock∨(Value.slice e ((DG xs).length+1) f).ownBlock=some q.heap.size) :
  UH (KN N.Sm) (J_ N w0 b m (xs++[x])) W .normal H (d.setCell ⟨b,0,none⟩ (.slice e ((DG xs).length+1) f)):=by
 have t:d.heap[b]?=some (.cells #[.slice a (DG xs).length c] 36 (0,0)):=Ef ((j.block _ (Ak l.p)).c l.p) o (λk G=>AO (l.ip.C j).row G) qh;have r:Turned d (d.setCell ⟨b,0,none⟩ (.slice e ((DG xs).length+1) f)) b:=Turned.setCells [_] 0 d b;have J:=Co (i:=0) t (.slice e ((DG xs).length+1) f);have K:=l.add n h.p j D o hl (by simpa using J) r;obtain⟨u,I,E,k4⟩:=gB (S:=N.Sm) j (l.ip.C j).row o t r;refine⟨E,I,u,⟨⟨_,_,_,_,by rw[(kY s).1,(kY s).2];exact K⟩,Y9.2 ⟨h.i.ap,W6 _ _,λy hy z v=>by rw[yp.1 v];exact h.ap y hy⟩,λy hy=>?_,⟨h.i.fr.rest.c u.rest,λg O hn=>?_⟩⟩⟩
 .exact oS
 exact pR
def wd{N w0 m b xs x W q d a c B w e f H}(h:MF N w0 m b xs x W)(l:IW W w0.heap.size b m (Dg xs) (DG xs) a c B w)(s:x.sg≠1)(n:b≠m)(A:w0.heap.size<=b)(j:Bw W q)(D:d.ownsRow w0.heap.size 45 2 (.slice e ((Dg xs).length+1) f) ((Dg xs).length+1) ((Dg xs).flatMap Fb++Fb (x.it,x.sl)))(o:q.grownBy d (Value.slice a (Dg xs).length c).ownBlock)(hl:(Value.slice e ((Dg xs).length+1) f).ownBlock=(Value.slice a (Dg xs).length c).ownBlock∨(Value.slice e ((Dg xs).length+1) f).ownBlock=some q.heap.size) :
  UH (KN N.Sm) (J_ N w0 m b (xs++[x])) W .normal H (d.setCell ⟨b,0,none⟩ (.slice e ((Dg xs).length+1) f)):=by
 have t:d.heap[b]?=some (.cells #[.slice a (Dg xs).length c] 36 (0,0)):=Ef ((j.block _ (Ak l.p)).c l.p) o (λk G=>AO (l.ip.C j).row G) qh;have r:Turned d (d.setCell ⟨b,0,none⟩ (.slice e ((Dg xs).length+1) f)) b:=Turned.setCells [_] 0 d b;have J:=Co (i:=0) t (.slice e ((Dg xs).length+1) f);have K:=l.add n h.p j D o hl (by simpa using J) r;obtain⟨u,I,E,k4⟩:=gB (S:=N.Sm) j (l.ip.C j).row o t r;refine⟨E,I,u,⟨⟨_,_,_,_,by rw[(jc s).1,(jc s).2];exact K.swap⟩,Y9.2 ⟨h.i.ap,W6 _ _,λy hy z v=>by rw[yp.1 v];exact h.ap y hy⟩,λy hy=>?_,⟨h.i.fr.rest.c u.rest,λg O hn=>?_⟩⟩⟩
 .exact oS
 exact pR
def sT(N:NT)(adr:F->Addr)(U fs:List F)(V:List Value)(olds:List (List Kt))(w:World)(e:Ending)(w':World):Prop:=
 ∃(P Q:List H5)(a a':Option Addr)(c c':Nat)(xs:List Ne),e=.returned (.tuple #[.slice a P.length c,.slice a' Q.length c'])/\Iw w' w.heap.size w.heap.size a c P/\Iw w' w.heap.size w.heap.size a' c' Q/\BI (.slice a P.length c) (.slice a' Q.length c')/\(P++Q).Pairwise (λx y=>BI x.2 y.2)/\P.Perm (DG xs)/\Q.Perm (Dg xs)/\LH (P.map Prod.fst)/\LH (Q.map Prod.fst)/\FG N adr U fs V olds xs w'/\Av N.Sm w w'
def zmm(N adr U fs V v w)(h:Em N adr U fs V v w)(hO:∀(j:Nat)(old:List Kt),v[j]?=some old->∀x∈old,∃T,x=Ab adr T/\T.length<=3/\∀f∈T,f∈U)(hB:∀(j:Nat)(m:MK)(old:List Kt),N.Ms[j]?=some m->v[j]?=some old->old.length+(BK (m.X.map (Ce (N.vw V fs))) []).length<=2000000) :
  Ca 48 #[Pn N.nw] w (sT N adr U fs V v w):=by
 have HH:=Aa h;have HO:=Aa hO;have aQ:=Aa hB;have aq:=Aa (λg(q:N.Sm g)=>by
  obtain⟨m,hm,q⟩:=q;exact h.st.lt h.ol hm g q:∀g,N.Sm g->g<w.heap.size)
 clear h hO hB;refine (callsIn_wide (n:=9)).1 ?_;refine callsIn_of_wp_marks func48 rfl trivial ?_ rfl;simp only[ntmps48,K2,yI,Yz,Nat.reduceAdd,Nat.reduceSub,Ky,Kz,K3,KI,yY,Yb];refine wpIn_wide.2 ?_;go_upto_region 1 with fail;refine BF ?_;intro w1 a5 aX bf;obtain ⟨B1,Q1,Q2,aU⟩:=Bn a5 aX bf (ui N.nw w1);clear a5 aX bf;go_wp2_with fail;refine aU.o.rtn λw2 ⟨a9,ai⟩=>?_;have B2:=Aa ai;have aa:=B1.o.size;have bQ:=ai.size;have bN:=Ak a9.o;have aj:=Aa (B1.o.c (ai.j aa));obtain ⟨bK,bv⟩:=Ah (tp N adr U fs V v w1.heap.size 8 w2 (HH.o.d aj.o) HO.o aQ.o a9.o) (show J_ N w w.heap.size (w.heap.size+1) [] w2 from ⟨⟨none,0,none,0,⟨(ai.block _ (Ak Q1.o)).c Q1.o,(ai.block _ (Ak Q2.o)).c Q2.o,Iw.nil _ _ _,Iw.nil _ _ _,λg q=>Np⟩⟩,List.Pairwise.nil,λx Y=>(by cases Y),Av.m aj.o⟩);clear ai aU HO aQ;go_wp2_with fail;have aH:=Aa (λg q=>yg (aq.o g q) aj.o.size:∀ g,N.Sm g->g<w2.heap.size);have L:w.heap.size≠w.heap.size+1:=qd;refine (wpIn_wide (n:=9)).1 ?_;refine tx (α:=Ne) qh (gf:=161) (lb:=#[Pn w1.heap.size]) rfl (enters_of func161 qg rfl) (λ_=>rfl) aH.o bK.o (λh k=>KN.c h k) (λ_ _ h=>KN.m h) (λ_ _ _ _ h1 h2 h3=>KN.ba h1 h2 h3)
  (J_ N w w.heap.size (w.heap.size+1)) (λpre A B hA s=>hA.tn s aq.o aj.o.size AH (WJ _)) bv.o
  (MF N w w.heap.size (w.heap.size+1)) (λpre x A B hA hb ab=>hA.ew hb ab aq.o AH (WJ _))
  (λpre x a' W=>MF N w w.heap.size (w.heap.size+1) pre x W/\∃tb,W.heap[tb]?=some (.cells #[I6 x.it.af,x.sl] 45 (0,0))/\a'={ tmps:=#[Pn N.nw,undef,Pn w.heap.size,Pn (w.heap.size+1),Pn tb,I6 x.sg,Pn N.nw,.func (.func 161) #[] #[Pn w1.heap.size],.agg #[I6 x.it.af,x.sl],I6 x.sg,undef,undef,undef,undef,undef,undef,undef,undef,undef,undef,undef,undef,undef,undef,undef,undef],defers:=[] }) (λpre x a' A B h s=>⟨h.1.tn s aq.o aj.o.size AH (WJ _),by
   obtain⟨tb,h1,h2⟩:=h.2;exact⟨tb,s.block _ _ h1 (λq=>q) (.inl rfl),h2⟩⟩) (λxs A B h s=>h.tn s) ?assign ?body ?done
 case assign=>
  rintro l m pre ⟨⟨rule,tags⟩,sl,sg⟩ z K I hK;obtain⟨sa,sc,J⟩:=I.p.ts;simp only at J;subst J;obtain⟨Z,bC⟩:=Ah I hK;clear I hK;simp only[Z7];gi_wp2;exact bC.o _ _ Aj ⟨Z.o.tn (d:=w.heap.size) (Tn.m Aj) aq.o AH AH (WJ _),z.heap.size,heap_alloc_new _ _,rfl⟩
 case body=>
  rintro l m pre ⟨⟨rule,tags⟩,sl,sg⟩ a' z ⟨I,tb,aL,rfl⟩;obtain⟨⟨a,c,G,E,s⟩,aD,au,az⟩:=I.i;have Z:=Aa I;obtain⟨sa,sc,J⟩:=I.p.ts;simp only at J;subst J;obtain⟨t0,t1⟩:=Az aL;have p0:=AV s.p;have q0:=AV s.q;have ae:=kH pre;have bP:=I.few;have aT:=I.sg;simp only at aT;obtain⟨r,bU⟩:=Ah s aL;have bT:z.frozen? ⟨w.heap.size,0,none⟩=false:=by simp[World.frozen?,s.p]
  have bS:z.frozen? ⟨w.heap.size+1,0,none⟩=false:=by simp[World.frozen?,s.q]
  clear I s aD au az aL;rcases aT with rfl|rfl
  .obtain⟨ao,O⟩:=Ah r.o.ip.row (λo=>An.alloc AH o:∀o,Bw z (z.alloc o));have ac:w.heap.size<=z.heap.size:=Z.o.i.fr.rest.size
   gi_wp2_with (first|(gi_at_builtin;refine nT qi (.tmp 12) (.tmp 14) 36 qi w.heap.size 45 _ 2 32 underlying36 Vj qi qd _ (DG pre).length _ qi (AF ao.o (O.o _)) (some ⟨_,0,none⟩) 1 1 qi (Fb (⟨rule,tags⟩,.slice sa tags.length sc)) qi (λe=>qo) (Cv _ _ _ _ qG) rB qj qd qf ?_;intro a8 c8 W8 aK ax aI;have ah:=Aa (Ef ((O.o _).block _ (Ak r.o.p) |>.c r.o.p) ax.o (λk b=>AO (AF ao.o (O.o _)) b) qh);have bg:=AV ah.o;have bm:W8.frozen? ⟨w.heap.size,0,none⟩=false:=qz)|fail)
   exact vK Z.o r.o rfl L AH (O.o _) aK.o ax.o aI.o
  .obtain⟨ao,O⟩:=Ah r.o.swap.ip.row (λo=>An.alloc AH o:∀o,Bw z (z.alloc o));have ac:w.heap.size<=z.heap.size:=Z.o.i.fr.rest.size
   gi_wp2_with (first|(gi_at_builtin;refine nT qi (.tmp 16) (.tmp 18) 36 qi w.heap.size 45 _ 2 32 underlying36 Vj qi qd _ (Dg pre).length _ qi (AF ao.o (O.o _)) (some ⟨_,0,none⟩) 1 1 qi (Fb (⟨rule,tags⟩,.slice sa tags.length sc)) qi (λe=>qo) (Cv _ _ _ _ qG) rB qj qd qf ?_;intro a8 c8 W8 aK ax aI;have ah:=Aa (Ef ((O.o _).block _ (Ak r.o.swap.p) |>.c r.o.swap.p) ax.o (λk b=>AO (AF ao.o (O.o _)) b) qh);have bg:=AV ah.o;have bm:W8.frozen? ⟨w.heap.size+1,0,none⟩=false:=qz)|fail)
   exact wd Z.o r.o.swap (show(-1:Int)≠1 by decide) L.y (WJ _) (O.o _) aK.o ax.o aI.o
 case done=>
  rintro D xs z hD I hF hK;obtain⟨⟨a,c,G,E,s⟩,aD,au,az⟩:=I;have ad:=kH xs;have bV:xs.length<=2000000000:=by
   obtain⟨_,_,h0,_⟩:=hF;exact h0
  have p0:=AV s.p;have aR:=Aa (mG a c w.heap.size w.heap.size (DG xs) z s.ip (λx Y=>by
   obtain⟨e,he,rfl⟩:=kU (.inl Y);exact au e he) qd)
  obtain⟨r,HF,HK,bz,bE,aN⟩:=Jk s hF hK aD au az;clear s hF hK aD au az;go_wp2_with fail;refine aR.o.rtn λw3⟨P,hP,a7,aF,ar⟩=>?_;obtain⟨bl,ay,bj⟩:=jJ (S:=N.Sm) r.o.ip.row ar;have bk:P.length=(DG xs).length:=hP.length_eq;have bn:w3.heap[w.heap.size]?=some (.cells #[.slice a (DG xs).length c] 36 (0,0)):=ay _ _ r.o.p (λR e=>qo);have aJ:w3.heap[w.heap.size+1]?=some (.cells #[.slice G (Dg xs).length E] 36 (0,0)):=ay _ _ r.o.q (λR e=>qo);have aw:Iw w3 w.heap.size w.heap.size G E (Dg xs):=⟨Bv r.o.iq.row (λg am=>ar.block g (r.o.iq.row.lt g am).2 (λe=>r.o.ap g e.y am)),λy hy=>(r.o.iq.all y hy).grown ar (λk b=>AO r.o.ip.row b) qh⟩
  have q0:=AV aJ;have aZ:=Aa (mG G E w.heap.size w.heap.size (Dg xs) w3 aw (λx Y=>by
   obtain⟨e,he,rfl⟩:=kU (.inr Y);exact bE.o e he) qd)
  obtain⟨G3,bd,bL,br,HP,bI,ak,aG,bM⟩:=LA ar bl ay bj hP a7 aF aw bn;obtain⟨bD,bh⟩:=Ah aJ bk;clear hP a7 aF ar bl ay bj bn aJ aw bk aR p0;go_wp2_with fail;refine aZ.o.rtn λH⟨Q,hQ,aY,aE,aM⟩=>?_;obtain⟨aW,aA,a3⟩:=jJ (S:=N.Sm) aG.o.row aM;have aC:H.heap[w.heap.size]?=some (.cells #[.slice a (DG xs).length c] 36 (0,0)):=aA _ _ bM.o (λR e=>qo);have aB:H.heap[w.heap.size+1]?=some (.cells #[.slice G (Dg xs).length E] 36 (0,0)):=aA _ _ bD.o (λR e=>qo);have a4:H.heap[D]?=some (.deferred (some [])):=aA _ _ (bL.o _ _ HK.o (λR e=>qo)) (λR e=>qo);have p4:=AV aC;have q4:=AV aB;have bO:H.frozen? ⟨w.heap.size,0,none⟩=false:=by simp[World.frozen?,aC]
  have bR:H.frozen? ⟨w.heap.size+1,0,none⟩=false:=by simp[World.frozen?,aB]
  obtain⟨G4,bc,bG,HQ,bi,aV,bo,bq,bu⟩:=LA aM aW a3 hQ aY aE aC aB a4;clear hQ aY aE aM aW aA a3 aC aB a4 aZ q0;go_wp2_with fail;go_region;go_wp2_with fail;have T1:Turned H (H.setCell ⟨w.heap.size,0,none⟩ (.slice a (DG xs).length c)) w.heap.size:=Turned.setCells [_] 0 H _;have p5:=Co (i:=0) bo.o (.slice a (DG xs).length c);obtain⟨u5,bB⟩:∃u,u=H.setCell ⟨w.heap.size,0,none⟩ (.slice a (DG xs).length c):=⟨_,rfl⟩
  rw[<-bB]at T1 p5⊢;obtain⟨aO,bw⟩:=k_ (S:=N.Sm) bo.o T1;have q5:u5.heap[w.heap.size+1]?=some (.cells #[.slice G (Dg xs).length E] 36 (0,0)):=(T1.block _ L.y).c bq.o;have T2:Turned u5 (u5.setCell ⟨w.heap.size+1,0,none⟩ (.slice G (Dg xs).length E)).drew (w.heap.size+1):=⟨rfl,rfl,rfl,(Turned.setCells [_] 0 u5 _).size,λk b=>(Turned.setCells [.slice G (Dg xs).length E] 0 u5 (w.heap.size+1)).block k b⟩
  have q6:=Co (i:=0) q5 (.slice G (Dg xs).length E);have bp:(u5.setCell ⟨w.heap.size+1,0,none⟩ (.slice G (Dg xs).length E)).drew.heap[w.heap.size+1]?=some (.cells #[.slice G (Dg xs).length E] 36 (0,0)):=by
   have:=q6;simp at this;exact this
  obtain⟨u6,bA⟩:∃u,u=(u5.setCell ⟨w.heap.size+1,0,none⟩ (.slice G (Dg xs).length E)).drew:=⟨_,rfl⟩
  rw[<-bA]at T2 bp⊢;obtain⟨aS,bH⟩:=k_ (S:=N.Sm) q5 T2;have p6:u6.heap[w.heap.size]?=some (.cells #[.slice a (DG xs).length c] 36 (0,0)):=(T2.block _ L).c (by simpa using p5);have ky:∀(k:Nat)(o:Obj),H.heap[k]?=some o->(∀c,o≠.cells c 36 (0,0))->u6.heap[k]?=some o:=λk o b ho=>bH k o (bw k o b ho) ho;have bt:=ky _ _ bu.o (λR e=>qo);have lo:∀(k:Nat)(o:Obj),z.heap[k]?=some o->k<w.heap.size->u6.heap[k]?=some o:=λk o b hl=>by
   rw[T2.block k qd,T1.block k qd];exact bG.o k o (br.o k o b hl) hl
  have a6:Iw H w.heap.size w.heap.size a c P:=⟨Bv ak.o.row (λg am=>G4.o.block g (ak.o.row.lt g am).2 (λe=>r.o.ap g (by rw[<-bh.o];exact am) e.y)),λy hy=>(ak.o.all y hy).grown G4.o (λk b=>AO aG.o.row b) qh⟩
  refine Sl (B:=w2.heap.size) [D] _ ⟨qe,λD' bJ=>by rw[yp.1 bJ];exact⟨hD,bt⟩⟩ ?_;intro W2 af;have pW:=AV (af.bT _ _ _ _ p6);have qW:=AV (af.bT _ _ _ _ bp);have tys:∀(k:Nat)c t,(t=45∨t=3)->H.heap[k]?=some (.cells c t (0,0))->W2.heap[k]?=H.heap[k]?:=λk cs t M b=>(af.bT _ _ _ _ (ky k _ b (λR e=>by cases e;rcases M with M|M<;>revert M<;>decide))).c b.y;have aP:=bh.o;have a0:Q.length=(Dg xs).length:=HQ.o.length_eq;refine⟨.tuple #[.slice a P.length c,.slice G Q.length E],?_,P,Q,a,G,c,E,xs,rfl,a6.bJ (λk cs t M _ b=>tys k cs t M b),aV.o.bJ (λk cs t M _ b=>tys k cs t M b),by rw[aP,a0];exact r.o.ap,?_,HP.o,HQ.o,bI.o,bi.o,?_,?_⟩
  .rw[aP,a0];simp[results,results48,go_sem,pW,qW]
  .have Y:(xs.map λe=>(e.it,e.sl)).Pairwise (λx y:H5=>BI x.2 y.2):=Kj.2 bz.o;have bF:(P++Q).Perm (xs.map λe=>(e.it,e.sl)):=by
    refine(List.Perm.append HP.o HQ.o).c ?_;unfold DG Dg;rw[<-yF];exact(List.filter_append_perm (λe:Ne=>decide (e.sg=1)) xs).map _
   exact bF.y.pairwise Y (λh g h1 h2=>h g h2 h1)
  .refine((((HF.o.kn bd.o.toK0).kn bc.o.toK0).kn aO.toK0).kn aS.toK0).kn ⟨af.C.j (yk _),λk cs t fr b _=>af.bT _ _ _ _ b,λk es cl b hs=>?_⟩;exact(af.C.block k (aH.o k hs)).c b
  refine⟨((((aN.o.rest.c bd.o.rest).c bc.o.rest).c aO.rest).c aS.rest).c (af.C.j (yk _)),λg hg hn=>?_⟩;have hl:g<z.heap.size:=yg hg aN.o.rest.size;have e1:z.heap[g]?=some z.heap[g]:=JZ;rw[af.C.block g (yg hg aj.o.size),lo g _ e1 hg,<-e1];exact aN.o.block g hg hn
end
end Go.Proofs.YtikojfajahnhgaaGreat
