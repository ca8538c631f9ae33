import Derived.Test.YtikojfajahnhgaaGreatKaj
import Derived.Test.YtikojfajahnhgaaGreatKap
set_option linter.all false
namespace Go.Proofs.YtikojfajahnhgaaGreat
attribute [local simp] At I6 Pn mzI
attribute [local go_sem] At I6 Pn
open Go.RowKit Go.Proofs.Tryz
def AO{w:World}{base e m v n xs}(h:w.ownsRow base e m v n xs){k}(a:v.ownBlock=some k):∃c,w.heap[k]?=some (.cells c e (0,0)):=by
 rcases h.2 with⟨rfl,_⟩|⟨g,cap,O,rfl,_,b,_⟩
 .simp[Value.ownBlock]at a
 simp[Value.ownBlock]at a;subst a;exact⟨O,b⟩
def Cf{w:World}{k:Nat}{c d t t' f b}(h:w.heap[k]?=some (.cells c t f))(O:w.heap[k]?=some (.cells d t' b))(a:t≠t'):False:=by
 rw[h]at O;simp at O;exact a O.2.1
def Be{P:World->Prop}{a o}(h:∀wt,Bw a wt->wt.heap[a.heap.size]?=some o->P wt):P (a.alloc o):=h _ Aj (heap_alloc_new _ _)
def Hv{w w':World}{base e t m v n xs row}(h:w.ownsRow base e m v n xs)(f:w.grownBy w' row)(d:∀k,row=some k->∃c,w.heap[k]?=some (.cells c t (0,0)))(a:t≠e):w'.ownsRow base e m v n xs:=
 Bv h λk b=>f.block k (h.lt k b).2 (λe=>by
  obtain⟨c,g⟩:=d k e.y
  obtain⟨i,O⟩:=AO h b
  exact Cf g O a)
def Hc{w:World}{base b o e t m v n xs x c g}(h:w.ownsRow base e m v n xs)(d:w.heap[b]?=some (.cells c t g))(a:t≠e):(w.setCell ⟨b,o,none⟩ x).ownsRow base e m v n xs:=
 Bv h λk f=>yE _ _ _ _ (λe=>by
  obtain⟨j,O⟩:=AO h f
  have i:k=b:=e
  subst i
  exact Cf d O a)
def Ef{w w':World}{b:Nat}{t t' c d row}(h:w.heap[b]?=some (.cells c t d))(f:w.grownBy w' row)(g:∀k,row=some k->∃c,w.heap[k]?=some (.cells c t' (0,0)))(a:t'≠t):w'.heap[b]?=some (.cells c t d):=
 (f.block b (Ak h) (λe=>by
  obtain⟨j,i⟩:=g b e.y
  exact Cf i h a)).c h
def FK{α:Type}{cells m}(a:∀x,(cells x).length=m):∀(xs:List α)(i:Nat)(x:α)(j:Nat)(u:Value),xs[i]?=some x->(cells x)[j]?=some u->(xs.flatMap cells)[i*m+j]?=some u
 |[],i,x,j,u,h,_=>by simp at h
 |y::r,0,x,j,u,h,hj=>by
  simp at h
  subst h
  have hl:j<(cells y).length:=(ye.1 hj).1
  rw[yL,TH,Yc,yr hl]
  exact hj
 |y::r,i+1,x,j,u,h,hj=>by
  rw[yw]at h
  have:=FK a r i x j u h hj
  have e:(i+1)*m=i*m+m:=Kb i m
  rw[yL,yx (by rw[a];omega),show(i+1)*m+j-(cells y).length=i*m+j by rw[a];omega]
  exact this
abbrev Pb:ByteArray:=⟨#[]⟩
def Ge(K:List ByteArray)(e:Ex):Prop:=(∃v,Bf v=true/\e=⟨0,0,Pb,v,0,0⟩)∨∃s,s∈K/\e=⟨1,0,s,(0,0,Pb),0,0⟩
def IR(op a b:Int):Ex:=⟨2,op,Pb,(0,0,Pb),a,b⟩
def Dy(K:List ByteArray):Nat->Nat->List Ex->Prop
 |0,_,ys=>∃e,ys=[e]/\Ge K e
 |d+1,n,ys=>(∃e,ys=[e]/\Ge K e)∨∃A B op,Di op=true/\Dy K d n A/\Dy K d (n+A.length) B/\ys=A++(B++[IR op (((n+A.length:Nat):Int)-1) (((n+A.length+B.length:Nat):Int)-1)])
def Dy.bB{K d n e}(h:Ge K e):Dy K d n [e]:=by
 cases d with
 |zero=>exact⟨e,rfl,h⟩
 |succ d=>exact .inl ⟨e,rfl,h⟩
def Dy.pos{K d n ys}(h:Dy K d n ys):1<=ys.length:=by
 cases d with
 |zero=>
  obtain⟨e,rfl,_⟩:=h;exact yu 1
 |succ d=>
  rcases h with⟨e,rfl,_⟩|⟨A,B,a,_,_,_,rfl⟩
  .exact yu 1
  simp only[yP,yI,Yz];omega
def kV:(⟨#[]⟩:ByteArray).toList=[]:=Mr
def JL:BG ⟨#[]⟩=true:=by rw[BG,kV];rfl
def rc:BG Pb=true:=JL
def Qt:Cc ((0,0,⟨#[]⟩):V)=true:=by
 have:Cc ((0,0,⟨#[]⟩):V)=BG ⟨#[]⟩:=rfl;rw[this,JL]
def zoS:Cc ((0,0,Pb):V)=true:=Qt
def vS(n):Bf (0,n,⟨#[]⟩)=true:=by
 have:Bf (0,n,⟨#[]⟩)=((⟨#[]⟩:ByteArray).toList.isEmpty||false):=rfl;rw[this,kV];rfl
def Dy.known{K}:∀{d n:Nat}{ys:List Ex},Dy K d n ys->∀e∈ys,D_ K e=true:=by
 have O:∀{e:Ex},Ge K e->D_ K e=true:=by
  rintro e (⟨v,_,rfl⟩|⟨s,c,rfl⟩)
  .rfl
  have:Bu s K=true:=Wx.2 ⟨s,c,qe⟩;simp[D_,this]
 intro d
 induction d with
 |zero=>
  rintro n ys ⟨e,rfl,h⟩ x a;simp at a;exact a▸O h
 |succ d ih=>
  rintro n ys (⟨e,rfl,h⟩|⟨A,B,g,_,b,f,rfl⟩) x a
  .simp at a;exact a▸O h
  simp at a;rcases a with a|a|a
  .exact ih b x a
  .exact ih f x a
  rw[a];rfl
def XQ{S e s}(h:Bl S e=some s)(r):BD S (e::r)=BD (S++[s]) r:=by
 simp only[BD,h]
def Ge.dt{K}(b:∀s∈K,Aq s.data.toList=true){e}(h:Ge K e)(S):Bl S e=some (S.length,0):=by
 rcases h with⟨v,hv,rfl⟩|⟨s,a,rfl⟩
 .simp[Bl,CM,hv,rc]
 simp[Bl,CM,b s a,zoS]
def VR{α:Type}(l)(x:α)(i)(h:i=l.length):(l++[x])[i]?=some x:=by subst h;simp
def Dy.bf{K}(j:∀s∈K,Aq s.data.toList=true):∀{d:Nat},d<=20->∀{n:Nat}{ys:List Ex},Dy K d n ys->∀(S:List Sp),S.length=n ->
  ∃T m,T.length+1=ys.length/\m<=d/\∀r,BD S (ys++r)=BD (S++T++[(n,m)]) r:=by
 intro d
 induction d with
 |zero=>
  rintro _ n ys ⟨e,rfl,h⟩ S hS;refine⟨[],0,rfl,yu _,λr=>?_⟩;rw[Kk,XQ (h.dt j S),hS,yQ]
 |succ d ih=>
  rintro hd n ys (⟨e,rfl,h⟩|⟨A,B,b,q,i,g,rfl⟩) S hS
  .refine⟨[],0,rfl,yk _,λr=>?_⟩;rw[Kk,XQ (h.dt j S),hS,yQ]
  obtain⟨c,O,H,E,l⟩:=ih qd i S hS;obtain⟨f,a,z,C,k⟩:=ih qd g (S++c++[(n,O)]) qf;have t:(S++c++[(n,O)]).length=n+A.length:=by simp;omega
  have x:(S++c++[(n,O)]++f++[(n+A.length,a)]).length=n+A.length+B.length:=by simp;omega
  have G:=i.pos;have D:=g.pos;have o:(S++c++[(n,O)]++f++[(n+A.length,a)])[((((n+A.length+B.length:Nat):Int)-1)).toNat]?=some (n+A.length,a):=VR _ _ _ qf;have v:(S++c++[(n,O)]++f++[(n+A.length,a)])[((((n+A.length:Nat):Int)-1)).toNat]?=some (n,O):=by
   rw[yW,yr (by rw[t];omega)];exact VR _ _ _ qf
  have w:Bl (S++c++[(n,O)]++f++[(n+A.length,a)]) (IR b (((n+A.length:Nat):Int)-1) (((n+A.length+B.length:Nat):Int)-1))=some (n,1+max O a):=by
   have y:CC (S++c++[(n,O)]++f++[(n+A.length,a)]) (IR b (((n+A.length:Nat):Int)-1) (((n+A.length+B.length:Nat):Int)-1))=true:=by
    unfold CC;rw[x];show(Di b&&(BG ⟨#[]⟩&&(Cc ((0,0,⟨#[]⟩):V)&&_)))=true;rw[q,JL,Qt];show(decide (((n+A.length+B.length:Nat):Int)-1=((n+A.length+B.length:Nat):Int)-1)&&(decide (0<=((n+A.length+B.length:Nat):Int)-1)&&decide (0<=((n+A.length:Nat):Int)-1)))=true;simp only[yi,decide_eq_true_eq];exact⟨trivial,qd,qd⟩
   unfold Bl;rw[if_neg (show¬((IR b (((n+A.length:Nat):Int)-1) (((n+A.length+B.length:Nat):Int)-1)).u==0)=true fromλh=>by cases h),if_neg (show¬((IR b (((n+A.length:Nat):Int)-1) (((n+A.length+B.length:Nat):Int)-1)).u==1)=true fromλh=>by cases h),if_pos (show((IR b (((n+A.length:Nat):Int)-1) (((n+A.length+B.length:Nat):Int)-1)).u==2)=true from rfl),if_pos y];show GZ _ (((n+A.length:Nat):Int)-1) (((n+A.length+B.length:Nat):Int)-1)=_;unfold GZ;simp only[o,v];rw[if_pos];simp only[yi,decide_eq_true_eq];exact⟨by first|trivial|rfl|omega,qd⟩
  refine⟨c++[(n,O)]++f++[(n+A.length,a)],1+max O a,qf,qd,λr=>?_⟩;have p:A++(B++[IR b (((n+A.length:Nat):Int)-1) (((n+A.length+B.length:Nat):Int)-1)])++r=A++(B++(IR b (((n+A.length:Nat):Int)-1) (((n+A.length+B.length:Nat):Int)-1)::r)):=qe;rw[p,l,k,XQ w];simp only[yW]
def Cj(K:List ByteArray):Nat->List Ex->List Int->Prop
 |_,ys,[]=>ys=[]
 |n,ys,x::r=>∃A B,ys=A++B/\Dy K 2 n A/\x=((n+A.length:Nat):Int)-1/\Cj K (n+A.length) B r
def Cj.snoc{K B}:∀{a:List Int}{n:Nat}{ys:List Ex},Cj K n ys a->Dy K 2 (n+ys.length) B->Cj K n (ys++B) (a++[((n+ys.length+B.length:Nat):Int)-1])
 |[],n,ys,h,hB=>by
  have h:ys=[]:=h
  subst h
  exact⟨B,[],qe,hB,qe,rfl⟩
 |x::r,n,ys,h,hB=>by
  obtain⟨A,C,rfl,b,c,d⟩:=h
  have:=Cj.snoc d (B:=B) (by simpa[WT] using hB)
  exact⟨A,C++B,qe,b,c,by simpa[WT] using this⟩
def Cj.known{K}:∀{b:List Int}{n:Nat}{ys:List Ex},Cj K n ys b->∀e∈ys,D_ K e=true
 |[],n,ys,h=>by
  have h:ys=[]:=h
  subst h
  simp
 |x::r,n,ys,h=>by
  obtain⟨A,C,rfl,c,_,d⟩:=h
  intro e a
  rcases yn.1 a with a|a
  .exact c.known e a
  exact Cj.known d e a
def Cj.bf{K}(d:∀s∈K,Aq s.data.toList=true):∀{b:List Int}{n:Nat}{ys:List Ex},Cj K n ys b->∀(S:List Sp),S.length=n ->
  ∃T,T.length=ys.length/\(∀r,BD S (ys++r)=BD (S++T) r)/\∀U,DR (S++T++U) b n=some (n+ys.length)
 |[],n,ys,h,S,hS=>by
  have h:ys=[]:=h
  subst h
  exact⟨[],rfl,qe,λU=>rfl⟩
 |x::r,n,ys,h,S,hS=>by
  obtain⟨A,C,rfl,c,o,f⟩:=h
  obtain⟨O,m,hl,_,k⟩:=c.bf d qh S hS
  obtain⟨T,p,l,g⟩:=Cj.bf d f (S++O++[(n,m)]) qf
  refine⟨O++[(n,m)]++T,qf,λq=>?_,λU=>?_⟩
  .rw[yW,k,l]
   simp only[yW]
  have u:=c.pos
  have t:x.toNat=n+A.length-1:=qd
  have e:S++(O++[(n,m)]++T)++U=S++O++[(n,m)]++(T++U):=qe
  have i:S++(O++[(n,m)]++T)++U=S++O++[(n,m)]++T++U:=qe
  have j:(S++(O++[(n,m)]++T)++U)[x.toNat]?=some (n,m):=by
   rw[e,yr qf];exact VR _ _ _ qf
  have a:x<((S++(O++[(n,m)]++T)++U).length:Int):=by simp;omega
  have:=g U;rw[<-i]at this;unfold DR;rw[j,if_pos (by simp only[YE,yi,decide_eq_true_eq];exact⟨qd,a,trivial⟩),show x.toNat+1=n+A.length by omega,this];simp;omega
def Fr(K:List ByteArray)(pos:Nat):Nat->List Ex->List Ac->Prop
 |_,ys,[]=>ys=[]
 |n,ys,a::r=>∃A B,ys=A++B/\Cj K n A a.args/\(Dv a=true/\a.args.length<=6/\DF pos a=true)/\Fr K pos (n+A.length) B r
def Fr.snoc{K pos B a}(O:Dv a=true/\a.args.length<=6/\DF pos a=true):∀{b:List Ac}{n:Nat}{ys:List Ex},Fr K pos n ys b->Cj K (n+ys.length) B a.args->Fr K pos n (ys++B) (b++[a])
 |[],n,ys,h,hB=>by
  have h:ys=[]:=h
  subst h
  exact⟨B,[],qe,hB,O,rfl⟩
 |x::r,n,ys,h,hB=>by
  obtain⟨A,C,rfl,c,d,e⟩:=h
  have:=Fr.snoc O e (B:=B) (by simpa[WT] using hB)
  exact⟨A,C++B,qe,c,d,this⟩
def Fr.known{K pos}:∀{b:List Ac}{n:Nat}{ys:List Ex},Fr K pos n ys b->∀e∈ys,D_ K e=true
 |[],n,ys,h=>by
  have h:ys=[]:=h
  subst h
  simp
 |x::r,n,ys,h=>by
  obtain⟨A,C,rfl,c,_,d⟩:=h
  intro e a
  rcases yn.1 a with a|a
  .exact c.known e a
  exact Fr.known d e a
def Fr.du{K pos}:∀{b:List Ac}{n:Nat}{ys:List Ex},Fr K pos n ys b->∀a∈b,DF pos a=true
 |[],n,ys,h=>by simp
 |x::r,n,ys,h=>by
  obtain⟨A,C,rfl,e,c,d⟩:=h
  intro a O
  rcases yG.1 O with rfl|O
  .exact c.2.2
  exact Fr.du d a O
def Fr.bf{K pos}(d:∀s∈K,Aq s.data.toList=true):∀{c:List Ac}{n:Nat}{ys:List Ex},Fr K pos n ys c->∀(S:List Sp),S.length=n ->
  ∃T,T.length=ys.length/\BD S ys=S++T/\∀k,FP (S++T) c n k=none
 |[],n,ys,h,S,hS=>by
  have h:ys=[]:=h
  subst h
  exact⟨[],rfl,by simp[BD],λk=>by simp[FP,hS]⟩
 |x::r,n,ys,h,S,hS=>by
  obtain⟨A,C,rfl,g,b,e⟩:=h
  obtain⟨a,hl,i,j⟩:=g.bf d S hS
  obtain⟨T,l,O,f⟩:=Fr.bf d e (S++a) qf
  refine⟨a++T,qf,?_,λk=>?_⟩
  .rw[i,O,yW]
  rw[<-yW]
  have:BO (S++a++T) x n=some (n+A.length):=by
   unfold BO;rw[if_pos (by simp only[yi,decide_eq_true_eq];exact⟨b.1,b.2.1⟩)];exact j T
  simp only[FP,this];exact f (k+1)
def Sa{α f}:∀{l:List α}{k:Nat},(∀x∈l,f x=true)->Dc f l k=none
 |[],k,_=>rfl
 |x::r,k,h=>by
  simp only[Dc,h x (by simp),if_true]
  exact Sa (λy a=>h y (by simp[a]))
def mr{t}:∀{ts:List Tm}{O a:List ByteArray},Cq ts O=some a->(Dm t=true->Bu t.A a=true)->Cq (ts++[t]) O=some (if t.u==2 then a++[t.A] else a)
 |[],O,a,h,ht=>by
  injection h with h
  subst h
  have b:(Dm t&&!Bu t.A O)=false:=by
   cases c:Dm t
   .rfl
   simp[ht c]
  simp only[yY,Cq,b];rfl
 |x::r,O,a,h,ht=>by
  simp only[Yb,Cq]at h⊢;split at h
  .cases h
  rename_i b;rw[if_neg b];exact mr h ht
def XW{p:Pt}{a}:∀{b:List Pt}{O kn:List ByteArray}{k:Nat},Ee b O k=.inr kn->Cq p.e kn=some a->Ee (b++[p]) O k=.inr (if p.neg then kn else a)
 |[],O,kn,k,h,ht=>by
  injection h with h
  subst h
  simp only[yY,Ee,ht]
 |x::r,O,kn,k,h,ht=>by
  simp only[Yb,Ee]at h⊢
  split at h
  .cases h
  rename_i d c
  first
  |exact XW h ht
  |(rw[c];exact XW h ht)
structure JC(K:List ByteArray) (pos:Nat) (r:Ru):Prop where
 name:Aq r.name.data.toList=true
 v:r.v.length<=6
 aQ:∀p∈r.v,C_ p=true
 known:Ee r.v [] 1=.inr K
 eI:∀s∈K,Aq s.data.toList=true
 count:Ad r.v=pos
 dU:1<=pos/\pos<=3
 E:r.E.length<=8
 w:r.w.length<=60
 cg:Fr K pos 0 r.w r.E
def JC.dT{K:List ByteArray}{pos:Nat}{r:Ru}(h:JC K pos r){pre:List Ru}(j:∀o∈pre,o.name≠r.name):A_ pre r=(0,0):=by
 obtain⟨T,l,c,b⟩:=h.cg.bf h.eI [] rfl;have i:Am r=none:=by
  unfold Am;rw[if_pos (by simp only[Id,yi,decide_eq_true_eq];exact⟨h.name,h.v,h.E,h.w⟩),Sa h.aQ];rw[yY]at c b;show(if _ then _ else _)=none;rw[c,if_neg qd];exact b 1
 have f:pre.any (λo=>decide (o.name=r.name))=false:=by
  rw[List.any_eq_false];intro o k;simp[j o k]
 have O:AY r=none:=by
  unfold AY;rw[h.known];refine Sa λa _=>?_;simp only[FJ,Bool.or_eq_true];exact .inr (Yy.2 λe d=>h.cg.known e (YM d))
 have g:Ch r=none:=by
  unfold Ch;rw[h.count];exact Sa h.cg.du
 unfold A_;rw[i];show(if _ then _ else if _ then _ else _)=_;rw[f,if_neg qe,if_pos (by rw[h.count];exact h.dU),O,g]
def Ji(k:Nat):ByteArray:=⟨#[114,(UInt8.ofNat (48+k))]⟩
def vT(k)(h:k<10):Aq (Ji k).data.toList=true:=by
 have:∀k:Fin 10,Aq (Ji k.val).data.toList=true:=qh;exact this ⟨k,h⟩
def sN(i j)(a:i<10)(hj:j<10)(h:i≠j):Ji i≠Ji j:=by
 have:∀i j:Fin 10,i≠j->Ji i.val≠Ji j.val:=qh;exact this ⟨i,a⟩ ⟨j,hj⟩ (λe=>h J1)
def Pg(k:Nat)(r:Ru):Prop:=r.name=Ji k/\∃K pos,JC K pos r
def mP:∀{s pre:List Ru}{k:Nat},(∀(i:Nat)(r:Ru),(pre++s)[i]?=some r->Pg i r)->(pre++s).length<=10->EJ pre s k=(0,0,0)
 |[],pre,k,_,_=>rfl
 |r::s,pre,k,h,hl=>by
  obtain⟨a,K,pos,c⟩:=h pre.length r qe
  simp at hl
  have:A_ pre r=(0,0):=c.dT λo O=>by
   obtain⟨i,b,rfl⟩:=List.mem_iff_getElem.1 O
   rw[(h i pre[i] (by rw[yr b];simp)).1,a]
   exact sN _ _ qd qd qd
  unfold EJ
  rw[this,if_pos rfl]
  exact mP qq qf
def zN{rs}(h:∀(i:Nat)(r:Ru),rs[i]?=some r->Pg i r)(hl:rs.length<=10):A8 rs=(0,0,0):=by
 unfold A8;rw[if_pos qd];exact mP (pre:=[]) qq Lu
end Go.Proofs.YtikojfajahnhgaaGreat
