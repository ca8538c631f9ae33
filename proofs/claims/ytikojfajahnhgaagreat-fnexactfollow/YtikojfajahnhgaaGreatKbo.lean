import Derived.Test.YtikojfajahnhgaaGreatKbh
import Derived.Test.YtikojfajahnhgaaGreatKbj
set_option linter.all false
set_option maxHeartbeats 6400000
set_option maxRecDepth 100000
namespace Go.Proofs.YtikojfajahnhgaaGreat
attribute [local simp] At I6 Pn mzI
attribute [local go_sem] At I6 Pn
open Go.RowKit Go.Proofs.Tryz
variable{P:Prop}
def Bm(adr:F->Addr)(U:List F):Prop:=∀f∈U,∀g∈U,adr f=adr g->f=g
def IW{adr U T O}(d:Bm adr U)(e:∀f∈T,f∈U)(c:∀f∈O,f∈U)(j:T.length<=3)(l:O.length<=3)(h:Ab adr T=Ab adr O):T=O:=by
 have key:∀i:Nat,T[i]?.map adr=O[i]?.map adr->T[i]?=O[i]?:=λi b=>by
  cases Y:T[i]? with
  |none=>
   cases a:O[i]? with
   |none=>rfl
   |some g=>simp[Y,a]at b
  |some f=>
   cases a:O[i]? with
   |none=>simp[Y,a]at b
   |some g=>
    simp only[Y,a,Wg,Y5]at b;rw[d f (e f (yd Y)) g (c g (yd a)) b]
 simp only[Ab,YW]at h;apply YM;intro i
 match i with
 |0=>exact key 0 h.1
 |1=>exact key 1 h.2.1
 |2=>exact key 2 h.2.2
 |k+3=>rw[Yr qd,Yr qd]
def BK(x:Kt)(L:List Kt):Int:=if x∈L then 1 else 0
def JU{x L}(h:x∈L):BK x L=1:=if_pos h
def Hw{x L}(h:x ∉ L):BK x L=0:=if_neg h
def Ox(x L):BK x L=0∨BK x L=1:=by
 unfold BK;split
 .exact .inr rfl
 exact .inl rfl
def Vk{x L a}(h:L.Perm a):BK x L=BK x a:=by
 unfold BK;simp only[h.mem_iff]
structure BU(old now:List Kt) (M:List (Kt × Int)):Prop where
 nz:∀y∈M,y.2≠0
 cnt:∀x,Ar x M=BK x now-BK x old
def BU.perm{old a O M}(h:BU old a M)(b:a.Perm O):BU old O M:=⟨h.nz,λx=>by rw[h.cnt x,Vk b]⟩
def BU.bX{old a M}(h:BU old a M)(x):-9<=Ar x M/\Ar x M<=9:=by
 rw[h.cnt x];rcases Ox x a with c|c<;>rcases Ox x old with b|b<;>rw[c,b]<;>decide
def iw(x s M):Ar x (E9 x s M)=Ar x M+s:=by
 unfold E9;split
 .rename_i h;rw[h];exact f9 x M
 exact fV x _ M
def l_{x y}(h:x≠y)(s M):Ar y (E9 x s M)=Ar y M:=by
 unfold E9;split
 .exact kp h M
 exact kW h _ M
def gn{x s M}(h:∀y∈M,y.2≠0):∀y∈E9 x s M,y.2≠0:=by
 intro y a;unfold E9 at a;split at a
 .exact h y (yg.1 a).1
 rename_i b;unfold DL at a;split at a
 .obtain⟨z,O,e⟩:=yz.1 a;split at e
  .rw[<-e];exact b
  rw[<-e];exact h z O
 rcases yr.1 a with a|a
 .exact h y a
 rw[yv.1 a];exact b
def BU.bO{old a M x}(h:BU old a M)(b:x ∉ a):BU old (a++[x]) (E9 x 1 M):=by
 refine⟨gn h.nz,λy=>?_⟩;by_cases e:x=y
 .subst e;rw[iw,h.cnt,Hw b,JU (show x∈a++[x] by simp)];omega
 rw[l_ e,h.cnt];have:BK y (a++[x])=BK y a:=by
  unfold BK;simp only[yr,yv,show¬y=x fromλh=>e h.ai,or_false]
 rw[this]
def BU.gone{old a M x}(h:BU old a M)(b:x∈a):BU old (a.filter (λy=>decide (y≠x))) (E9 x (-1) M):=by
 refine⟨gn h.nz,λy=>?_⟩;by_cases e:x=y
 .subst e;rw[iw,h.cnt,JU b,Hw (show x ∉ a.filter (λy=>decide (y≠x)) by simp)];omega
 rw[l_ e,h.cnt];have:BK y (a.filter (λy=>decide (y≠x)))=BK y a:=by
  unfold BK;simp only[yg,decide_eq_true_eq,ne_eq,show¬y=x fromλh=>e h.ai,not_false_eq_true,and_true]
 rw[this]
def A4:Ap->List (List F)->List (List F)
 |(.inl d,fs),TT=>TT.flatMap (λT=>(fs.filter (λf=>d.ts.all (Aq T f))).map (λf=>T++[f]))
 |(.inr d,fs),TT=>TT.filter (λT=>decide (nBar d.ts fs T=0))
def kF(n A B):A4 n (A++B)=A4 n A++A4 n B:=by
 rcases n with⟨d|d,fs⟩
 .exact Yu
 exact yQ _ _
def lB(n){A B}(h:A.Perm B):(A4 n A).Perm (A4 n B):=by
 rcases n with⟨d|d,fs⟩
 .exact h.flatMap_right _
 exact h.filter _
def Lv(adr:F->Addr)(old:List Kt):(l:List Ap)->List (List F)->CT l->Prop
 |[],TT,a=>a.1.Perm (TT.map (Ab adr))/\BU old a.1 a.2
 |(.inl d,fs)::r,TT,a=>a.1.Perm TT/\Lv adr old r (A4 (.inl d,fs) TT) a.2
 |(.inr d,fs)::r,TT,a=>a.1.Perm TT/\(∀T∈TT,Ar (Ab adr T) a.2.1=(nBar d.ts fs T:Int))/\Lv adr old r (A4 (.inr d,fs) TT) a.2.2
def Lv.perm{adr old}:∀{l:List Ap}{A B:List (List F)}{a:CT l},Lv adr old l A a->A.Perm B->Lv adr old l B a
 |[],_,_,_,h,hp=>⟨h.1.j (hp.map _),h.2⟩
 |(.inl d,fs)::_,_,_,_,h,hp=>⟨h.1.j hp,Lv.perm h.2 (lB (.inl d,fs) hp)⟩
 |(.inr d,fs)::_,_,_,_,h,hp=>⟨h.1.j hp,λT b=>h.2.1 T (hp.mem_iff.2 b),Lv.perm h.2.2 (lB (.inr d,fs) hp)⟩
def Em(U:List F):List Ap->List (List F)->List F->Prop
 |[],_,T=>T.length<=3/\∀f∈T,f∈U
 |(.inl d,fs)::r,g::G,T=>(T.length=d.at_/\T.length<3)/\(∀f∈T,f∈U)/\(∀f∈fs,f∈g)/\fs.Nodup/\(∀f∈g,f∈U/\∀t∈d.ts,t.fits T f)/\∀f∈g,d.ts.all (Aq T f)=true->Em U r G (T++[f])
 |(.inr d,fs)::r,g::G,T=>T.length<=3/\(∀f∈T,f∈U)/\(∀f∈fs,f∈g)/\(∀f∈g,∀t∈d.ts,t.fits T f)/\Em U r G T
 |_::_,[],_=>False
def Em.len{U}:∀{l:List Ap}{G:List (List F)}{T:List F},Em U l G T->T.length<=3/\∀f∈T,f∈U
 |[],_,_,h=>h
 |(.inl _,_)::_,_::_,_,h=>⟨K9 h.1.2,h.2.1⟩
 |(.inr _,_)::_,_::_,_,h=>⟨h.1,h.2.1⟩
 |(.inl _,_)::_,[],_,h=>h.elim
 |(.inr _,_)::_,[],_,h=>h.elim
def PY{T Y}{f O:F}(h:T++[f]=Y++[O]):T=Y/\f=O:=by simp_all
def Le{U n r g G TT}(h:∀T∈TT,Em U (n::r) (g::G) T):∀T∈A4 n TT,Em U r G T:=by
 intro T b;rcases n with⟨d|d,fs⟩
 .obtain⟨O,Y,j⟩:=Yk.1 b;obtain⟨f,a,rfl⟩:=yz.1 j;obtain⟨a,i⟩:=yg.1 a;obtain⟨_,_,c,_,_,e⟩:=h O Y;exact e f (c f a) i
 exact(h T (yg.1 b).1).2.2.2.2
def n8(h:P:=by obtain⟨f,_,rfl⟩:=yz.1 hz;obtain⟨f',_,e⟩:=yz.1 O;exact hne (PY e).1.ai):=h
def Lm{U n r g G TT}(h:∀T∈TT,Em U (n::r) (g::G) T)(c:TT.Nodup):(A4 n TT).Nodup:=by
 rcases n with⟨d|d,fs⟩
 .refine V9 c (λT i=>?_) (λT _ k _ hne z hz O=>?_)
  .obtain⟨_,_,_,j,_⟩:=h T i;exact KA _ (λa b Y e=>Y (PY e).2) (j.filter _)
  exact n8
 exact c.filter _
def vE{n TT T U}(c:T ∉ TT)(b:U∈A4 n [T]):U ∉ A4 n TT:=by
 intro h;rcases n with⟨d|d,fs⟩
 .obtain⟨j,Y,a⟩:=Yk.1 h;obtain⟨f,k,rfl⟩:=yz.1 a;obtain⟨l,i,g⟩:=Yk.1 b;obtain⟨m,O,e⟩:=yz.1 g;rw[yv.1 i]at e;exact c (by rw[(PY e).1];exact Y)
 have a:=(yg.1 b).1;rw[yv.1 a]at h;exact c (yg.1 h).1
def Lh{adr U}{TT:List (List F)}{T}(e:Bm adr U)(c:∀T∈TT,T.length<=3/\∀f∈T,f∈U)(b:T.length<=3/\∀f∈T,f∈U):Ab adr T∈TT.map (Ab adr)↔T∈TT:=by
 constructor
 .intro h;obtain⟨O,a,d⟩:=yz.1 h;rw[IW e b.2 (c O a).2 b.1 (c O a).1 d.ai];exact a
 exactλh=>yT h
section
variable {adr : F -> Addr} {U : List F} {old : List Kt} {cb nb wb : Nat}
def DG(adr:F->Addr)(U:List F)(old:List Kt)(cb nb wb:Nat)(l:List Ap):Prop:=∀(G:List (List F))(TT:List (List F))(a:CT l)(T:List F),Lv adr old l TT a->(∀T∈TT,Em U l G T)->TT.Nodup->Em U l G T->T ∉ TT->(C_ adr 1 U cb nb wb l).ok T a/\∀a',(C_ adr 1 U cb nb wb l).aG T a a'->Lv adr old l (TT++[T]) a'
def DG.aT{l}(h:DG adr U old cb nb wb l)(G):∀(d:List (List F))(TT:List (List F))(a b:CT l),Lv adr old l TT a->(∀T∈TT,Em U l G T)->(∀T∈d,Em U l G T)->(TT++d).Nodup->BG (C_ adr 1 U cb nb wb l).aG d a b->Lv adr old l (TT++d) b
 |[],TT,a,b,h1,_,_,_,hs=>by
  rw[<-show a=b from hs,yM]
  exact h1
 |V::d,TT,a,b,h1,h2,h3,h4,⟨c,hs,hr⟩=>by
  have e:TT++V::d=(TT++[V])++d:=qe
  rw[e]at h4⊢
  have g:=(yP.1 h4).1
  have i:V ∉ TT:=λq=>(yP.1 g).2.2 V q V qe rfl
  refine DG.aT h G d (TT++[V]) c b ((h G TT a V h1 h2 (yP.1 g).1 (h3 V qe) i).2 c hs) (λT f=>?_) (λT f=>h3 T (by simp[f])) h4 hr
  rcases yr.1 f with f|f
  .exact h2 T f
  rw[yv.1 f]
  exact h3 V qe
def oQ(h:P:=by
 rw[eT];have e1:fs.take (i+1)=fs.take i++[f]:=by
  rw[yY,hi];rfl
 have e2:(((fs.take i).filter (λf=>d.ts.all (Aq T f))).map (λf=>T++[f]))++[T++[f]]=((fs.take (i+1)).filter (λf=>d.ts.all (Aq T f))).map (λf=>T++[f]):=by
  rw[e1,yQ,yL (p:=λf=>d.ts.all (Aq T f)) av,YC,yJ];rfl
 rw[e2];exact((List.take_prefix _ _).filter _).map _
 ):=h
def PU(o:Bm adr U):∀(l:List Ap),DG adr U old cb nb wb l
 |[]=>λG TT a T h c B j O=>by
  have s:Ab adr T ∉ a.1:=λq=>O ((Lh o (λT h=>(c T h)) j).1 (h.1.mem_iff.1 q))
  refine⟨⟨λ_=>s,h.2.bX _⟩,λk u=>?_⟩
  have e:k=(a.1++[Ab adr T],E9 (Ab adr T) 1 a.2):=by
   have e0:k=(FV (Ab adr T) 1 a.1,E9 (Ab adr T) 1 a.2):=u;rw[e0,FV,if_pos rfl]
  subst e;refine⟨?_,h.2.bO s⟩;rw[yJ];exact h.1.append (.refl _)
 |(.inl d,fs)::r=>λG TT a T h c B j O=>by
  match G,c,j with
  |[],_,j=>exact j.elim
  |g::G,c,j=>
   have ih:=PU o r;have s:Ab adr T ∉ a.1.map (Ab adr):=λq=>O ((Lh o (λT h=>(c T h).len) j.len).1 (((h.1.map _).mem_iff).1 q));obtain⟨w1,w2,w3,w4,w5,w6⟩:=j;have t:∀V∈A4 (.inl d,fs) [T],Em U r G V:=Le (n:=(.inl d,fs)) (g:=g) (λN h'=>oz);have Z:(A4 (.inl d,fs) [T]).Nodup:=Lm (n:=(.inl d,fs)) (r:=r) (U:=U) (g:=g) (G:=G) (λN h'=>oz) qe;have eT:A4 (.inl d,fs) [T]=(fs.filter (λf=>d.ts.all (Aq T f))).map (λf=>T++[f]):=by simp[A4]
   have D:=Lm c B;have v:=Le c;have C:(A4 (.inl d,fs) TT++A4 (.inl d,fs) [T]).Nodup:=yP.2 ⟨D,Z,λx R y W e=>vE O W (e▸R)⟩;refine⟨⟨w1.1,w2,λf H=>(w5 f (w3 f H)).2,λ_=>s,λi f b hi av L=>?_⟩,λk u=>?_⟩
   .have ar:(((fs.take i).filter (λf=>d.ts.all (Aq T f))).map (λf=>T++[f]))++[T++[f]] <+: A4 (.inl d,fs) [T]:=by
     exact oQ
    obtain⟨rest,J⟩:=ar;obtain⟨z,aw⟩:∃z,z=((fs.take i).filter (λf=>d.ts.all (Aq T f))).map (λf=>T++[f]):=⟨_,rfl⟩
    rw[<-aw]at J L;rw[<-J]at C t;have Y:(A4 (.inl d,fs) TT++(z++[T++[f]])).Nodup:=by
     rw[<-Yc]at C;exact(yP.1 C).1
    have M:(A4 (.inl d,fs) TT++z).Nodup:=by
     rw[<-Yc]at Y;exact(yP.1 Y).1
    have hl:=DG.aT ih G z _ _ b h.2 v (λV hV=>t V Lr) M L;refine(ih G _ b (T++[f]) hl (λV hV=>?_) M (t _ qe) (λq=>?_)).1
    .rcases yr.1 hV with hV|hV
     .exact v V hV
     exact t V Lr
    rw[<-Yc]at Y;exact(yP.1 Y).2.2 _ q _ qe rfl
   .obtain⟨I,w⟩:k.1=Hb adr T 1 a.1/\BG (C_ adr 1 U cb nb wb r).aG ((fs.filter (λf=>d.ts.all (Aq T f))).map (λf=>T++[f])) a.2 k.2:=u;rw[<-eT]at w;refine⟨?_,?_⟩
    .rw[I,Hb,if_pos rfl];exact h.1.append (.refl _)
    .rw[kF];exact DG.aT ih G _ _ _ _ h.2 v t C w
 |(.inr d,fs)::r=>λG TT a T h c B j O=>by
  match G,c,j with
  |[],_,j=>exact j.elim
  |g::G,c,j=>
   have ih:=PU o r;have s:Ab adr T ∉ a.1.map (Ab adr):=λq=>O ((Lh o (λT h=>(c T h).len) j.len).1 (((h.1.map _).mem_iff).1 q));obtain⟨w1,w2,w3,w4,w5⟩:=j;have D:=Lm c B;have v:=Le c;have E:T ∉ A4 (.inr d,fs) TT:=λq=>O (yg.1 q).1;have K:=ih G _ _ T h.2.2 v D w5 E;refine⟨⟨w1,w2,λf H=>w4 f (w3 f H),λ_=>⟨s,λ_=>K.1⟩,λe=>qp⟩,λk u=>?_⟩;obtain⟨I,w,m⟩:k.1=Hb adr T 1 a.1/\k.2.1=Gw (Ab adr T) (if(1:Int)=1 then(nBar d.ts fs T:Int) else 0) a.2.1/\(C_ adr 1 U cb nb wb r).aL (if(1:Int)=1 then nBar d.ts fs T else(Ar (Ab adr T) a.2.1).toNat) T a.2.2 k.2.2:=u;rw[if_pos rfl]at w m;refine⟨?_,λV hV=>?_,?_⟩
   .rw[I,Hb,if_pos rfl];exact h.1.append (.refl _)
   .rw[w];rcases yr.1 hV with hV|hV
    .rw[SU (λe=>O (by
      rw[IW o w2 ((c V hV).len).2 w1 ((c V hV).len).1 e];exact hV))]
     exact h.2.1 V hV
    rw[yv.1 hV];exact U8 _ _ _
   rw[kF];unfold CA.aL at m;by_cases A:nBar d.ts fs T=0
   .rw[if_pos A]at m;have e:A4 (.inr d,fs) [T]=[T]:=by simp[A4,A]
    rw[e];exact K.2 _ m
   rw[if_neg A]at m;have e:A4 (.inr d,fs) [T]=[]:=by simp[A4,A]
   rw[e,yM,m];exact h.2.2
end
def FC(adr:F->Addr)(T:List F)(TT:List (List F)):List (List F):=TT.filter (λV=>decide (Ab adr V≠Ab adr T))
def Gn(adr:F->Addr)(Us TT:List (List F)):List (List F):=TT.filter (λV=>decide (Ab adr V ∉ Us.map (Ab adr)))
def lL(adr T a TT):Gn adr (T::a) TT=Gn adr a (FC adr T TT):=by
 unfold Gn FC;rw[YB];refine Y0 λV _=>?_;simp only[yn,yO,not_or,Bool.decide_and,ne_eq];rw[Bool.and_comm]
def VZ(adr TT):Gn adr [] TT=TT:=by simp[Gn]
def zv(adr T TT):Gn adr [T] TT=FC adr T TT:=by rw[lL,VZ]
def jj{α β:Type}{h p}{q:β->Bool}:∀{l:List α},(∀x∈l,p x=true->∀y∈h x,q y=true)->(∀x∈l,p x=false->∀y∈h x,q y=false)->(l.filter p).flatMap h=(l.flatMap h).filter q
 |[],_,_=>rfl
 |x::r,h1,h2=>by
  have O:=jj (l:=r) (λy hy=>h1 y J_) (λy hy=>h2 y J_)
  rw[yE,yQ,<-O]
  cases a:p x
  .rw[yN (by rw[a];decide)]
   have:(h x).filter q=[]:=Ww.2 λy hy=>by rw[h2 x qe a y hy];decide
   rw[this]
   rfl
  rw[yL a,yE,Yv.2 (h1 x qe a)]
def im{U n r g G T}(h:Em U (n::r) (g::G) T){V}(a:V∈A4 n [T]):V.length<=3/\∀f∈V,f∈U:=
 (Le (n:=n) (TT:=[T]) (λY O=>by rw[yv.1 O];exact h) V a).len
section
variable {adr : F -> Addr} {U : List F} {old : List Kt} {cb nb wb : Nat}
def kH(o:Bm adr U){n r g G TT T}(m:∀T∈TT,Em U (n::r) (g::G) T)(l:Em U (n::r) (g::G) T):A4 n (FC adr T TT)=Gn adr (A4 n [T]) (A4 n TT):=by
 have s:∀V∈TT,∀y∈A4 n [V],Ab adr y∈(A4 n [T]).map (Ab adr)->V=T:=λV a y b i=>by
  obtain⟨z,O,e⟩:=yz.1 i;have hy3:=im (m V a) b;have Y:=im l O;have:=IW o Y.2 hy3.2 Y.1 hy3.1 e;subst this;rcases n with⟨d|d,fs⟩
  .simp only[A4,yE,YO,yM]at b O;obtain⟨f,_,t⟩:=yz.1 b;obtain⟨x,_,v⟩:=yz.1 O;exact(PY (t.j v.ai)).1
  have u:=yv.1 (yg.1 b).1;have w:=yv.1 (yg.1 O).1;exact u.ai.j w
 have c:∀V∈TT,Ab adr V≠Ab adr T->V≠T:=λV _ h e=>h H4;have p:∀V∈TT,Ab adr V=Ab adr T->V=T:=λV a e=>IW o (m V a).len.2 l.len.2 (m V a).len.1 l.len.1 e;rcases n with⟨d|d,fs⟩
 .unfold FC Gn;refine jj (h:=λT=>(fs.filter (λf=>d.ts.all (Aq T f))).map (λf=>T++[f])) (λV a k y b=>?_) (λV a k y b=>?_)
  .simp only[decide_eq_true_eq]at k⊢;exactλq=>c V a k (s V a y (by simpa[A4] using b) q)
  simp only[decide_eq_false_iff_not,ne_eq,Decidable.not_not]at k⊢;rw[p V a k]at b;exact yT (by simpa[A4] using b)
 unfold FC Gn;show((TT.filter _).filter _)=((TT.filter _).filter _);rw[YB,YB];refine Y0 λV a=>?_;by_cases O:nBar d.ts fs V=0
 .by_cases i:Ab adr V=Ab adr T
  .have e:=p V a i;subst e;have:Ab adr V∈(A4 (.inr d,fs) [V]).map (Ab adr):=yT (by simp[A4,O]);simp[O,this]
  have:Ab adr V ∉ (A4 (.inr d,fs) [T]).map (Ab adr):=λq=>c V a i (s V a V (by simp[A4,O]) q);simp[O,i,this]
 simp[O]
def FJ(adr:F->Addr)(U:List F)(old:List Kt)(cb nb wb:Nat)(l:List Ap):Prop:=∀(G:List (List F))(TT:List (List F))(a:CT l)(T:List F),Lv adr old l TT a->(∀T∈TT,Em U l G T)->TT.Nodup->T∈TT->(C_ adr (-1) U cb nb wb l).ok T a/\∀a',(C_ adr (-1) U cb nb wb l).aG T a a'->Lv adr old l (FC adr T TT) a'
def FJ.aT(i:Bm adr U){l}(h:FJ adr U old cb nb wb l)(G):∀(f:List (List F))(TT:List (List F))(a b:CT l),Lv adr old l TT a->(∀T∈TT,Em U l G T)->TT.Nodup->(∀T∈f,T∈TT)->f.Nodup->BG (C_ adr (-1) U cb nb wb l).aG f a b->Lv adr old l (Gn adr f TT) b
 |[],TT,a,b,h1,_,_,_,_,hs=>by
  rw[<-show a=b from hs,VZ]
  exact h1
 |V::f,TT,a,b,h1,h2,h3,h4,h5,⟨c,hs,hr⟩=>by
  rw[lL]
  rw[Yg]at h5
  refine FJ.aT i h G f (FC adr V TT) c b ((h G TT a V h1 h2 h3 (h4 V (by simp))).2 c hs) (λT g=>h2 T (yg.1 g).1) (h3.filter _) (λT g=>?_) h5.2 hr
  have d:=h4 T (by simp[g])
  refine yg.2 ⟨d,?_⟩
  simp only[decide_eq_true_eq,ne_eq]
  intro e
  have:=IW i (h2 T d).len.2 (h2 V (h4 V qe)).len.2 (h2 T d).len.1 (h2 V (h4 V qe)).len.1 e
  subst this
  exact h5.1 g
def RY(m:Bm adr U):∀(l:List Ap),FJ adr U old cb nb wb l
 |[]=>λG TT a T h c x j=>by
  refine⟨⟨λe=>(by cases e),h.2.bX _⟩,λk u=>?_⟩
  have e:k=(a.1.filter (λy=>decide (y≠Ab adr T)),E9 (Ab adr T) (-1) a.2):=by
   have e0:k=(FV (Ab adr T) (-1) a.1,E9 (Ab adr T) (-1) a.2):=u;rw[e0,FV,if_neg qh]
  subst e;refine⟨?_,h.2.gone (h.1.mem_iff.2 (yT j))⟩;have e1:(FC adr T TT).map (Ab adr)=(TT.map (Ab adr)).filter (λy=>decide (y≠Ab adr T)):=by
   unfold FC;rw[Y8];rfl
  rw[e1];exact h.1.filter _
 |(.inl d,fs)::r=>λG TT a T h c x j=>by
  match G,c with
  |[],c=>exact(c T j).elim
  |g::G,c=>
   have ih:=RY m r;have w:=c T j;obtain⟨B,I,D,W,N,w6⟩:=c T j;have eT:A4 (.inl d,fs) [T]=(fs.filter (λf=>d.ts.all (Aq T f))).map (λf=>T++[f]):=by simp[A4]
   have J:(A4 (.inl d,fs) [T]).Nodup:=Lm (n:=(.inl d,fs)) (r:=r) (U:=U) (g:=g) (G:=G) (λT' h'=>by rw[yv.1 h'];exact w) qe;have s:∀V∈A4 (.inl d,fs) [T],V∈A4 (.inl d,fs) TT:=λV hV=>Yk.2 ⟨T,j,by simpa[A4] using hV⟩;have Y:=Lm c x;have O:=Le c;refine⟨⟨B.1,I,λf C=>(N f (D f C)).2,λe=>qp,λi f b hi av M=>?_⟩,λk u=>?_⟩
   .have aq:(((fs.take i).filter (λf=>d.ts.all (Aq T f))).map (λf=>T++[f]))++[T++[f]] <+: A4 (.inl d,fs) [T]:=by
     exact oQ
    obtain⟨rest,L⟩:=aq;obtain⟨A,aw⟩:∃A,A=((fs.take i).filter (λf=>d.ts.all (Aq T f))).map (λf=>T++[f]):=⟨_,rfl⟩
    rw[<-aw]at L M;rw[<-L]at J s;have R:=(yP.1 J).1;have Z:=(yP.1 R).1;have hl:=FJ.aT m ih G A _ _ b h.2 O Y (λV hV=>s V Lr) Z M;have E:=s (T++[f]) qe;refine(ih G _ b (T++[f]) hl (λV hV=>O V (yg.1 hV).1) (Y.filter _) (yg.2 ⟨E,?_⟩)).1;simp only[decide_eq_true_eq];intro q;obtain⟨V,hV,e⟩:=yz.1 q;have K:=O V (s V Lr);have:=IW m K.len.2 (O _ E).len.2 K.len.1 (O _ E).len.1 e;exact(yP.1 R).2.2 V hV (T++[f]) qe this
   .obtain⟨H,v⟩:k.1=Hb adr T (-1) a.1/\BG (C_ adr (-1) U cb nb wb r).aG ((fs.filter (λf=>d.ts.all (Aq T f))).map (λf=>T++[f])) a.2 k.2:=u;rw[<-eT]at v;refine⟨?_,?_⟩
    .rw[H,Hb,if_neg qh];exact h.1.filter _
    .rw[kH m c w];exact FJ.aT m ih G _ _ _ _ h.2 O Y s J v
 |(.inr d,fs)::r=>λG TT a T h c x j=>by
  match G,c with
  |[],c=>exact(c T j).elim
  |g::G,c=>
   have ih:=RY m r;have w:=c T j;obtain⟨B,I,D,W,N⟩:=c T j;have Y:=Lm c x;have O:=Le c;have hc:=h.2.1 T j;refine⟨⟨B,I,λf C=>W f (D f C),λe=>qp,λ_=>⟨qd,λe=>?_⟩⟩,λk u=>?_⟩
   .exact(ih G _ _ T h.2.2 O Y (yg.2 ⟨j,qg⟩)).1
   obtain⟨H,v,o⟩:k.1=Hb adr T (-1) a.1/\k.2.1=Gw (Ab adr T) (if(-1:Int)=1 then(nBar d.ts fs T:Int) else 0) a.2.1/\(C_ adr (-1) U cb nb wb r).aL (if(-1:Int)=1 then nBar d.ts fs T else(Ar (Ab adr T) a.2.1).toNat) T a.2.2 k.2.2:=u;rw[if_neg qh]at v o;refine⟨?_,λV hV=>?_,?_⟩
   .rw[H,Hb,if_neg qh];exact h.1.filter _
   .rw[v];obtain⟨hV,t⟩:=yg.1 hV;rw[SU (λe=>by rw[e]at t;simp at t)];exact h.2.1 V hV
   rw[kH m c w];unfold CA.aL at o;by_cases z:nBar d.ts fs T=0
   .rw[if_pos qd]at o;have e:A4 (.inr d,fs) [T]=[T]:=by simp[A4,z]
    rw[e,zv];exact(ih G _ _ T h.2.2 O Y (yg.2 ⟨j,by simp[z]⟩)).2 _ o
   rw[if_neg qd]at o;have e:A4 (.inr d,fs) [T]=[]:=by simp[A4,z]
   rw[e,VZ,o];exact h.2.2
end
def Gf(adr:F->Addr)(old:List Kt):(l:List Ap)->List (List F)->List (List F)->CT l->Prop
 |[],_,TT,a=>a.1.Perm (TT.map (Ab adr))/\BU old a.1 a.2
 |(.inl d,_)::r,G,TT,a=>a.1.Perm TT/\Gf adr old r G.tail (A4 (.inl d,G.headD []) TT) a.2
 |(.inr d,_)::r,G,TT,a=>a.1.Perm TT/\(∀T∈TT,Ar (Ab adr T) a.2.1=(nBar d.ts (G.headD []) T:Int))/\Gf adr old r G.tail (A4 (.inr d,G.headD []) TT) a.2.2
def Hy{adr old}:∀{l:List Ap}{TT:List (List F)}{a:CT l},Gf adr old l (l.map Prod.snd) TT a↔Lv adr old l TT a
 |[],_,_=>Iff.rfl
 |(.inl _,_)::_,_,_=>and_congr_right λ_=>Hy
 |(.inr _,_)::_,_,_=>and_congr_right λ_=>and_congr_right λ_=>Hy
def gB{α β:Type}(p)(h:α->β):∀l:List α,l.flatMap (λx=>if p x=true then [h x] else [])=(l.filter p).map h
 |[]=>rfl
 |x::r=>by
  rw[yE,gB p h r]
  by_cases a:p x=true
  .rw[if_pos a,yL a]
   rfl
  rw[if_neg a,yN a]
  rfl
def jJ{d f g fs}(h:fs.Perm (f::g))(TT):(A4 (.inl d,fs) TT).Perm (A4 (.inl d,g) TT++(TT.filter (λT=>d.ts.all (Aq T f))).map (λT=>T++[f])):=by
 rw[<-gB];refine(xp (.refl _) (λT _=>?_)).j (k9 _ _ _);refine((h.filter _).map _).j ?_;by_cases a:d.ts.all (Aq T f)=true
 .rw[yL (p:=λf=>d.ts.all (Aq T f)) a,if_pos a,yn];exact(KB (l₁:=[_])).j (.refl _)
 rw[yN (p:=λf=>d.ts.all (Aq T f)) a,if_neg a,yM]
def ya{ts g fs}(h:fs.Perm g)(T):nBar ts fs T=nBar ts g T:=(h.filter _).length_eq
def OJ{ts f g fs}(h:fs.Perm (f::g))(T):nBar ts fs T=nBar ts g T+(if ts.all (Aq T f)=true then 1 else 0):=by
 rw[ya h];unfold nBar;by_cases a:ts.all (Aq T f)=true
 .rw[yL (p:=λf=>ts.all (Aq T f)) a,if_pos a,yH]
 rw[yN (p:=λf=>ts.all (Aq T f)) a,if_neg a];rfl
def zmx{adr b a A B}(d:b.Perm a)(c:A.Perm B):(Gn adr b A).Perm (Gn adr a B):=by
 have e:Gn adr b A=Gn adr a A:=by
  unfold Gn;refine Y0 λV _=>?_;simp only[(d.map (Ab adr)).mem_iff]
 rw[e];exact c.filter _
def wC{adr U}(g:Bm adr U){A a}(i:(A++a).Nodup)(b:∀T∈A++a,T.length<=3/\∀f∈T,f∈U):Gn adr a (A++a)=A:=by
 unfold Gn;rw[yQ];have d:A.filter (λV=>decide (Ab adr V ∉ a.map (Ab adr)))=A:=Yv.2 λV hV=>by
  simp only[decide_eq_true_eq];intro q;rw[Lh g (λT e=>b T (by simp[e])) (b V Lr)]at q;exact(yP.1 i).2.2 V hV V q rfl
 have c:a.filter (λV=>decide (Ab adr V ∉ a.map (Ab adr)))=[]:=Ww.2 λV hV=>by
  simp only[decide_eq_true_eq];exactλq=>q (yT hV)
 rw[d,c,yM]
section
variable {adr : F -> Addr} {U : List F} {old : List Kt} {cb nb wb : Nat}
def fU(D:Bm adr U){d fs g u r G f}{A TT:List (List F)}{a}(hl:Lv adr old r (A4 (.inl d,g) TT) a)(C:fs.Perm (f::g))(x:∀T∈TT,Em U ((.inl d,fs)::r) (u::G) T)(E:TT.Nodup)(J:A.Perm TT) :
  (∀(c:List (List F))(T:List F)(y:List (List F))(e:CT r),A.Perm (c++T::y)->d.ts.all (Aq T f)=true->BG (C_ adr 1 U cb nb wb r).aG ((c.filter (λT=>d.ts.all (Aq T f))).map (λT=>T++[f])) a e->(C_ adr 1 U cb nb wb r).ok (T++[f]) e) /\
  ∀(l:List (List F))(e:CT r),A.Perm l->BG (C_ adr 1 U cb nb wb r).aG ((l.filter (λT=>d.ts.all (Aq T f))).map (λT=>T++[f])) a e->Lv adr old r (A4 (.inl d,fs) TT) e:=by
 have n:=PU (old:=old) (cb:=cb) (nb:=nb) (wb:=wb) D r;have Y:=jJ (d:=d) C TT;have O:=Le x;have z:=Lm x E;have w:∀B,A.Perm B->(A4 (.inl d,fs) TT).Perm (A4 (.inl d,g) TT++(B.filter (λT=>d.ts.all (Aq T f))).map (λT=>T++[f])):=λB H=>Y.j ((Wc _).append (((J.ai.j H).filter _).map _));have t:∀T∈A4 (.inl d,g) TT,Em U r G T:=λT K=>O T (Y.mem_iff.2 (by simp[K]));refine⟨λc T y e o L k=>?_,λl e o k=>?_⟩
 .have b:=w _ o;have i:=b.nodup_iff.1 z;rw[yQ,yL (p:=λT=>d.ts.all (Aq T f)) L,yJ,yn]at b i;obtain⟨m,M⟩:∃m,m=(c.filter (λT=>d.ts.all (Aq T f))).map (λT=>T++[f]):=⟨_,rfl⟩
  rw[<-M]at b i k;rw[<-Yc]at i;obtain⟨v,_,I⟩:=yP.1 i;have s:=DG.aT n G m _ _ _ hl t (λV hV=>O V (b.mem_iff.2 Lr)) v k;refine(n G _ e (T++[f]) s (λV hV=>O V (b.mem_iff.2 ?_)) v (O _ (b.mem_iff.2 qe)) (λq=>I _ q _ qe rfl)).1;rcases yr.1 hV with hV|hV<;>simp[hV]
 have b:=w _ o;exact(DG.aT n G _ _ _ _ hl t (λV hV=>O V (b.mem_iff.2 (by simp only[yr];exact .inr hV))) (b.nodup_iff.1 z) k).perm b.ai
def Z6(l:Bm adr U){d fs g u r G f}{A TT:List (List F)}{a}(hl:Lv adr old r (A4 (.inl d,g) TT) a)(z:g.Perm (f::fs))(x:∀T∈TT,Em U ((.inl d,g)::r) (u::G) T)(E:TT.Nodup)(K:A.Perm TT) :
  (∀(c:List (List F))(T:List F)(y:List (List F))(e:CT r),A.Perm (c++T::y)->d.ts.all (Aq T f)=true->BG (C_ adr (-1) U cb nb wb r).aG ((c.filter (λT=>d.ts.all (Aq T f))).map (λT=>T++[f])) a e->(C_ adr (-1) U cb nb wb r).ok (T++[f]) e) /\
  ∀(n:List (List F))(e:CT r),A.Perm n->BG (C_ adr (-1) U cb nb wb r).aG ((n.filter (λT=>d.ts.all (Aq T f))).map (λT=>T++[f])) a e->Lv adr old r (A4 (.inl d,fs) TT) e:=by
 have s:=RY (old:=old) (cb:=cb) (nb:=nb) (wb:=wb) l r;have I:=jJ (d:=d) z TT;have O:=Le x;have Y:=Lm x E;have w:∀B,A.Perm B->(A4 (.inl d,g) TT).Perm (A4 (.inl d,fs) TT++(B.filter (λT=>d.ts.all (Aq T f))).map (λT=>T++[f])):=λB H=>I.j ((Wc _).append (((K.ai.j H).filter _).map _));refine⟨λc T y e t M m=>?_,λn e t m=>?_⟩
 .have b:=w _ t;have k:=b.nodup_iff.1 Y;rw[yQ,yL (p:=λT=>d.ts.all (Aq T f)) M,yJ,yn]at b k;obtain⟨o,N⟩:∃o,o=(c.filter (λT=>d.ts.all (Aq T f))).map (λT=>T++[f]):=⟨_,rfl⟩
  rw[<-N]at b k m;have D:=(yP.1 k).2.1;obtain⟨C,_,J⟩:=yP.1 D;have i:=FJ.aT l s G o _ _ _ hl O Y (λV hV=>b.mem_iff.2 Lr) C m;have v:T++[f]∈A4 (.inl d,g) TT:=b.mem_iff.2 qe;refine(s G _ e (T++[f]) i (λV hV=>O V (yg.1 hV).1) (Y.filter _) (yg.2 ⟨v,?_⟩)).1;simp only[decide_eq_true_eq];intro q;rw[Lh l (λV hV=>(O V (b.mem_iff.2 Lr)).len) (O _ v).len]at q;exact J _ q _ qe rfl
 have b:=w _ t;have k:=b.nodup_iff.1 Y;have i:=FJ.aT l s G _ _ _ _ hl O Y (λV hV=>b.mem_iff.2 (by simp only[yr];exact .inr hV)) (yP.1 k).2.1 m;refine i.perm ?_;refine(zmx (.refl _) b).j ?_;rw[wC l k (λT L=>(O T (b.mem_iff.2 L)).len)]
def ZV(s:Bm adr U){d fs g u r G f}{A TT:List (List F)}{B a}(hl:Lv adr old r (A4 (.inr d,g) TT) a)(K:∀T∈TT,Ar (Ab adr T) B=(nBar d.ts g T:Int))(M:fs.Perm (f::g))(m:∀T∈TT,Em U ((.inr d,g)::r) (u::G) T)(C:TT.Nodup)(O:A.Perm TT) :
  (∀(k:List (List F))(T:List F)(Z:List (List F))(n:CT r),A.Perm (k++T::Z)->d.ts.all (Aq T f)=true->Ar (Ab adr T) B=0->BG (C_ adr (-1) U cb nb wb r).aG (k.filter (λT=>d.ts.all (Aq T f)&&decide (Ar (Ab adr T) B=0))) a n->(C_ adr (-1) U cb nb wb r).ok T n) /\
  ∀(o:List (List F))(n:CT r),A.Perm o->BG (C_ adr (-1) U cb nb wb r).aG (o.filter (λT=>d.ts.all (Aq T f)&&decide (Ar (Ab adr T) B=0))) a n->Lv adr old r (A4 (.inr d,fs) TT) n/\∀T∈TT,Ar (Ab adr T) (Dl adr 1 (o.filter (λT=>d.ts.all (Aq T f))) B)=(nBar d.ts fs T:Int):=by
 have L:=RY (old:=old) (cb:=cb) (nb:=nb) (wb:=wb) s r;have Y:=Le m;have I:=Lm m C;have ah:∀J,A.Perm J->∀T∈J.filter (λT=>d.ts.all (Aq T f)&&decide (Ar (Ab adr T) B=0)),T∈A4 (.inr d,g) TT:=λJ hB T l=>by
  obtain⟨t,H⟩:=yg.1 l;have w:=O.mem_iff.1 (hB.mem_iff.2 t);simp only[yk,decide_eq_true_eq]at H;have:=K T w;exact yg.2 ⟨w,qg⟩
 refine⟨λk T Z n b c y x=>?_,λo n b x=>⟨?_,λT l=>?_⟩⟩
 .have i:=ah _ b;have v:=b.nodup_iff.1 (O.nodup_iff.2 C);obtain⟨n1,_,n3⟩:=yP.1 v;obtain⟨D,z⟩:∃D,D=k.filter (λT=>d.ts.all (Aq T f)&&decide (Ar (Ab adr T) B=0)):=⟨_,rfl⟩
  have R:=i T (yg.2 ⟨qe,by simp[c,y]⟩);have am:∀V∈D,V∈A4 (.inr d,g) TT:=λV j=>i V (by rw[yQ,<-z];simp[j]);rw[<-z]at x;have p:=FJ.aT s L G D _ _ _ hl Y I am (by rw[z];exact n1.filter _) x;refine(L G _ n T p (λV j=>Y V (yg.1 j).1) (I.filter _) (yg.2 ⟨R,?_⟩)).1;simp only[decide_eq_true_eq];intro q;rw[Lh s (λV j=>(Y V (am V j)).len) (Y _ R).len]at q;rw[z]at q;exact n3 T (yg.1 q).1 T qe rfl
 .have v:=b.nodup_iff.1 (O.nodup_iff.2 C);have p:=FJ.aT s L G _ _ _ _ hl Y I (ah _ b) (v.filter _) x;refine p.perm (K4 ?_);unfold Gn;show(TT.filter _).filter _=TT.filter _;rw[YB];refine Y0 λT l=>?_;have E:=K T l;have i:=OJ (ts:=d.ts) M T;have hk:Ab adr T∈(o.filter (λT=>d.ts.all (Aq T f)&&decide (Ar (Ab adr T) B=0))).map (Ab adr)↔(d.ts.all (Aq T f)=true/\Ar (Ab adr T) B=0):=by
   rw[Lh s (λV j=>(m V (O.mem_iff.1 (b.mem_iff.2 (yg.1 j).1))).len) (m T l).len,yg];simp only[yk,decide_eq_true_eq,and_iff_right_iff_imp];exactλ_=>b.mem_iff.1 (O.mem_iff.2 l)
  by_cases y:nBar d.ts g T=0
  .have hc:Ar (Ab adr T) B=0:=qd;by_cases c:d.ts.all (Aq T f)=true
   .rw[if_pos c]at i;have t:¬nBar d.ts fs T=0:=qd;simp only[hk.2 ⟨c,hc⟩,t,not_true_eq_false,decide_false,WX]
   rw[if_neg c]at i;have t:nBar d.ts fs T=0:=qd;have H:¬Ab adr T∈(o.filter (λT=>d.ts.all (Aq T f)&&decide (Ar (Ab adr T) B=0))).map (Ab adr):=λq=>c (hk.1 q).1;simp only[H,t,y,not_false_eq_true,decide_true,KK]
  have t:¬nBar d.ts fs T=0:=qd;simp only[t,y,decide_false,Wz]
 have v:=b.nodup_iff.1 (O.nodup_iff.2 C);have i:=OJ (ts:=d.ts) M T;have E:=K T l;have ar:=b.mem_iff.1 (O.mem_iff.2 l);have aq:((o.filter (λT=>d.ts.all (Aq T f))).map (Ab adr)).Nodup:=by
  refine KA _ (λV W au e=>?_) (List.Pairwise.and_mem.1 (v.filter (λT=>d.ts.all (Aq T f))));obtain⟨v1,v2,v3⟩:=au;have q1:=(m V (O.mem_iff.1 (b.mem_iff.2 (yg.1 v1).1))).len;have N:=(m W (O.mem_iff.1 (b.mem_iff.2 (yg.1 v2).1))).len;exact v3 (IW s q1.2 N.2 q1.1 N.1 e)
 by_cases c:d.ts.all (Aq T f)=true
 .rw[if_pos c]at i;rw[Xa adr 1 T _ B aq (yg.2 ⟨ar,c⟩),E,i];simp
 rw[if_neg c]at i;rw[Oo adr 1 _ _ B (λq=>?_),E,i]
 .simp
 rw[Lh s (λV j=>(m V (O.mem_iff.1 (b.mem_iff.2 (yg.1 j).1))).len) (m T l).len]at q;exact c (yg.1 q).2
def c_(K:Bm adr U){d fs g u r G f}{A TT:List (List F)}{B a}(hl:Lv adr old r (A4 (.inr d,g) TT) a)(D:∀T∈TT,Ar (Ab adr T) B=(nBar d.ts g T:Int))(E:g.Perm (f::fs))(R:∀T∈TT,Em U ((.inr d,fs)::r) (u::G) T)(hn:TT.Nodup)(Y:A.Perm TT) :
  (∀(k:List (List F))(T:List F)(Z:List (List F))(l:CT r),A.Perm (k++T::Z)->d.ts.all (Aq T f)=true->Ar (Ab adr T) B=1->BG (C_ adr 1 U cb nb wb r).aG (k.filter (λT=>d.ts.all (Aq T f)&&decide (Ar (Ab adr T) B=1))) a l->(C_ adr 1 U cb nb wb r).ok T l) /\
  ∀(s:List (List F))(l:CT r),A.Perm s->BG (C_ adr 1 U cb nb wb r).aG (s.filter (λT=>d.ts.all (Aq T f)&&decide (Ar (Ab adr T) B=1))) a l->Lv adr old r (A4 (.inr d,fs) TT) l/\∀T∈TT,Ar (Ab adr T) (Dl adr (-1) (s.filter (λT=>d.ts.all (Aq T f))) B)=(nBar d.ts fs T:Int):=by
 have L:=PU (old:=old) (cb:=cb) (nb:=nb) (wb:=wb) K r;have O:∀T∈TT,Em U r G T:=λT i=>(R T i).2.2.2.2;have H:∀T∈A4 (.inr d,g) TT,Em U r G T:=λT i=>O T (yg.1 i).1;have ar:(A4 (.inr d,g) TT).Nodup:=hn.filter _;have hcut:∀C,A.Perm C->C.Nodup/\(∀T∈C,T∈TT):=λC hB=>⟨hB.nodup_iff.1 (Y.nodup_iff.2 hn),λT i=>Y.mem_iff.1 (hB.mem_iff.2 i)⟩
 have N:∀(P:List (List F)),P.Nodup->(∀T∈P,T∈TT)->(A4 (.inr d,g) TT++P.filter (λT=>d.ts.all (Aq T f)&&decide (Ar (Ab adr T) B=1))).Nodup:=λP hP au=>yP.2 ⟨ar,hP.filter _,λx hx y hy e=>by
  subst e;obtain⟨t,w⟩:=yg.1 hx;obtain⟨h3,h4⟩:=yg.1 hy;have:=D x t;simp only[yk,decide_eq_true_eq]at w h4;omega⟩
 refine⟨λk T Z l p ht m I=>?_,λs l p I=>⟨?_,λT i=>?_⟩⟩
 .obtain⟨v,c⟩:=hcut _ p;obtain⟨n1,_,n3⟩:=yP.1 v;have ha:=N k n1 (λV hV=>c V Lr);have o:=DG.aT L G _ _ _ _ hl H (λV hV=>O V (c V (by simp[(yg.1 hV).1]))) ha I;have z:=c T qe;refine(L G _ l T o (λV hV=>?_) ha (O T z) (λq=>?_)).1
  .rcases yr.1 hV with hV|hV
   .exact H V hV
   exact O V (c V (by simp[(yg.1 hV).1]))
  rcases yr.1 q with q|q
  .have t:=(yg.1 q).2;have:=D T z;simp only[decide_eq_true_eq]at t;omega
  exact n3 T (yg.1 q).1 T qe rfl
 .obtain⟨v,c⟩:=hcut _ p;have o:=DG.aT L G _ _ _ _ hl H (λV hV=>O V (c V (yg.1 hV).1)) (N s v c) I;refine o.perm ?_;refine((Wc _).append ((p.ai.j Y).filter _)).j ?_;have e:A4 (.inr d,g) TT=(A4 (.inr d,fs) TT).filter (λT=>decide (nBar d.ts g T=0)):=by
   show TT.filter _=(TT.filter _).filter _;rw[YB];refine Y0 λT _=>?_;have n:=OJ (ts:=d.ts) E T;by_cases m:nBar d.ts g T=0
   .have:nBar d.ts fs T=0:=qd;simp[m,this]
   simp[m]
  have e2:TT.filter (λT=>d.ts.all (Aq T f)&&decide (Ar (Ab adr T) B=1))=(A4 (.inr d,fs) TT).filter (λT=>!decide (nBar d.ts g T=0)):=by
   show _=(TT.filter _).filter _;rw[YB];refine Y0 λT i=>?_;have n:=OJ (ts:=d.ts) E T;have J:=D T i;by_cases ht:d.ts.all (Aq T f)=true
   .rw[if_pos ht]at n;have t:¬nBar d.ts g T=0:=qd;by_cases m:nBar d.ts fs T=0
    .have w:Ar (Ab adr T) B=1:=qd;simp only[ht,t,m,w,decide_true,decide_false,KK,Bool.not_false]
    have w:¬Ar (Ab adr T) B=1:=qd;simp only[ht,t,m,w,decide_false,Wz]
   rw[if_neg ht]at n;have ak:d.ts.all (Aq T f)=false:=NB;by_cases m:nBar d.ts g T=0
   .simp only[ak,m,WX,decide_true,WU]
   have:¬nBar d.ts fs T=0:=qd;simp only[ak,this,WX,decide_false,Wz]
  rw[e,e2];exact List.filter_append_perm _ _
 obtain⟨v,c⟩:=hcut _ p;have n:=OJ (ts:=d.ts) E T;have J:=D T i;have ao:=p.mem_iff.1 (Y.mem_iff.2 i);have b:∀V∈TT,V.length<=3/\∀f∈V,f∈U:=λV hV=>(R V hV).len;have am:((s.filter (λT=>d.ts.all (Aq T f))).map (Ab adr)).Nodup:=by
  refine KA _ (λV W aq e=>?_) (List.Pairwise.and_mem.1 (v.filter (λT=>d.ts.all (Aq T f))));obtain⟨v1,v2,v3⟩:=aq;have q1:=b V (c V (yg.1 v1).1);have M:=b W (c W (yg.1 v2).1);exact v3 (IW K q1.2 M.2 q1.1 M.1 e)
 by_cases ht:d.ts.all (Aq T f)=true
 .rw[if_pos ht]at n;rw[Xa adr (-1) T _ B am (yg.2 ⟨ao,ht⟩),J,n];simp;omega
 rw[if_neg ht]at n;rw[Oo adr (-1) _ _ B (λq=>?_),J,n]
 .simp
 rw[Lh K (λV hV=>b V (c V (yg.1 hV).1)) (b T i)]at q;exact ht (yg.1 q).2
end
def Ey(adr:F->Addr)(U:List F)(cb nb wb:Nat):(l:List Ap)->World->CT l->Prop
 |[],w,a=>CS w cb nb wb a.1 a.2
 |(.inl d,fs)::r,w,a=>Mt adr U d fs w/\Ag w d.tb (uv (a.1.map (Ab adr)))/\Ey adr U cb nb wb r w a.2
 |(.inr d,fs)::r,w,a=>Mq adr U d fs w/\Ag w d.tb (uv (a.1.map (Ab adr)))/\Ag w d.bb (iv a.2.1)/\Ey adr U cb nb wb r w a.2.2
def IL(adr s U cb nb wb):∀(l:List Ap)(w:World)(a:CT l),(C_ adr s U cb nb wb l).I w a↔Ey adr U cb nb wb l w a
 |[],_,_=>Iff.rfl
 |(.inl _,_)::r,w,a=>and_congr_right λ_=>and_congr_right λ_=>IL adr s U cb nb wb r w a.2
 |(.inr _,_)::r,w,a=>and_congr_right λ_=>and_congr_right λ_=>and_congr_right λ_=>IL adr s U cb nb wb r w a.2.2
def E4(nb wb:Nat):List Ap->Nat->Prop
 |[],g=>g=nb∨g=wb
 |(.inl d,_)::r,g=>g=d.tb∨E4 nb wb r g
 |(.inr d,_)::r,g=>g=d.tb∨g=d.bb∨E4 nb wb r g
def GY(adr s U cb nb wb):∀(l:List Ap)(g:Nat),(C_ adr s U cb nb wb l).S g↔E4 nb wb l g
 |[],_=>Iff.rfl
 |(.inl _,_)::r,g=>or_congr_right (GY adr s U cb nb wb r g)
 |(.inr _,_)::r,g=>or_congr_right (or_congr_right (GY adr s U cb nb wb r g))
def Hm:List Ap->Nat
 |[]=>155
 |(.inl _,_)::_=>325
 |(.inr _,_)::_=>320
def NH(cb:Nat):List Ap->Nat
 |[]=>cb
 |(.inl d,_)::_=>d.nb
 |(.inr d,_)::_=>d.nb
def On(adr s U cb nb wb):∀(l:List Ap),(C_ adr s U cb nb wb l).fn=Hm l/\(C_ adr s U cb nb wb l).r=NH cb l
 |[]=>⟨rfl,rfl⟩
 |(.inl _,_)::_=>⟨rfl,rfl⟩
 |(.inr _,_)::_=>⟨rfl,rfl⟩
def ID(cb nb wb:Nat):List Ap->Prop
 |[]=>True
 |(.inl d,fs)::r=>Ht d.hv (Hm r) (NH cb r)/\d.ts.length<=1048576/\fs.length<=1000/\d.at_<3/\¬E4 nb wb r d.tb/\ID cb nb wb r
 |(.inr d,fs)::r=>Ht d.hv (Hm r) (NH cb r)/\d.ts.length<=1048576/\fs.length<=1000/\d.tb≠d.bb/\¬E4 nb wb r d.tb/\¬E4 nb wb r d.bb/\ID cb nb wb r
def ID.ok{adr s U cb nb wb}:∀{l:List Ap},ID cb nb wb l->(∀n∈l,∀f∈n.2,f∈U)->LK adr s U cb nb wb l
 |[],_,_=>trivial
 |(.inl d,fs)::r,⟨h1,h2,h3,h4,h5,h6⟩,hu=>by
  obtain⟨b,a⟩:=On adr s U cb nb wb r
  exact⟨by rw[b,a];exact h1,h2,h3,hu (.inl d,fs) qe,h4,λq=>h5 ((GY adr s U cb nb wb r _).1 q),h6.ok (λn c=>hu n (by simp[c]))⟩
 |(.inr d,fs)::r,⟨h1,h2,h3,h4,h5,h6,h7⟩,hu=>by
  obtain⟨b,a⟩:=On adr s U cb nb wb r
  exact⟨by rw[b,a];exact h1,h2,h3,h4,λq=>h5 ((GY adr s U cb nb wb r _).1 q),λq=>h6 ((GY adr s U cb nb wb r _).1 q),h7.ok (λn c=>hu n (by simp[c]))⟩
def Rp{adr U cb nb wb w}:∀{l:List Ap}{a:CT l},Ey adr U cb nb wb l w a->∀g,E4 nb wb l g->g<w.heap.size
 |[],_,h,g,b=>by
  rcases b with rfl|rfl
  .exact h.now.lt
  .exact h.news.lt
 |(.inl d,_)::_,_,h,g,b=>by
  rcases b with rfl|b
  .exact h.2.1.lt
  .exact Rp h.2.2 g b
 |(.inr d,_)::_,_,h,g,b=>by
  rcases b with rfl|rfl|b
  .exact h.2.1.lt
  .exact h.2.2.1.lt
  exact Rp h.2.2.2 g b
def FN(U:List F):List Ap->List (List F)->List F->Prop
 |[],_,T=>T.length<=3/\∀f∈T,f∈U
 |(.inl d,_)::r,g::G,T=>(T.length=d.at_/\T.length<3)/\(∀f∈T,f∈U)/\(∀f∈g,f∈U/\∀t∈d.ts,t.fits T f)/\∀f∈g,d.ts.all (Aq T f)=true->FN U r G (T++[f])
 |(.inr d,_)::r,g::G,T=>T.length<=3/\(∀f∈T,f∈U)/\(∀f∈g,f∈U/\∀t∈d.ts,t.fits T f)/\FN U r G T
 |_::_,[],_=>False
def CF:List (List F)->List (List F)->Prop
 |[],[]=>True
 |g::G,u::V=>(∀f∈g,f∈u)/\g.Nodup/\CF G V
 |_,_=>False
def FN.df{U}:∀{l:List Ap}{V:List (List F)}{T:List F},FN U l V T->CF (l.map Prod.snd) V->Em U l V T
 |[],_,_,h,_=>h
 |(.inl _,_)::_,_::_,_,⟨h1,h2,h3,h4⟩,⟨s1,s2,s3⟩=>⟨h1,h2,s1,s2,h3,λf a b=>(h4 f a b).df s3⟩
 |(.inr _,_)::_,_::_,_,⟨h1,h2,h3,h4⟩,⟨s1,_,s3⟩=>⟨h1,h2,s1,λf a=>(h3 f a).2,h4.df s3⟩
 |(.inl _,_)::_,[],_,h,_=>h.elim
 |(.inr _,_)::_,[],_,h,_=>h.elim
def FN.len{U}:∀{l:List Ap}{V:List (List F)}{T:List F},FN U l V T->T.length<=3/\∀f∈T,f∈U
 |[],_,_,h=>h
 |(.inl _,_)::_,_::_,_,h=>⟨K9 h.1.2,h.2.1⟩
 |(.inr _,_)::_,_::_,_,h=>⟨h.1,h.2.1⟩
 |(.inl _,_)::_,[],_,h=>h.elim
 |(.inr _,_)::_,[],_,h=>h.elim
def FN.next{U n r u V g TT}(h:∀T∈TT,FN U (n::r) (u::V) T)(c:∀f∈g,f∈u):∀T∈A4 (n.1,g) TT,FN U r V T:=by
 intro T b;rcases n with⟨d|d,fs⟩
 .obtain⟨O,Y,i⟩:=Yk.1 b;obtain⟨f,a,rfl⟩:=yz.1 i;obtain⟨a,e⟩:=yg.1 a;exact(h O Y).2.2.2 f (c f a) e
 exact(h T (yg.1 b).1).2.2.2
def kg{n:Ap}{g TT}(i:g.Nodup)(c:TT.Nodup):(A4 (n.1,g) TT).Nodup:=by
 rcases n with⟨d|d,fs⟩
 .refine V9 c (λT k=>?_) (λT _ j _ hne z hz O=>?_)
  .exact KA _ (λa b Y e=>Y (PY e).2) (i.filter _)
  exact n8
 exact c.filter _
def GH:Ap->Bool × Nat
 |(.inl d,_)=>(false,d.nb)
 |(.inr d,_)=>(true,d.nb)
def QP:Ap->Nat
 |(.inl d,_)=>d.bN
 |(.inr d,_)=>d.bN
def EC.ck{u w a xs}(h:EC none u a xs)(g:CK u w):EC none w a xs:=λi x d=>by
 obtain⟨b,o,r,f,_,c,k,e⟩:=h i x d;exact⟨b,o,r,f,Qb.bare _ _ _,c,λj v hj=>g.cell (k j v hj),e⟩
def CO.ck{u w nb x a c}(h:CO u nb x a c)(b:CK u w):CO w nb x a c:=by
 refine⟨b.cell h.c0,b.cell h.c1,b.cell h.c2,?_⟩;exact h.tt.ck b
def FX(s:Int)(p:Bool)(f:F)(g fs:List F):Prop:=if p=true then(if s=1 then fs.Perm (f::g) else g.Perm (f::fs)) else fs=g
def VJ{α:Type}{q:α->Bool}(l:List α):l.filter (λx=>false&&q x)=[]:=qe
def Vy{α:Type}{q}(l:List α):l.filter (λx=>true&&q x)=l.filter q:=qe
section
variable {adr : F -> Addr} {U : List F} {old : List Kt} {cb nb wb : Nat}
def Q4(adr:F->Addr)(U:List F)(old:List Kt)(cb nb wb:Nat)(l:List Ap)(G TT:List (List F))(w:World)(e:Ending)(w':World):Prop:=
 e=.returned (.tuple #[])/\(∃a':CT l,Ey adr U cb nb wb l w' a'/\Gf adr old l G TT a')/\CK w w'/\Av (E4 nb wb l) w w'
def m_(h:P:=by show∀T∈TT,Ar (Ab adr T) a.2.1=(nBar d.ts fs T:Int);rw[e2];exact af):=h
def mu(h:P:=by show Gf adr old r (r.map Prod.snd) (A4 (.inr d,fs) TT) a';rw[Hy,<-e,e2];exact Y):=h
def uw(C:Bm adr U)(s)(hs:s=1∨s = -1)(f)(am:f∈U)(x aa ac)(K:x.ah.length<=1048576)(n r g u V TT a w)(hI:Ey adr U cb nb wb (n::r) w a)(hL:Gf adr old (n::r) (g::r.map Prod.snd) TT a)(hW:ID cb nb wb (n::r))(hu:∀m∈n::r,∀f∈m.2,f∈U)(W:∀T∈TT,FN U (n::r) (u::V) T)(aw:CF ((n::r).map Prod.snd) (u::V))(aq:(∀f∈g,f∈u)/\g.Nodup/\g.length<=900)(D:TT.Nodup)(ax:Ae x f=true->f∈u)(b:FX s (Ae x f) f g n.2)(hN:CO w (QP n) x aa ac) :
  Ca (Jo (GH n).1) #[Pn ((GH n).2),.pointer (some (adr f)),I6 s] w (Q4 adr U old cb nb wb (n::r) (n.2::r.map Prod.snd) TT w):=by
 have B:∀T∈TT,Em U (n::r) (u::V) T:=λT k=>(W T k).df aw;have ao:∀T∈TT,Em U ((n.1,g)::r) (u::V) T:=λT k=>by
  have h:=B T k;rcases n with⟨d|d,fs⟩
  .obtain⟨h1,h2,_,_,h5,h6⟩:=h;exact⟨h1,h2,aq.1,aq.2.1,h5,h6⟩
  obtain⟨h1,h2,_,h4,h5⟩:=h;exact⟨h1,h2,aq.1,h4,h5⟩
 have G:∀(s':Int)(y:Nat),(C_ adr s' U cb nb wb r).S y->y<w.heap.size:=λs' y q=>by
  refine Rp hI y ?_;rcases n with⟨d|d,fs⟩
  .exact .inr ((GY adr s' U cb nb wb r y).1 q)
  exact .inr (.inr ((GY adr s' U cb nb wb r y).1 q))
 rcases n with⟨d|d,fs⟩
 .obtain⟨c,hM,ar⟩:=hI;obtain⟨v,Y⟩:=hL;have Y:Gf adr old r (r.map Prod.snd) (A4 (.inl d,g) TT) a.2:=Y;rw[Hy]at Y;obtain⟨k1,k2,k3,k4,k5,k6⟩:=hW;have hG:=Ot adr s hs U cb nb wb r (ID.ok k6 (λm M=>hu m (by simp[M])));obtain⟨e1,e2⟩:=On adr s U cb nb wb r;have E:∀T∈a.1,T∈TT:=λT k=>v.mem_iff.1 k;refine(ut (C_ adr s U cb nb wb r) adr s hG d.nb d.bN d.tb d.at_ d.ng d.up d.hv d.ta aa d.tc ac d.ts x a.1 f a.2 w c.q (by rw[e1,e2];exact k1) hN (c.us f am).1 (c.us f am).2 K c.jt k2 k4 (λT k=>?_) (λO T k=>((B T (E T k)).2.2.2.2.1 f (ax O)).2) hM ((IL adr s U cb nb wb r w a.2).2 ar) (λq=>k5 ((GY adr s U cb nb wb r _).1 q)) (G s) (λO=>?_)).ac λe w' q=>?_
  .have:=(B T (E T k)).len;exact⟨(B T (E T k)).1.1,Oy c.us this.2 this.1,Oq c.us this.2⟩
  .unfold FX at b;rw[if_pos O]at b;rcases hs with rfl|rfl
   .rw[if_pos rfl]at b;exact(fU (cb:=cb) (nb:=nb) (wb:=wb) C Y b B D v).1
   rw[if_neg qh]at b;exact(Z6 (cb:=cb) (nb:=nb) (wb:=wb) C Y b ao D v).1
  obtain⟨H,⟨L,a',N,p,J⟩,I,z,Z⟩:=q;refine⟨H,⟨(a.1,a'),⟨c.ck z,I,(IL adr s U cb nb wb r w' a').1 J⟩,v,?_⟩,z,Z.ac λy R=>.inr ((GY adr s U cb nb wb r y).1 R)⟩;show Gf adr old r (r.map Prod.snd) (A4 (.inl d,fs) TT) a';rw[Hy];unfold FX at b;by_cases O:Ae x f=true
  .rw[if_pos O]at b;rw[O]at p;rw[Vy]at p;rcases hs with rfl|rfl
   .rw[if_pos rfl]at b;exact(fU (cb:=cb) (nb:=nb) (wb:=wb) C Y b B D v).2 L a' N p
   rw[if_neg qh]at b;exact(Z6 (cb:=cb) (nb:=nb) (wb:=wb) C Y b ao D v).2 L a' N p
  rw[if_neg O]at b;rw[show Ae x f=false by simpa using O,VJ]at p;have e:a.2=a':=p;rw[<-e,show fs=g from b];exact Y
 obtain⟨c,hM,hB,ar⟩:=hI;obtain⟨v,af,Y⟩:=hL;have Y:Gf adr old r (r.map Prod.snd) (A4 (.inr d,g) TT) a.2.2:=Y;have af:∀T∈TT,Ar (Ab adr T) a.2.1=(nBar d.ts g T:Int):=af;rw[Hy]at Y;obtain⟨k1,k2,k3,k4,k5,k6,k7⟩:=hW;have au:∀m∈r,∀f∈m.2,f∈U:=λm M=>hu m (by simp[M]);have E:∀T∈a.1,T∈TT:=λT k=>v.mem_iff.1 k;have ab:∀T∈a.1,Ej w (.pointer (T[0]?.map adr)) (.pointer (T[1]?.map adr)) (.pointer (T[2]?.map adr)) T/\AK w (Ab adr T):=λT k=>by
  have:=(B T (E T k)).len;exact⟨Oy c.us this.2 this.1,Oq c.us this.2⟩
 have av:∀T:List F,nBar d.ts g T<=900:=λT=>yi (Yd _ _) aq.2.2;have ay:Ae x f=true->∀T∈a.1,∀t∈d.ts,t.fits T f:=λO T k=>((W T (E T k)).2.2.1 f (ax O)).2;unfold FX at b;rcases hs with rfl|rfl
 .have hG:=Ot adr (-1) (.inr rfl) U cb nb wb r (ID.ok k7 au);obtain⟨e1,e2⟩:=On adr (-1) U cb nb wb r;refine(zQ (C_ adr (-1) U cb nb wb r) adr hG d.nb d.bN d.tb d.bb d.ng d.ct d.up d.hv d.ta aa d.tc ac d.ts x a.1 f a.2.1 a.2.2 w c.q (by rw[e1,e2];exact k1) hN (c.us f am).1 K c.jt k2 ab ay hM hB k4 (λO T k _=>⟨_,af T (E T k),yi (av T) qh⟩) ((IL adr (-1) U cb nb wb r w a.2.2).2 ar) (λq=>k5 ((GY adr (-1) U cb nb wb r _).1 q)) (λq=>k6 ((GY adr (-1) U cb nb wb r _).1 q)) (G (-1)) (λO=>?_)).ac λe w' q=>?_
  .rw[if_pos O,if_pos rfl]at b;exact(ZV (cb:=cb) (nb:=nb) (wb:=wb) C Y af b ao D v).1
  obtain⟨H,⟨L,a',N,p,J,A⟩,I,z,Z⟩:=q;have ak:Av (E4 nb wb ((.inr d,fs)::r)) w w':=Z.ac λy R=>by
   rcases R with h|h
   .exact .inr (.inl h)
   exact .inr (.inr ((GY adr (-1) U cb nb wb r y).1 h))
  by_cases O:Ae x f=true
  .rw[if_pos O,if_pos rfl]at b;rw[O]at p A;rw[Vy]at p A;obtain⟨r1,r2⟩:=(ZV (cb:=cb) (nb:=nb) (wb:=wb) C Y af b ao D v).2 L a' N p;exact⟨H,⟨(a.1,_,a'),⟨c.ck z,I,A,(IL adr (-1) U cb nb wb r w' a').1 J⟩,v,r2,Hy.2 r1⟩,z,ak⟩
  rw[if_neg O]at b;rw[show Ae x f=false by simpa using O,VJ]at p A;have e:a.2.2=a':=p;have e2:fs=g:=b;refine⟨H,⟨(a.1,a.2.1,a'),⟨c.ck z,I,A,(IL adr (-1) U cb nb wb r w' a').1 J⟩,v,?_,?_⟩,z,ak⟩
  .exact m_
  exact mu
 have hG:=Ot adr 1 (.inl rfl) U cb nb wb r (ID.ok k7 au);obtain⟨e1,e2⟩:=On adr 1 U cb nb wb r;refine(zE (C_ adr 1 U cb nb wb r) adr hG d.nb d.bN d.tb d.bb d.ng d.ct d.up d.hv d.ta aa d.tc ac d.ts x a.1 f a.2.1 a.2.2 w c.q (by rw[e1,e2];exact k1) hN (c.us f am).1 K c.jt k2 ab ay hM hB k4 (λO T k az=>?_) ((IL adr 1 U cb nb wb r w a.2.2).2 ar) (λq=>k5 ((GY adr 1 U cb nb wb r _).1 q)) (λq=>k6 ((GY adr 1 U cb nb wb r _).1 q)) (G 1) (λO=>?_)).ac λe w' q=>?_
 .rw[if_pos O,if_neg qh]at b;have M:=OJ (ts:=d.ts) (show g.Perm (f::fs) from b) T;rw[if_pos az]at M;refine⟨nBar d.ts fs T,?_,?_⟩
  .rw[af T (E T k),M];simp
  have:=av T;omega
 .rw[if_pos O,if_neg qh]at b;exact(c_ (cb:=cb) (nb:=nb) (wb:=wb) C Y af b B D v).1
 obtain⟨H,⟨L,a',N,p,J,A⟩,I,z,Z⟩:=q;have ak:Av (E4 nb wb ((.inr d,fs)::r)) w w':=Z.ac λy R=>by
  rcases R with h|h
  .exact .inr (.inl h)
  exact .inr (.inr ((GY adr 1 U cb nb wb r y).1 h))
 by_cases O:Ae x f=true
 .rw[if_pos O,if_neg qh]at b;rw[O]at p A;rw[Vy]at p A;obtain⟨r1,r2⟩:=(c_ (cb:=cb) (nb:=nb) (wb:=wb) C Y af b B D v).2 L a' N p;exact⟨H,⟨(a.1,_,a'),⟨c.ck z,I,A,(IL adr 1 U cb nb wb r w' a').1 J⟩,v,r2,Hy.2 r1⟩,z,ak⟩
 rw[if_neg O]at b;rw[show Ae x f=false by simpa using O,VJ]at p A;have e:a.2.2=a':=p;have e2:fs=g:=b;refine⟨H,⟨(a.1,a.2.1,a'),⟨c.ck z,I,A,(IL adr 1 U cb nb wb r w' a').1 J⟩,v,?_,?_⟩,z,ak⟩
 .exact m_
 exact mu
def T9(A:Bm adr U)(s)(B:s=1∨s = -1)(f)(z:f∈U)(j p t)(i:j.ah.length<=1048576)(n:Ap)(r g u V w)(O:CF ((n::r).map Prod.snd) (u::V))(y:(∀f∈g,f∈u)/\g.Nodup/\g.length<=900)(D:Ae j f=true->f∈u)(G:FX s (Ae j f) f g n.2)(x:CO w (QP n) j p t):∀(b:List Ap)(Y k TT:List (List F))(a:CT (b++n::r)),Ey adr U cb nb wb (b++n::r) w a->Gf adr old (b++n::r) (Y++g::r.map Prod.snd) TT a->ID cb nb wb (b++n::r)->(∀m∈b++n::r,∀f∈m.2,f∈U)->(∀T∈TT,FN U (b++n::r) (k++u::V) T)->CF Y k->Y.length=b.length->TT.Nodup ->
  Ca (Jo (GH n).1) #[Pn ((GH n).2),.pointer (some (adr f)),I6 s] w (Q4 adr U old cb nb wb (b++n::r) (Y++n.2::r.map Prod.snd) TT w)
 |[],[],[],TT,a,hI,hL,hW,hu,hwf,_,_,hn=>uw A s B f z j p t i n r g u V TT a w hI hL hW hu hwf O y hn D G x
 |[],_::_,_,_,_,_,_,_,_,_,_,hl,_=>by simp at hl
 |[],[],_::_,_,_,_,_,_,_,_,hs1,_,_=>hs1.elim
 |_::_,[],_,_,_,_,_,_,_,_,_,hl,_=>by simp at hl
 |_::_,_::_,[],_,_,_,_,_,_,_,hs1,_,_=>hs1.elim
 |(.inl d,fs)::b,g0::Y,u0::k,TT,a,⟨i1,i2,i3⟩,⟨p1,p2⟩,⟨k1,k2,k3,k4,k5,k6⟩,hu,hwf,⟨b1,b2,b3⟩,hl,hn=>by
  refine(T9 A s B f z j p t i n r g u V w O y D G x b Y k (A4 (.inl d,g0) TT) a.2 i3 p2 k6 (λm o=>hu m (by simp at o⊢;exact .inr o)) (FN.next (n:=(.inl d,fs)) (r:=b++n::r) (u:=u0) hwf b1) b3 (by simpa using hl) (kg (n:=(.inl d,fs)) b2 hn)).ac λe w' q=>?_
  obtain⟨H,⟨E,v,C⟩,c,l⟩:=q
  exact⟨H,⟨(a.1,E),⟨i1.ck c,i2.aM l c k5,v⟩,p1,C⟩,c,l.ac λ_ h=>.inr h⟩
 |(.inr d,fs)::b,g0::Y,u0::k,TT,a,⟨i1,i2,i3,i4⟩,⟨p1,p2,p3⟩,⟨k1,k2,k3,k4,k5,k6,k7⟩,hu,hwf,⟨b1,b2,b3⟩,hl,hn=>by
  refine(T9 A s B f z j p t i n r g u V w O y D G x b Y k (A4 (.inr d,g0) TT) a.2.2 i4 p3 k7 (λm o=>hu m (by simp at o⊢;exact .inr o)) (FN.next (n:=(.inr d,fs)) (r:=b++n::r) (u:=u0) hwf b1) b3 Mh (kg (n:=(.inr d,fs)) b2 hn)).ac λe w' q=>?_
  obtain⟨H,⟨E,v,C⟩,c,l⟩:=q
  exact⟨H,⟨(a.1,a.2.1,E),⟨i1.ck c,i2.aM l c k5,i3.aM l c k6,v⟩,p1,p2,C⟩,c,l.ac λ_ h=>.inr (.inr h)⟩
end
def TG:Ap->Value
 |(.inl d,_)=>d.up
 |(.inr d,_)=>d.up
def Cz(l:List Ap):List (Bool × Nat):=(l.map GH).reverse
def Rx{adr U cb nb wb w}:∀{l:List Ap}{a:CT l}{j:Nat}{n:Ap},Ey adr U cb nb wb l w a->l[j]?=some n->At w ((GH n).2) 4 (TG n)
 |[],_,_,_,_,hn=>by simp at hn
 |(.inl d,fs)::r,a,0,n,h,hn=>by
  simp at hn
  subst hn
  exact AF (L:=[_,_,_,_,_,_,_]) h.1.q (j:=4) rfl
 |(.inr d,fs)::r,a,0,n,h,hn=>by
  simp at hn
  subst hn
  exact AF (L:=[_,_,_,_,_,_,_,_]) h.1.q (j:=4) rfl
 |(.inl d,fs)::r,a,j+1,n,h,hn=>Rx h.2.2 (by simpa using hn)
 |(.inr d,fs)::r,a,j+1,n,h,hn=>Rx h.2.2.2 (by simpa using hn)
def NM(l:List Ap):Prop:=∀(j:Nat)(n:Ap),l[j]?=some n->TG n=Cd (Cz l) (l.length-j)
def CF.len:∀{G V:List (List F)},CF G V->G.length=V.length
 |[],[],_=>rfl
 |_::_,_::_,h=>by rw[yH,yH,h.2.2.len]
 |[],_::_,h=>h.elim
 |_::_,[],h=>h.elim
def CF.cut:∀{a b V:List (List F)},CF (a++b) V->∃Y O,V=Y++O/\CF a Y/\CF b O
 |[],_,V,h=>⟨[],V,rfl,trivial,h⟩
 |_::_,_,[],h=>h.elim
 |_::a,_,u::V,⟨h1,h2,h3⟩=>by
  obtain⟨Y,O,rfl,d,c⟩:=CF.cut h3
  exact⟨u::Y,O,rfl,⟨h1,h2,d⟩,c⟩
def CF.cR{Y b O a}(h:CF (Y++b) (O++a))(hl:Y.length=O.length):CF Y O/\CF b a:=by
 obtain⟨g,f,e,c,d⟩:=CF.cut h;obtain⟨rfl,rfl⟩:=List.append_inj e (by rw[<-hl,c.len]);exact⟨c,d⟩
def LU(s:Int)(f:F)(w:World):List Ap->List (List F)->List (List F)->Prop
 |[],[],[]=>True
 |n::r,g::G,u::V=>(∃al aa ac,al.ah.length<=1048576/\CO w (QP n) al aa ac/\FX s (Ae al f) f g n.2/\(Ae al f=true->f∈u))/\(∀f∈g,f∈u)/\g.Nodup/\g.length<=900/\LU s f w r G V
 |_,_,_=>False
def LU.cut{s f w}:∀{b:List Ap}{n:Ap}{r:List Ap}{G V:List (List F)},LU s f w (b++n::r) G V->∃O g d Y u c,G=O++g::d/\V=Y++u::c/\O.length=b.length/\CF O Y/\(∃a e i,a.ah.length<=1048576/\CO w (QP n) a e i/\FX s (Ae a f) f g n.2/\(Ae a f=true->f∈u))/\(∀f∈g,f∈u)/\g.Nodup/\g.length<=900
 |[],n,r,g::G,u::V,⟨h1,h2,h3,h4,_⟩=>⟨[],g,G,[],u,V,rfl,rfl,rfl,trivial,h1,h2,h3,h4⟩
 |m::b,n,r,g::G,u::V,⟨_,h2,h3,_,h5⟩=>by
  obtain⟨O,o,d,Y,p,c,rfl,rfl,j,l,k⟩:=LU.cut h5
  exact⟨g::O,o,d,u::Y,p,c,rfl,rfl,by simp[j],⟨h2,h3,l⟩,k⟩
 |[],_,_,[],_,h=>h.elim
 |[],_,_,_::_,[],h=>h.elim
 |_::_,_,_,[],_,h=>h.elim
 |_::_,_,_,_::_,[],h=>h.elim
def LU.len{s f w}:∀{l:List Ap}{G V:List (List F)},LU s f w l G V->G.length=l.length
 |[],[],[],_=>rfl
 |_::_,_::_,_::_,h=>by rw[yH,yH,h.2.2.2.2.len]
 |[],_::_,_,h=>h.elim
 |[],[],_::_,h=>h.elim
 |_::_,[],_,h=>h.elim
 |_::_,_::_,[],h=>h.elim
def jO{l}(h:(l.map (λn=>(GH n).2)).Nodup):((Cz l).map Prod.snd).Nodup:=by
 unfold Cz;rw[List.map_reverse,Yp];exact List.pairwise_reverse.2 (List.Pairwise.imp (λq=>K7 q) h)
section
variable {adr : F -> Addr} {U : List F} {old : List Kt} {cb nb wb : Nat}
def pe(adr:F->Addr)(U:List F)(old:List Kt)(cb nb wb:Nat)(l:List Ap)(G TT:List (List F))(w:World)(k:Nat)(u:World):Prop:=
 CK w u/\Av (E4 nb wb l) w u/\∃a:CT l,Ey adr U cb nb wb l u a/\Gf adr old l (G.take (l.length-k)++(l.map Prod.snd).drop (l.length-k)) TT a
def uU(hA:Bm adr U)(s)(hs:s=1∨s = -1)(f)(aA:f∈U)(l G V TT a I w)(hI:Ey adr U cb nb wb l w a)(hL:Gf adr old l G TT a)(hW:ID cb nb wb l)(hu:∀m∈l,∀f∈m.2,f∈U)(C:∀T∈TT,FN U l V T)(hn:TT.Nodup)(M:CF (l.map Prod.snd) V)(hT:LU s f w l G V)(ay:NM l)(aD:(l.map (λn=>(GH n).2)).Nodup)(aC:At w I 0 (Cd (Cz l) 0)) :
  Ca 305 #[Pn I,.pointer (some (adr f)),I6 s] w λe w'=>e=.returned (.tuple #[])/\CK w w'/\Av (E4 nb wb l) w w'/\∃y:CT l,Ey adr U cb nb wb l w' y/\Lv adr old l TT y:=by
 have W:=hT.len;have au:(Cz l).length=l.length:=by simp[Cz]
 refine(xF I (Cz l) (some (adr f)) s (pe adr U old cb nb wb l G TT w) (jO aD) w ⟨λ_ _ _ _ h=>h,Av.refl _ _,a,hI,?_⟩ aC ?_).ac λe w' q=>?_
 .rw[Nat.sub_zero,List.drop_of_length_le qe,yM,yu qd];exact hL
 .intro k nn u v hP;have aE:k<l.length:=by rw[<-au];exact(yf.1 v).1
  obtain⟨j,hj⟩:∃j,j=l.length-1-k:=⟨_,rfl⟩
  have E:j<l.length:=qd;obtain⟨n,Y⟩:=AJ E;have az:nn=GH n:=by
   unfold Cz at v;rw[WW (by simpa using aE),yx,yp,<-hj,Y]at v;simpa using v.ai
  subst az;have hcut:l=l.take j++n::l.drop (j+1):=by
   have i:=Yz j l;rw[WE E]at i;have o:l[j]=n:=by simpa[E] using Y
   rw[o]at i;exact i.ai
  have A:(l.take j).length=j:=by simp;omega
  obtain⟨c,O⟩:∃x,x=l.take j:=⟨_,rfl⟩
  obtain⟨r,Z⟩:∃x,x=l.drop (j+1):=⟨_,rfl⟩
  rw[<-O,<-Z]at hcut;rw[<-O]at A;clear O Z;have R:=ay j n Y;have aq:l.length-j=k+1:=qd;rw[aq]at R;subst hcut;obtain⟨d,g,K,V1,u0,V2,rfl,rfl,z,N,⟨al,aa,ac,t1,t2,t3,t4⟩,t5,t6,t7⟩:=hT.cut;obtain⟨L,aB,b,aF,J⟩:=hP;have av:c.length=(c.map Prod.snd).length:=qe;have ax:(c++n::r).length-k=c.length+1:=by rw[A];omega
  have aw:(c++n::r).length-(k+1)=c.length:=by rw[A];omega
  rw[ax]at J;have eG:(d++g::K).take (c.length+1)++((c++n::r).map Prod.snd).drop (c.length+1)=d++g::r.map Prod.snd:=by
   have i:(d++g::K).take (c.length+1)=d++[g]:=by
    rw[<-z,List.take_length_add_append];rfl
   have o:((c++n::r).map Prod.snd).drop (c.length+1)=r.map Prod.snd:=by
    rw[yJ,yn,av,List.drop_length_add_append];rfl
   rw[i,o];simp
  rw[eG]at J;have am:CF ((n::r).map Prod.snd) (u0::V2):=by
   rw[yJ]at M;exact(M.cR (by rw[yp,<-z,N.len])).2
  refine(T9 hA s hs f aA al aa ac t1 n r g u0 V2 u am ⟨t5,t6,t7⟩ t4 t3 (t2.ck L) c d V1 TT b aF J hW hu C N z hn).ac λe u' q=>?_;obtain⟨H,⟨b',p,D⟩,B,t⟩:=q;refine⟨H,⟨L.j B,aB.j t,b',p,?_⟩,?_⟩
  .rw[aw];have i:(d++g::K).take c.length=d:=by
    rw[<-z,List.take_left]
   have o:((c++n::r).map Prod.snd).drop c.length=n.2::r.map Prod.snd:=by
    rw[yJ,yn,av,List.drop_left]
   rw[i,o];exact D
  rw[Rx p Y,R]
 obtain⟨H,p,D,y,B,t⟩:=q;refine⟨H,p,D,y,B,?_⟩;rw[au,W7,Y7,Yj,WQ]at t;exact Hy.1 t
end
section
attribute [local go_sem ↓] wp_at_zero wp_at_succ
structure CG(w:World) (a:Addr) (f:F):Prop where
 at_:Ee w (.pointer (some a)) f
 pt:Bc w (some a)
 sl:∀sa n sc,w.cell? ⟨a.block,a.off+2,none⟩=some (.slice sa n sc)->∀vb vo,sa=some ⟨vb,vo,none⟩->f.ad≠[]->∃c fr,w.heap[vb]?=some (.cells c 187 fr)
def CG.keep{w w' a f}(h:CG w a f)(r:∀(g:Nat)c t k,w.heap[g]?=some (.cells c t k)->(t=145∨t=187)->w'.heap[g]?=some (.cells c t k)):CG w' a f:=by
 obtain⟨⟨b,o,e,J,K,sa,u,y,C⟩,G,x⟩:=h;injection e with e;injection e with e;subst e;obtain⟨c,s⟩:=G _ rfl;have A:w'.heap[b]?=w.heap[b]?:=(r b _ _ _ s (.inl rfl)).j s.ai;have key:∀i,w'.cell? ⟨b,i,none⟩=w.cell? ⟨b,i,none⟩:=λi=>y8 (w:=w) A;refine⟨⟨b,o,rfl,(key _).j J,(key _).j K,sa,u,(key _).j y,λi v hv=>?_⟩,λL Y=>?_,λE n H z d l e p=>?_⟩
 .obtain⟨d,l,e,I,v1,v2⟩:=C i v hv;obtain⟨B,k,O⟩:=x sa _ u y d l e (λq=>by rw[q]at hv;simp at hv);have D:w'.heap[d]?=w.heap[d]?:=(r d _ _ _ O (.inr rfl)).j O.ai;have m:∀i,w'.cell? ⟨d,i,none⟩=w.cell? ⟨d,i,none⟩:=λi=>y8 (w:=w) D;exact⟨d,l,e,(m _).j I,(m _).j v1,(m _).j v2⟩
 .injection Y with Y;subst Y;exact⟨c,A.j s⟩
 rw[key]at z;obtain⟨B,k,O⟩:=x E n H z d l e p;exact⟨B,k,r d _ _ _ O (.inr rfl)⟩
def CG.ck{w w' a f}(h:CG w a f)(e:CK w w'):CG w' a f:=h.keep λg c t d b _=>e g c t d b
def CG.J{w w' a f}(h:CG w a f)(b:Bw w w'):CG w' a f:=h.ck (CK.ab b)
def CG.ft{base w w' a f}(h:CG w a f)(e:DF base w w'):CG w' a f:=h.keep λg c t d b ht=>e.kept g c t d b qs qs
def Hd(adr:F->Addr)(U:List F)(w:World):Prop:=∀f∈U,CG w (adr f) f
def Hd.facts{adr U w}(h:Hd adr U w):Bl adr U w:=λf a=>⟨(h f a).at_,(h f a).pt⟩
def Hd.ck{adr U w w'}(h:Hd adr U w)(b:CK w w'):Hd adr U w':=λf a=>(h f a).ck b
def Hd.ft{base adr U w w'}(h:Hd adr U w)(b:DF base w w'):Hd adr U w':=λf a=>(h f a).ft b
def Ag.ft{base w w' b L}(h:Ag w b L)(d:DF base w w'):Ag w' b L:=by
 obtain⟨es,a,j,f⟩:=h.at_;exact⟨⟨es,a,d.maps b _ j (λ_ _ _ e=>qp),f⟩,h.nd,λy k=>(h.ok y k).bj λg c i=>d.kept g c _ _ i qh qh⟩
def CS.ft{base w w' cb nb wb T M}(h:CS w cb nb wb T M)(a:DF base w w'):CS w' cb nb wb T M:=⟨a.kept _ _ _ _ h.q qh qh,h.now.ft a,h.news.ft a,h.ne⟩
def zU(base C mb W U L n V Q M f w E)(av:M=.pointer (some E))(hF:CG w E f)(R:NF w base C mb W U L n V (λ_=>Q))(hB:base<=w.heap.size)(hL:L.length<=1000)(hQ:Q.length<=1000)(h6:∀x∈L,x.1.ah.length<=1048576) :
  Ca 91 #[.pointer (some ⟨C,0,none⟩),M] w λe w'=>e=.returned (.tuple #[])/\(∃V',NF w' base C mb W U L n V' (λ_=>Q++[(M,f)]))/\DF base w w':=by
 subst av;obtain⟨a,c,rfl⟩:∃a c,E=⟨a,c,none⟩:=by
  obtain⟨a,c,h,_⟩:=hF.at_;injection h with h;injection h with h;exact⟨a,c,h⟩
 obtain⟨HF,HN,H6,aw⟩:=BE hF R h6 (sT hF.at_);obtain⟨⟨g0,g1⟩,_,aA⟩:=R.box.facts;clear hF R h6;go_enter func91,ntmps91;go_wp2_with fail;clear g0 g1
 go_loopw [11] (λiv wr=>∃(k:Nat)(V':List Value),iv=.int .i64 (k:Int)/\k<=L.length/\NF wr base C mb W U L n V' (λi=>if i<k then Q++[(.pointer (some ⟨a,c,none⟩),f)] else Q)/\DF base w wr) (mz L.length)
 case atStart=>exact⟨0,V,rfl,yA _,HN.o.same (λi x _=>qe),DF.refl _ _⟩
 case round=>
  obtain⟨k,V',rfl,ay,Z,T⟩:=hrel;obtain⟨NR,FR⟩:=Ak Z T;have aB:=T.rest.size;clear Z T HN;by_cases I:k<L.length
  .obtain⟨x,z⟩:=AJ I;obtain⟨nb,Y⟩:∃b,n[k]?=some b:=⟨n[k]'(by rw[NR.o.bk];exact I),qe⟩
   obtain⟨v,hv⟩:∃v,V'[k]?=some v:=⟨V'[k]'(by rw[NR.o.ba];exact I),qe⟩
   obtain⟨rb,rfl,_,r0,_⟩:=CC NR.o.row (show(Fz n)[k]?=some (.pointer (some ⟨nb,0,none⟩)) by simp[Fz,Y]);obtain⟨d,n2,⟨fa,fc,rfl⟩,r⟩:=NR.o.node k x nb v z Y hv;simp only[KH,if_false]at hv d r;obtain⟨na,nc,ak⟩:=d.nd (NR.o.aX x (yd z));have l:=Aa (Qk nb x.1 na nc (.pointer (some ⟨a,c,none⟩)) f wr ak (HF.o.ft FR.o).at_ (H6.o x (yd z)));have aa:(CD x.1 Q).length<=1000:=yi (Yd _ _) hQ;have z0:(0:Int)<=(k:Int):=qd;have z1:(k:Int)<(L.length:Int):=qd;obtain⟨N,ai,ao⟩:=AQ z Y hv;clear z Y hv d r ak;cases q:Ae x.1 f
   .have K:=Aa q;rw[q]at l;clear q;go_wp2_with fail;refine l.o.an λm O=>?_;obtain⟨D,H⟩:=Ak (NR.o.ar O) (FR.o.j (DF.ab O qd));clear O l r0;go_wp2_with fail;go_roundw
    case rel=>
     refine⟨k+1,V',ql,qd,D.o.same (λi y hy=>?_),H.o⟩;by_cases h1:i<k
     .simp[h1,show i<k+1 by omega]
     .by_cases h2:i=k
      .subst h2;rw[N.o]at hy;cases hy;simp[zm3 K.o]
      .simp[h1,show¬i<k+1 by omega]
    case measure=>(simp;omega)
   have K:=Aa q;rw[q]at l;clear q;go_wp2_with fail;refine l.o.an λm O=>?_;obtain⟨D,H⟩:=Ak (NR.o.ar O) (FR.o.j (DF.ab O qd));have az:=O.size;clear O l r0;obtain⟨d,_,_,r⟩:=D.o.node k x nb _ N.o ai.o ao.o;simp only[KH,if_false]at r;obtain⟨N1,N4⟩:=Ak d r;obtain⟨⟨_,_,_,y4⟩,_,ar⟩:=d.facts;have s:=Aa (λo=>Aj.alloc AA o:∀o,Bw m (m.alloc o));have ax:∀o,(m.alloc o).cell? ⟨nb,4,none⟩=some (.slice fa (CD x.1 Q).length fc):=λo=>zab (s.o o) y4;obtain⟨au,TY⟩:=Ak (λo=>(show E8 (m.alloc o) nb x k (.slice fa (CD x.1 Q).length fc) from((s.o o).block nb ar).j N1.o)) (λo g hg=>A8 (Bg N4.o (s.o o)) (k:=g) hg);have am:base<=m.heap.size:=qd;clear d r;go_upto_region 5 with(first|(at_builtin;refine EU qi (.tmp 22) (.tmp 24) 199 qi base 106 _ 1 8 underlying199 rQ qi qd _ (CD x.1 Q).length _ qi (Bg N4.o (s.o _)) (some ⟨_,0,none⟩) 1 1 qi [.pointer (some ⟨a,c,none⟩)] qi (λe=>qp) (Et _ _ _ _ qH) (by intro u hu;rw[yv]at hu;rw[hu];exact aw.o) qm qd (yi am (s.o _).size) ?_;intro a7 c7 w7 J B G;have N7:=Aa (show E8 w7 nb x k (.slice fa (CD x.1 Q).length fc) from Gq (au.o _) B.o (TY.o _) qh);obtain⟨_,z4,_⟩:=N7.o.facts)|fail);refine ks N7.o ?_;intro w8 t A;have hR:=NF.push (QQ:=λi=>if i<k then Q++[(.pointer (some ⟨a,c,none⟩),f)] else Q) (p:=.pointer (some ⟨a,c,none⟩)) (f:=f) (fa:=a7) (fc:=c7) D.o N.o ai.o ao.o K.o am (by simpa using J.o) B.o (by simpa using G.o) (by simpa using t) A;have HR:=Aa hR;clear hR t A;go_wp2_with fail;go_roundw
   case rel=>
    refine⟨k+1,_,ql,qd,HR.o.1.same (λi y hy=>?_),H.o.j HR.o.2⟩;exact oB
   case measure=>(simp;omega)
  have aq:k=L.length:=qd;subst aq;exact oj
end
structure CE where
 nb:Nat
 tb:Nat
 bb:Nat
abbrev Vw:=Nat->Option Addr × Nat × List F
def DX(c:Cx)(x:CE):Value:=GV (c.cp.neg,x.nb)
def hvM (c:Cx) (x:CE):Value:=.func (.method "loop.example/s01311/impl.take") #[DX c x] #[]
def DM(cb:Nat):Value:=.func (.func 155) #[.pointer (some ⟨cb,0,none⟩)] #[]
def pQ(vw:Vw)(c:Cx)(x:CE)(up hv:Value):LJ:=⟨x.nb,c.node,x.tb,.bool false,up,hv,c.cp.at_,c.ta,c.tc,(vw c.node).1,(vw c.node).2.1,c.cp.ah⟩
def QR(vw:Vw)(c:Cx)(x:CE)(up hv:Value):LI:=⟨x.nb,c.node,x.tb,x.bb,.bool true,.int .i64 (c.cp.at_:Int),up,hv,c.ta,c.tc,(vw c.node).1,(vw c.node).2.1,c.cp.ah⟩
def Mj(vw:Vw)(c:Cx)(x:CE)(up hv:Value):Ap:=(match c.cp.neg with|true=>.inr (QR vw c x up hv)|false=>.inl (pQ vw c x up hv),(vw c.node).2.2)
def Ih{vw c x up hv}(h:c.cp.neg=false):Mj vw c x up hv=(.inl (pQ vw c x up hv),(vw c.node).2.2):=by
 unfold Mj;rw[h]
def Ic{vw c x up hv}(h:c.cp.neg=true):Mj vw c x up hv=(.inr (QR vw c x up hv),(vw c.node).2.2):=by
 unfold Mj;rw[h]
def K_(hl:Value):List Cx->List CE->Value
 |c::_,x::_=>hvM c x
 |_,_=>hl
def Au(vw:Vw)(hl:Value):Value->List Cx->List CE->List Ap
 |up,c::cs,x::xs=>Mj vw c x up (K_ hl cs xs)::Au vw hl (DX c x) cs xs
 |_,_,_=>[]
def UM{vw hl}:∀{up:Value}{cs:List Cx}{xs:List CE},xs.length=cs.length->(Au vw hl up cs xs).length=cs.length
 |_,[],[],_=>rfl
 |_,_::_,_::_,h=>by
  rw[Au,yH,yH,UM (by simpa using h)]
 |_,[],_::_,h=>by simp at h
 |_,_::_,[],h=>by simp at h
def MI{vw hl}:∀{up:Value}{cs:List Cx}{xs:List CE},xs.length=cs.length->(Au vw hl up cs xs).map Prod.snd=cs.map (λc=>(vw c.node).2.2)
 |_,[],[],_=>rfl
 |_,_::_,_::_,h=>by
  rw[Au,yn,yn,MI (by simpa using h)]
  rfl
 |_,[],_::_,h=>by simp at h
 |_,_::_,[],h=>by simp at h
def XH(h:P:=by
 cases h:c.cp.neg
 .rw[Ih h];rfl
 rw[Ic h];rfl
 ):=h
def Oi(vw c x up hv):GH (Mj vw c x up hv)=(c.cp.neg,x.nb):=by
 exact XH
def ss(vw c x up hv):QP (Mj vw c x up hv)=c.node:=by
 exact XH
def ra(vw c x up hv):TG (Mj vw c x up hv)=up:=by
 exact XH
def Ro:List Ap->List Ap->Prop
 |[],[]=>True
 |(.inl d,_)::r,(.inl d',_)::r'=>d'.tb=d.tb/\d'.ts=d.ts/\Ro r r'
 |(.inr d,_)::r,(.inr d',_)::r'=>d'.tb=d.tb/\d'.bb=d.bb/\d'.ts=d.ts/\Ro r r'
 |_,_=>False
def jl{vw vw' hl}:∀{up:Value}{cs:List Cx}{xs:List CE},Ro (Au vw hl up cs xs) (Au vw' hl up cs xs)
 |_,[],[]=>trivial
 |_,c::cs,x::xs=>by
  have O:=jl (vw:=vw) (vw':=vw') (hl:=hl) (up:=DX c x) (cs:=cs) (xs:=xs)
  rw[Au,Au]
  cases h:c.cp.neg
  .rw[Ih h,Ih h]
   exact⟨rfl,rfl,O⟩
  .rw[Ic h,Ic h]
   exact⟨rfl,rfl,rfl,O⟩
 |_,[],_::_=>trivial
 |_,_::_,[]=>trivial
def Pq(adr:F->Addr)(U:List F)(w:World):Ap->Prop
 |(.inl d,fs)=>Mt adr U d fs w
 |(.inr d,fs)=>Mq adr U d fs w
def OQ{adr adr' T}(h:∀f∈T,adr' f=adr f):Ab adr' T=Ab adr T:=by
 have key:∀i:Nat,T[i]?.map adr'=T[i]?.map adr:=λi=>by
  cases a:T[i]? with
  |none=>rfl
  |some f=>simp[h f (yd a)]
 simp only[Ab,key]
def ui{d a g}(h:a.ts=d.ts)(TT):A4 (.inl a,g) TT=A4 (.inl d,g) TT:=by
 simp only[A4,h]
def vQ{d a g}(h:a.ts=d.ts)(TT):A4 (.inr a,g) TT=A4 (.inr d,g) TT:=by
 simp only[A4,h]
def FY{adr adr' U t old cb nb wb w w'}(O:∀f∈U,adr' f=adr f){Sx:Nat->Prop}(Y:∀b L,Sx b->Ag w b L->Ag w' b L)(p:∀K M,CS w cb nb wb K M->CS w' cb nb wb K M):∀(l l':List Ap)(G V TT:List (List F))(a:CT l),(∀g,E4 nb wb l g->Sx g)->Ro l l'->Ey adr U cb nb wb l w a->Gf adr old l G TT a->(∀n∈l',Pq adr' t w' n)->(∀T∈TT,FN U l V T)->CF G V->G.length=l.length->∃e:CT l',Ey adr' t cb nb wb l' w' e/\Gf adr' old l' G TT e
 |[],[],_,_,TT,a,_,_,hI,hL,_,hw,_,_=>⟨a,p _ _ hI,by
  refine⟨hL.1.j (K4 ?_),hL.2⟩
  exact Yn λT c=>(OQ λf i=>O f ((hw T c).2 f i)).ai⟩
 |(.inl d,fs)::r,(.inl d',fs')::r',g::G,u::V,TT,a,hx,⟨e1,e2,e3⟩,⟨i1,i2,i3⟩,⟨l1,l2⟩,hm,hw,⟨s1,s2,s3⟩,hlen=>by
  obtain⟨e,s,m⟩:=FY O Y p r r' G V (A4 (.inl d,g) TT) a.2 (λy q=>hx y (.inr q)) e3 i3 l2 (λn k=>hm n (by simp[k])) (FN.next (n:=(.inl d,fs)) (u:=u) hw s1) s3 Nu
  refine⟨(a.1,e),⟨hm (.inl d',fs') qe,?_,s⟩,l1,?_⟩
  .have o:a.1.map (Ab adr')=a.1.map (Ab adr):=Yn λT c=>OQ λf i=>O f (((hw T (l1.mem_iff.1 c)).len).2 f i)
   rw[o,e1]
   exact Y _ _ (hx _ (.inl rfl)) i2
  .show Gf adr' old r' G (A4 (.inl d',g) TT) e
   rw[ui e2]
   exact m
 |(.inr d,fs)::r,(.inr d',fs')::r',g::G,u::V,TT,a,hx,⟨e1,e2,e3,e4⟩,⟨i1,i2,i3,i4⟩,⟨l1,l2,l3⟩,hm,hw,⟨s1,s2,s3⟩,hlen=>by
  obtain⟨e,s,m⟩:=FY O Y p r r' G V (A4 (.inr d,g) TT) a.2.2 (λy q=>hx y (.inr (.inr q))) e4 i4 l3 (λn k=>hm n (by simp[k])) (FN.next (n:=(.inr d,fs)) (u:=u) hw s1) s3 Nu
  refine⟨(a.1,a.2.1,e),⟨hm (.inr d',fs') qe,?_,?_,s⟩,l1,λT c=>?_,?_⟩
  .have o:a.1.map (Ab adr')=a.1.map (Ab adr):=Yn λT c=>OQ λf i=>O f (((hw T (l1.mem_iff.1 c)).len).2 f i)
   rw[o,e1]
   exact Y _ _ (hx _ (.inl rfl)) i2
  .rw[e2]
   exact Y _ _ (hx _ (.inr (.inl rfl))) i3
  .rw[OQ (λf i=>O f (((hw T c).len).2 f i))]
   show Ar (Ab adr T) a.2.1=(nBar d'.ts g T:Int)
   rw[e3]
   exact l2 T c
  .show Gf adr' old r' G (A4 (.inr d',g) TT) e
   rw[vQ e3]
   exact m
 |[],_::_,_,_,_,_,_,h,_,_,_,_,_,_=>h.elim
 |(.inl _,_)::_,[],_,_,_,_,_,h,_,_,_,_,_,_=>h.elim
 |(.inr _,_)::_,[],_,_,_,_,_,h,_,_,_,_,_,_=>h.elim
 |(.inl _,_)::_,(.inr _,_)::_,_,_,_,_,_,h,_,_,_,_,_,_=>h.elim
 |(.inr _,_)::_,(.inl _,_)::_,_,_,_,_,_,h,_,_,_,_,_,_=>h.elim
 |(.inl _,_)::_,(.inl _,_)::_,[],[],_,_,_,_,_,_,_,_,_,hl=>by simp at hl
 |(.inr _,_)::_,(.inr _,_)::_,[],[],_,_,_,_,_,_,_,_,_,hl=>by simp at hl
 |(.inl _,_)::_,(.inl _,_)::_,[],_::_,_,_,_,_,_,_,_,_,hs,_=>hs.elim
 |(.inr _,_)::_,(.inr _,_)::_,[],_::_,_,_,_,_,_,_,_,_,hs,_=>hs.elim
 |(.inl _,_)::_,(.inl _,_)::_,_::_,[],_,_,_,_,_,_,_,_,hs,_=>hs.elim
 |(.inr _,_)::_,(.inr _,_)::_,_::_,[],_,_,_,_,_,_,_,_,hs,_=>hs.elim
def Cc(c:Cx):Bool:=c.cp.neg
def H_(c:Cx)(T:List F)(f:F):Bool:=c.cp.ah.all (Aq T f)
abbrev BB(g:Cx->List F)(X:List Cx)(T V:List F):Prop:=E6 Cc H_ g X T V
abbrev NU(g:Cx->List F)(f:F)(k:Nat)(X:List Cx)(T V:List F):Prop:=Sd Cc H_ g f k X T V
abbrev LL(f:F)(k:Nat)(X:List Cx)(T V:List F):Prop:=JK Cc H_ f k X T V
def gZ(Z:SN)(c:Cx):List F:=(Z.vw c.node).2.2
def L8{g:List F}{c T}:g.any (λf=>c.cp.ah.all (Aq T f))=false↔∀x∈g,H_ c T x=false:=by simp[Aq,H_]
def UH{Z k c cs T}(h:c.cp.neg=true):Dz Z k (c::cs) T=if FB Z k c T=true/\(Z.vw c.node).2.2.any (λf=>c.cp.ah.all (Aq T f))=false then Dz Z (k+1) cs T else []:=by
 rw[Dz,if_pos h]
def UB{Z k c cs T}(h:c.cp.neg=false):Dz Z k (c::cs) T=(Ef Z k c).flatMap (λf=>if c.cp.ah.all (Aq T f)=true then Dz Z (k+1) cs (T++[f]) else []):=by
 rw[Dz,if_neg Qy]
def UW(Z):∀(cs:List Cx)(k:Nat)(T V:List F),(∀i,i<cs.length->Z.sa≠((k+i:Nat):Int))->(V∈Dz Z k cs T↔∃W,V=T++W/\BB (gZ Z) cs T W)
 |[],k,T,V,_=>by
  simp only[Dz,yv,BB,E6]
  exact⟨λh=>⟨[],by simp[h],rfl⟩,λ⟨W,h,e⟩=>by rw[h,e,yM]⟩
 |c::cs,k,T,V,h=>by
  have l:¬Z.sa=(k:Int):=by simpa using h 0 qe
  have Y:=λT=>UW Z cs (k+1) T V (λi hi=>by
   have:=h (i+1) OX
   rwa [show k+(i+1)=k+1+i by omega]at this)
  cases d:c.cp.neg
  .rw[UB d]
   have e:Ef Z k c=gZ Z c:=by
    unfold Ef;rw[if_neg l];rfl
   rw[e,Yk];constructor
   .rintro⟨f,j,a⟩;split at a
    .rename_i g;obtain⟨W,rfl,b⟩:=(Y _).1 a;exact⟨f::W,qe,(Hc (show Cc c=false from d)).2 ⟨f,W,rfl,j,g,b⟩⟩
    simp at a
   rintro⟨W,rfl,b⟩;obtain⟨f,n,rfl,j,g,O⟩:=(Hc (show Cc c=false from d)).1 b;exact⟨f,j,by rw[if_pos (show c.cp.ah.all (Aq T f)=true from g)];exact(Y _).2 ⟨n,qe,O⟩⟩
  rw[UH d];have e:FB Z k c T=true:=by
   unfold FB;rw[if_neg l]
  rw[e];constructor
  .intro a;split at a
   .rename_i g;obtain⟨W,rfl,b⟩:=(Y _).1 a;exact⟨W,rfl,(G9 (show Cc c=true from d)).2 ⟨L8.1 g.2,b⟩⟩
   simp at a
  rintro⟨W,rfl,b⟩;obtain⟨m,O⟩:=(G9 (show Cc c=true from d)).1 b;rw[if_pos ⟨rfl,L8.2 m⟩];exact(Y _).2 ⟨W,rfl,O⟩
def iW(Z f)(m:Z.sf=some f):∀(cs:List Cx)(k i:Nat)(T V:List F),i<cs.length->Z.sa=((k+i:Nat):Int)->(V∈Dz Z k cs T↔∃W,V=T++W/\NU (gZ Z) f i cs T W)
 |[],_,_,_,_,h,_=>by simp at h
 |c::cs,k,0,T,V,_,h=>by
  have j:Z.sa=(k:Int):=qq
  have Y:=λT=>UW Z cs (k+1) T V (λi hi=>qd)
  cases g:c.cp.neg
  .rw[UB g]
   have e:Ef Z k c=[f]:=by
    unfold Ef;rw[if_pos j,m];rfl
   rw[e];simp only[yE,YO,yM];constructor
   .intro a;split at a
    .rename_i d;obtain⟨W,rfl,b⟩:=(Y _).1 a;exact⟨f::W,qe,(Pu (show Cc c=false from g)).2 ⟨W,rfl,d,b⟩⟩
    simp at a
   rintro⟨W,rfl,b⟩;obtain⟨o,rfl,d,O⟩:=(Pu (show Cc c=false from g)).1 b;rw[if_pos (show c.cp.ah.all (Aq T f)=true from d)];exact(Y _).2 ⟨o,qe,O⟩
  .rw[UH g];have e:FB Z k c T=c.cp.ah.all (Aq T f):=by
    unfold FB;rw[if_pos j,m]
   rw[e];constructor
   .intro a;split at a
    .rename_i d;obtain⟨W,rfl,b⟩:=(Y _).1 a;exact⟨W,rfl,(Po (show Cc c=true from g)).2 ⟨d.1,L8.1 d.2,b⟩⟩
    simp at a
   .rintro⟨W,rfl,b⟩;obtain⟨d,n,O⟩:=(Po (show Cc c=true from g)).1 b;rw[if_pos ⟨d,L8.2 n⟩];exact(Y _).2 ⟨W,rfl,O⟩
 |c::cs,k,i+1,T,V,hi,h=>by
  have j:¬Z.sa=(k:Int):=qd;have Y:=λT=>iW Z f m cs (k+1) i T V OX (by rw[h];omega);cases g:c.cp.neg
  .rw[UB g];have e:Ef Z k c=gZ Z c:=by
    unfold Ef;rw[if_neg j];rfl
   rw[e,Yk];constructor
   .rintro⟨x,l,a⟩;split at a
    .rename_i d;obtain⟨W,rfl,b⟩:=(Y _).1 a;exact⟨x::W,qe,(My (show Cc c=false from g)).2 ⟨x,W,rfl,l,d,b⟩⟩
    simp at a
   rintro⟨W,rfl,b⟩;obtain⟨x,o,rfl,l,d,O⟩:=(My (show Cc c=false from g)).1 b;exact⟨x,l,by rw[if_pos (show c.cp.ah.all (Aq T x)=true from d)];exact(Y _).2 ⟨o,qe,O⟩⟩
  rw[UH g];have e:FB Z k c T=true:=by
   unfold FB;rw[if_neg j]
  rw[e];constructor
  .intro a;split at a
   .rename_i d;obtain⟨W,rfl,b⟩:=(Y _).1 a;exact⟨W,rfl,(Mz (show Cc c=true from g)).2 ⟨L8.1 d.2,b⟩⟩
   simp at a
  rintro⟨W,rfl,b⟩;obtain⟨n,O⟩:=(Mz (show Cc c=true from g)).1 b;rw[if_pos ⟨rfl,L8.2 n⟩];exact(Y _).2 ⟨W,rfl,O⟩
def TX(Z):∀(cs:List Cx)(k:Nat)(T:List F),D_ (cs.map (BM Z.U)) T->(∀c∈cs,∀x∈gZ Z c,x∈Z.U/\Ae c.cp.aq x=true)->(∀(i:Nat)(c:Cx),cs[i]?=some c->Z.sa=((k+i:Nat):Int)->∃f,Z.sf=some f/\f∈Z.U/\Ae c.cp.aq f=true)->Jd Z k cs T
 |[],_,_,_,_,_=>trivial
 |c::cs,k,T,h,hg,hs=>by
  rw[yn]at h
  obtain⟨t,q,n,b⟩:=h
  have r:∀(i:Nat)(d:Cx),cs[i]?=some d->Z.sa=((k+1+i:Nat):Int)->∃f,Z.sf=some f/\f∈Z.U/\Ae d.cp.aq f=true:=λi d hd o=>hs (i+1) d qw (by rw[o];omega)
  have ih:=λT h=>TX Z cs (k+1) T h (λd hd=>hg d I1) r
  have O:∀x,x∈Z.U->Ae c.cp.aq x=true->x∈(BM Z.U c).facts:=λx p u=>yg.2 ⟨p,u⟩
  have Y:Z.sa=(k:Int)->∃f,Z.sf=some f/\f∈Z.U/\Ae c.cp.aq f=true:=λe=>hs 0 c rfl (by simpa using e)
  refine⟨t,q,λf a=>n f (O f (hg c qe f a).1 (hg c qe f a).2),λe=>?_,?_⟩
  .obtain⟨f,m,l,j⟩:=Y e
   exact⟨f,m,n f (O f l j)⟩
  by_cases g:c.cp.neg=true
  .rw[if_pos g]
   rw[if_pos (show(BM Z.U c).neg=true from g)]at b
   exact ih T b
  rw[if_neg g]
  rw[if_neg (show¬(BM Z.U c).neg=true from g)]at b
  intro f a s
  refine ih _ (b f ?_ s)
  unfold Ef at a
  split at a
  .rename_i e
   obtain⟨v,m,l,j⟩:=Y e
   rw[m]at a
   simp at a
   subst a
   exact O f l j
  exact O f (hg c qe f a).1 (hg c qe f a).2
def kL{t T f}(V)(h:t.fits T f):Aq (T++V) f t=Aq T f t:=by
 obtain⟨_,g,a,_⟩:=h;unfold Aq;rw[yB (yf.1 a).1]
def uQ{t:Jt}{T f}(V)(h:t.fits T f):t.fits (T++V) f:=by
 obtain⟨O,g,a,b⟩:=h;exact⟨O,g,by rw[yB (yf.1 a).1];exact a,b⟩
def iR{c T f}(V)(h:∀t∈c.cp.ah,t.fits T f):H_ c (T++V) f=H_ c T f:=by
 unfold H_;rw[KZ,YX,YX];exact⟨λq t a=>by rw[<-kL V (h t a)];exact q t a,λq t a=>by rw[kL V (h t a)];exact q t a⟩
def So{U g f}:∀{cs:List Cx}{k:Nat}{T V:List F}{c:Cx},cs[k]?=some c->D_ (cs.map (BM U)) T->(∀c∈cs,∀x∈g c,x∈U/\Ae c.cp.aq x=true)->f∈U->Ae c.cp.aq f=true->c.cp.neg=true->BB g cs T V->((LL f k cs T V↔H_ c (T++V) f=true)/\∀t∈c.cp.ah,t.fits (T++V) f)
 |[],_,_,_,_,h,_,_,_,_,_,_=>by simp at h
 |d::cs,0,T,V,c,h,hs,hg,hU,hp,hn,hV=>by
  simp at h
  subst h
  rw[yn]at hs
  obtain⟨_,_,o,_⟩:=hs
  have a:=o f (yg.2 ⟨hU,hp⟩)
  refine⟨⟨λb=>?_,λhl=>?_⟩,λt m=>uQ V (a t m)⟩
  .rw[iR V a]
   exact b.2
  .rw[iR V a]at hl
   exact⟨hn,hl⟩
 |d::cs,k+1,T,V,c,h,hs,hg,hU,hp,hn,hV=>by
  rw[yn]at hs
  obtain⟨_,_,_,i⟩:=hs
  have Y:∀c∈cs,∀x∈g c,x∈U/\Ae c.cp.aq x=true:=λe n=>hg e (by simp[n])
  cases hd:d.cp.neg
  .obtain⟨x,l,rfl,p,m,q⟩:=(Hc (show Cc d=false from hd)).1 hV
   rw[if_neg (show¬(BM U d).neg=true by show¬d.cp.neg=true;rw[hd];decide)]at i
   have r:=hg d qe x p
   have O:=So qq (i x (yg.2 r) m) Y hU hp hn q
   rw[show T++x::l=(T++[x])++l by simp]
   refine⟨?_,O.2⟩
   rw[<-O.1]
   constructor
   .intro b
    obtain⟨x',s,e,b⟩:=(Pz (show Cc d=false from hd)).1 b
    cases e
    exact b
   exactλb=>(Pz (show Cc d=false from hd)).2 ⟨x,l,rfl,b⟩
  rw[if_pos (show(BM U d).neg=true from hd)]at i
  have O:=So qq i Y hU hp hn ((G9 (show Cc d=true from hd)).1 hV).2
  exact⟨(RF (show Cc d=true from hd)).j O.1,O.2⟩
def LW{U g}:∀{cs:List Cx}{T V:List F},D_ (cs.map (BM U)) T->(∀c∈cs,∀x∈g c,x∈U/\Ae c.cp.aq x=true)->BB g cs T V->T.length<=3->(∀f∈T,f∈U)->(T++V).length<=3/\∀f∈T++V,f∈U
 |[],T,V,_,_,h,h3,hT=>by
  rw[show V=[] from h,yM]
  exact⟨h3,hT⟩
 |d::cs,T,V,hs,hg,hV,h3,hT=>by
  rw[yn]at hs
  obtain⟨_,l,_,b⟩:=hs
  have Y:∀c∈cs,∀x∈g c,x∈U/\Ae c.cp.aq x=true:=λe j=>hg e (by simp[j])
  cases hd:d.cp.neg
  .obtain⟨x,i,rfl,k,n,m⟩:=(Hc (show Cc d=false from hd)).1 hV
   rw[if_neg (show¬(BM U d).neg=true by show¬d.cp.neg=true;rw[hd];decide)]at b
   have O:=hg d qe x k
   rw[show T++x::i=(T++[x])++i by simp]
   refine LW (b x (yg.2 O) n) Y m ?_ (λf a=>?_)
   .have:=l hd
    simp
    omega
   rcases yr.1 a with a|a
   .exact hT f a
   rw[yv.1 a]
   exact O.1
  rw[if_pos (show(BM U d).neg=true from hd)]at b
  exact LW b Y ((G9 (show Cc d=true from hd)).1 hV).2 h3 hT
def Cu(nb wb:Nat):List Cx->List CE->List Nat
 |c::cs,x::xs=>(match c.cp.neg with|true=>[x.tb,x.bb]|false=>[x.tb])++Cu nb wb cs xs
 |_,_=>[nb,wb]
def He{vw hl nb wb g}:∀{up:Value}{cs:List Cx}{xs:List CE},E4 nb wb (Au vw hl up cs xs) g↔g∈Cu nb wb cs xs
 |_,[],[]=>by simp[Au,E4,Cu]
 |_,[],_::_=>by simp[Au,E4,Cu]
 |_,_::_,[]=>by simp[Au,E4,Cu]
 |_,c::cs,x::xs=>by
  have O:=He (vw:=vw) (hl:=hl) (nb:=nb) (wb:=wb) (g:=g) (up:=DX c x) (cs:=cs) (xs:=xs)
  rw[Au,Cu]
  cases h:c.cp.neg
  .rw[Ih h]
   simp only[E4,Ye,Yj,yO,O]
   rfl
  rw[Ic h]
  simp only[E4,Ye,Yj,yO,O]
  rfl
def tJ{vw cb}:∀{up:Value}{cs:List Cx}{xs:List CE},Ht (K_ (DM cb) cs xs) (Hm (Au vw (DM cb) up cs xs)) (NH cb (Au vw (DM cb) up cs xs))
 |_,[],[]=>.inr (.inr ⟨rfl,rfl⟩)
 |_,[],_::_=>.inr (.inr ⟨rfl,rfl⟩)
 |_,_::_,[]=>.inr (.inr ⟨rfl,rfl⟩)
 |_,c::cs,x::xs=>by
  rw[Au,K_]
  cases h:c.cp.neg
  .rw[Ih h]
   refine .inl ⟨?_,rfl⟩
   unfold hvM DX GV
   rw[h]
   rfl
  rw[Ic h]
  refine .inr (.inl ⟨?_,rfl⟩)
  unfold hvM DX GV
  rw[h]
  rfl
def Rl{vw cb nb wb}:∀{up:Value}{cs:List Cx}{xs:List CE},(Cu nb wb cs xs).Nodup->(∀c∈cs,c.cp.ah.length<=6/\(vw c.node).2.2.length<=900/\(c.cp.neg=false->c.cp.at_<3))->ID cb nb wb (Au vw (DM cb) up cs xs)
 |_,[],[],_,_=>trivial
 |_,[],_::_,_,_=>trivial
 |_,_::_,[],_,_=>trivial
 |_,c::cs,x::xs,hn,hc=>by
  obtain⟨b,e,f⟩:=hc c qe
  rw[Cu]at hn
  have O:=Rl (vw:=vw) (cb:=cb) (nb:=nb) (wb:=wb) (up:=DX c x) (cs:=cs) (xs:=xs) (yP.1 hn).2.1 (λd hd=>hc d I1)
  have a:=tJ (vw:=vw) (cb:=cb) (up:=DX c x) (cs:=cs) (xs:=xs)
  rw[Au]
  cases h:c.cp.neg
  .rw[h]at hn
   rw[Ih h]
   simp only[Ye,Yj,Yg]at hn
   exact⟨a,yi b qh,yi e qh,f h,λq=>hn.1 (He.1 q),O⟩
  rw[h]at hn
  rw[Ic h]
  simp only[Ye,Yj,Yg,yO,not_or]at hn
  exact⟨a,yi b qh,yi e qh,hn.1.1,λq=>hn.1.2 (He.1 q),λq=>hn.2.1 (He.1 q),O⟩
def TV{vw hl}:∀{up:Value}{cs:List Cx}{xs:List CE}{j:Nat}{n:Ap},(Au vw hl up cs xs)[j]?=some n->TG n=(if j=0 then up else((Au vw hl up cs xs)[j-1]?.map (λm=>GV (GH m))).getD .nilIface)
 |_,[],[],_,_,h=>by simp[Au]at h
 |_,[],_::_,_,_,h=>by simp[Au]at h
 |_,_::_,[],_,_,h=>by simp[Au]at h
 |up,c::cs,x::xs,0,n,h=>by
  rw[Au]at h
  simp at h
  rw[<-h,ra,if_pos rfl]
 |up,c::cs,x::xs,j+1,n,h=>by
  rw[Au]at h⊢
  have O:(Au vw hl (DX c x) cs xs)[j]?=some n:=qq
  cases j with
  |zero=>
   rw[TV O,if_pos rfl,if_neg qh]
   simp only[Yt,W7,yC,Wg,YY,Oi]
   rfl
  |succ j=>
   rw[TV O,if_neg qd,if_neg qd]
   simp
def gP{vw hl cs xs}:NM (Au vw hl .nilIface cs xs):=by
 intro j n a;rw[TV a];have O:=(yf.1 a).1;have hl:(Cz (Au vw hl .nilIface cs xs)).length=(Au vw hl .nilIface cs xs).length:=by simp[Cz]
 unfold Cd;cases j with
 |zero=>
  rw[if_pos rfl,Nat.sub_zero,Yr qd];rfl
 |succ j=>
  rw[if_neg qd,XD];unfold Cz;rw[WW qg,yx,yp,Option.map_map];rw[show(Au vw _ .nilIface cs xs).length-1-((Au vw _ .nilIface cs xs).length-(j+1))=j by omega];rfl
def iE{vw hl}:∀{up:Value}{cs:List Cx}{xs:List CE},xs.length=cs.length->(Au vw hl up cs xs).map (λn=>(GH n).2)=xs.map (·.nb)
 |_,[],[],_=>rfl
 |_,c::cs,x::xs,h=>by
  rw[Au,yn,yn,iE (by simpa using h),Oi]
 |_,[],_::_,h=>by simp at h
 |_,_::_,[],h=>by simp at h
def Pj{vw hl U}:∀{up:Value}{cs:List Cx}{xs:List CE}{T:List F},xs.length=cs.length->D_ (cs.map (BM U)) T->T.length<=3->(∀f∈T,f∈U)->FN U (Au vw hl up cs xs) (cs.map (λc=>U.filter (Ae c.cp.aq))) T
 |_,[],[],T,_,_,h3,hT=>⟨h3,hT⟩
 |_,c::cs,x::xs,T,hl',hs,h3,hT=>by
  rw[yn]at hs
  obtain⟨j,d,e,b⟩:=hs
  rw[Au,yn]
  cases h:c.cp.neg
  .rw[Ih h]
   rw[if_neg (show¬(BM U c).neg=true by show¬c.cp.neg=true;rw[h];decide)]at b
   refine⟨⟨j.ai,d h⟩,hT,λf O=>⟨(yg.1 O).1,e f O⟩,λf O i=>?_⟩
   refine Pj (by simpa using hl') (b f O i) ?_ (λg a=>?_)
   .have:=d h
    simp
    omega
   rcases yr.1 a with a|a
   .exact hT g a
   rw[yv.1 a]
   exact(yg.1 O).1
  .rw[Ic h]
   rw[if_pos (show(BM U c).neg=true from h)]at b
   exact⟨h3,hT,λf O=>⟨(yg.1 O).1,e f O⟩,Pj (by simpa using hl') b h3 hT⟩
 |_,[],_::_,_,h,_,_,_=>by simp at h
 |_,_::_,[],_,h,_,_,_=>by simp at h
def Fs(vw:Vw):List Cx->List (List F)->List (List (List F))
 |[],TT=>[TT]
 |c::cs,TT=>TT::Fs vw cs (if c.cp.neg=true then TT.filter (λT=>decide (nBar c.cp.ah (vw c.node).2.2 T=0)) else TT.flatMap (λT=>((vw c.node).2.2.filter (λf=>c.cp.ah.all (Aq T f))).map (λf=>T++[f])))
def Cv(vw:Vw)(c:Cx):Cn:=⟨c.cp.neg,c.cp.at_,c.node,c.cp.ah,c.cp.aq,(vw c.node).2.2⟩
def U9{α β:Type}(p)(h:α->List β):∀l:List α,l.flatMap (λx=>if p x=true then h x else [])=(l.filter p).flatMap h
 |[]=>rfl
 |x::r=>by
  rw[yE,U9 p h r]
  by_cases a:p x=true
  .rw[if_pos a,yL a,yE]
  rw[if_neg a,yN a]
  rfl
def j_{ts g T}:nBar ts g T=0↔g.any (λf=>ts.all (Aq T f))=false:=by simp[nBar,Aq]
def PK{vw c cs}(TT:List (List F)):(if c.cp.neg=true then TT.filter (λT=>decide (nBar c.cp.ah (vw c.node).2.2 T=0)) else TT.flatMap (λT=>((vw c.node).2.2.filter (λf=>c.cp.ah.all (Aq T f))).map (λf=>T++[f]))).flatMap (BV (cs.map (Cv vw)))=TT.flatMap (BV ((c::cs).map (Cv vw))):=by
 rw[yn];cases h:c.cp.neg
 .rw[if_neg qh,List.flatMap_assoc];congr 1
  funext T
  rw[Vt (show(Cv vw c).neg=false from h)];show _=(vw c.node).2.2.flatMap (λf=>if c.cp.ah.all (Aq T f)=true then BV (cs.map (Cv vw)) (T++[f]) else []);rw[U9 (λf=>c.cp.ah.all (Aq T f)) (λf=>BV (cs.map (Cv vw)) (T++[f])),KF]
 rw[if_pos rfl,<-U9];congr 1
 funext T
 rw[Vv (show(Cv vw c).neg=true from h)];show _=if(vw c.node).2.2.any (λf=>c.cp.ah.all (Aq T f))=true then [] else BV (cs.map (Cv vw)) T
 by_cases O:nBar c.cp.ah (vw c.node).2.2 T=0
 .rw[if_pos qA,if_neg (by rw[j_.1 O];decide)]
 rw[if_neg qA,if_pos (by
  cases a:(vw c.node).2.2.any (λf=>c.cp.ah.all (Aq T f))
  .exact absurd (j_.2 a) O
  rfl)]
def Lv.now{adr old vw hl}:∀{up:Value}{cs:List Cx}{xs:List CE}{TT:List (List F)}{a:CT (Au vw hl up cs xs)},xs.length=cs.length->Lv adr old (Au vw hl up cs xs) TT a->∃K M,(∀U cb nb wb w,Ey adr U cb nb wb (Au vw hl up cs xs) w a->CS w cb nb wb K M)/\K.Perm ((TT.flatMap (BV (cs.map (Cv vw)))).map (Ab adr))/\BU old K M
 |_,[],[],TT,a,_,h=>⟨a.1,a.2,λ_ _ _ _ _ b=>b,by
  have:TT.flatMap (BV (List.map (Cv vw) []))=TT:=by
   exact Td
  rw[this];exact h.1,h.2⟩
 |up,c::cs,x::xs,TT,a,hlen,h=>by
  revert a;rw[Au,<-PK];cases g:c.cp.neg
  .rw[Ih g,if_neg (by decide)];intro a h;obtain⟨K,M,f,e,d⟩:=Lv.now Nu h.2;exact⟨K,M,λU cb nb wb w b=>f U cb nb wb w b.2.2,e,d⟩
  .rw[Ic g,if_pos rfl];intro a h;obtain⟨K,M,f,e,d⟩:=Lv.now Nu h.2.2;exact⟨K,M,λU cb nb wb w b=>f U cb nb wb w b.2.2.2,e,d⟩
 |_,[],_::_,_,_,h,_=>by simp at h
 |_,_::_,[],_,_,h,_=>by simp at h
section
attribute [local go_sem ↓] wp_at_zero wp_at_succ
structure RD where
 X:List Cx
 xs:List CE
 rb:Nat
 cb:Nat
 nb:Nat
 wb:Nat
def RD.l(R:RD)(vw:Vw):List Ap:=Au vw (DM R.cb) .nilIface R.X R.xs
def RD.S(R:RD)(g:Nat):Prop:=g∈Cu R.nb R.wb R.X R.xs
structure JE(R:RD) (U:List F):Prop where
 len:R.xs.length=R.X.length
 maps:(Cu R.nb R.wb R.X R.xs).Nodup
 ids:(R.xs.map (·.nb)).Nodup
 small:∀c∈R.X,c.cp.ah.length<=6/\c.cp.aq.ah.length<=1048576/\(c.cp.neg=false->c.cp.at_<3)
 sr:D_ (R.X.map (BM U)) []
def EB(U:List F)(X:List Cx)(g:Cx->List F):Prop:=∀c∈X,(∀f∈g c,f∈U.filter (Ae c.cp.aq))/\(g c).Nodup/\(g c).length<=900
def gV(vw:Vw)(c:Cx):List F:=(vw c.node).2.2
def EB.sub{U g}:∀{X:List Cx},EB U X g->CF (X.map g) (X.map (λc=>U.filter (Ae c.cp.aq)))
 |[],_=>trivial
 |c::X,h=>⟨(h c (by simp)).1,(h c (by simp)).2.1,EB.sub (λd hd=>h d (by simp[hd]))⟩
def Iz(R:RD)(vw:Vw)(w:World):Prop:=w.heap[R.rb]?=some (.cells #[Cd (Cz (R.l vw)) 0,.pointer (some ⟨R.cb,0,none⟩)] 252 (0,0))
def EA(R:RD)(adr:F->Addr)(U:List F)(vw:Vw)(g:Cx->List F)(old:List Kt)(w:World):Prop:=(∃a:CT (R.l vw),Ey adr U R.cb R.nb R.wb (R.l vw) w a/\Gf adr old (R.l vw) (R.X.map g) [[]] a)/\Iz R vw w
def gz{vw vw' hl}:∀{up:Value}{cs:List Cx}{xs:List CE},(Au vw hl up cs xs).map GH=(Au vw' hl up cs xs).map GH
 |_,[],[]=>rfl
 |_,[],_::_=>rfl
 |_,_::_,[]=>rfl
 |_,c::cs,x::xs=>by
  rw[Au,Au,yn,yn,Oi,Oi,gz (vw:=vw) (vw':=vw')]
def Iz.same{R vw vw' w w'}(h:Iz R vw w)(a:w'.heap[R.rb]?=w.heap[R.rb]?):Iz R vw' w':=by
 unfold Iz at h⊢;rw[a,h];unfold Cz RD.l;rw[gz (vw:=vw) (vw':=vw')]
def iJ{vw hl U g s f w}:∀{up:Value}{cs:List Cx}{xs:List CE},xs.length=cs.length->EB U cs g->f∈U->(∀c∈cs,c.cp.aq.ah.length<=1048576/\(∃a n,CO w c.node c.cp.aq a n)/\FX s (Ae c.cp.aq f) f (g c) (gV vw c))->LU s f w (Au vw hl up cs xs) (cs.map g) (cs.map (λc=>U.filter (Ae c.cp.aq)))
 |_,[],[],_,_,_,_=>trivial
 |_,c::cs,x::xs,hlen,hg,hf,h=>by
  obtain⟨j,⟨a,n,i⟩,e⟩:=h c qe
  obtain⟨O,Y,b⟩:=hg c qe
  rw[Au,yn,yn]
  refine⟨⟨c.cp.aq,a,n,j,by rw[ss];exact i,e,λk=>yg.2 ⟨hf,k⟩⟩,O,Y,b,iJ Nu (λd hd=>hg d I1) hf (λd hd=>h d I1)⟩
 |_,[],_::_,h,_,_,_=>by simp at h
 |_,_::_,[],h,_,_,_=>by simp at h
def jY(R adr U)(hR:JE R U)(y:Bm adr U)(vw)(Y:EB U R.X (gV vw))(g)(p:EB U R.X g)(old s)(hs:s=1∨s = -1)(f)(hf:f∈U)(w)(C:EA R adr U vw g old w)(u:∀c∈R.X,(∃a n,CO w c.node c.cp.aq a n)/\FX s (Ae c.cp.aq f) f (g c) (gV vw c)) :
  Ca 305 #[Pn R.rb,.pointer (some (adr f)),I6 s] w λe w'=>e=.returned (.tuple #[])/\EA R adr U vw (gV vw) old w'/\CK w w'/\Av R.S w w':=by
 obtain⟨⟨a,E,G⟩,d⟩:=C;have O:(R.l vw).map Prod.snd=R.X.map (gV vw):=MI hR.len;have r:∀T∈([[]]:List (List F)),FN U (R.l vw) (R.X.map (λc=>U.filter (Ae c.cp.aq))) T:=λT H=>by
  rw[yv.1 H];exact Pj hR.len hR.sr qe qe
 have hu:∀m∈R.l vw,∀f∈m.2,f∈U:=λm I f hf=>by
  have x:m.2∈(R.l vw).map Prod.snd:=yT I;rw[O]at x;obtain⟨c,b,e⟩:=yz.1 x;rw[<-e]at hf;exact(yg.1 ((Y c b).1 f hf)).1
 refine(uU y s hs f hf (R.l vw) (R.X.map g) (R.X.map (λc:Cx=>U.filter (Ae c.cp.aq))) [[]] a R.rb w E G (Rl hR.maps (λc b=>⟨(hR.small c b).1,(Y c b).2.2,(hR.small c b).2.2⟩)) hu r qe (by rw[O];exact Y.sub) (iJ hR.len p hf (λc b=>⟨(hR.small c b).2.1,(u c b).1,(u c b).2⟩)) gP qL (AF (L:=[_,_]) d (j:=0) rfl)).ac λe w' q=>?_;obtain⟨J,t,B,D,A,z⟩:=q;refine⟨J,⟨⟨D,A,?_⟩,d.same ((t _ _ _ _ d).j d.ai)⟩,t,B.ac λg p=>He.1 p⟩;rw[<-O];exact Hy.2 z
def nD(h:P:=by
 go_wp2_with fail;refine H.o.an λw1 h1=>?_;have Y:=Aa h1;clear h1;go_wp2_with fail;exact bodyPost_end (results_none rfl _ _ _) rfl ⟨rfl,Y.o⟩
 ):=h
def ud(a O)(R:World->World->Prop)(w)(h:Ca 305 #[Pn a,O,I6 1] w λe w'=>e=.returned (.tuple #[])/\R w w'):Ca 301 #[Pn a,O] w λe w'=>e=.returned (.tuple #[])/\R w w':=by
 have H:=Aa h;clear h;go_enter func301,ntmps301;exact nD
def xD(a O)(R:World->World->Prop)(w)(h:Ca 305 #[Pn a,O,I6 (-1)] w λe w'=>e=.returned (.tuple #[])/\R w w'):Ca 303 #[Pn a,O] w λe w'=>e=.returned (.tuple #[])/\R w w':=by
 have H:=Aa h;clear h;go_enter func303,ntmps303;exact nD
def UT{adr old vw hl U cb nb wb w}:∀{up:Value}{cs:List Cx}{xs:List CE}{TT:List (List F)}{a:CT (Au vw hl up cs xs)},xs.length=cs.length->Lv adr old (Au vw hl up cs xs) TT a->Ey adr U cb nb wb (Au vw hl up cs xs) w a->∀(j:Nat)(n:Ap),(Au vw hl up cs xs)[j]?=some n->∃f L O,At w ((GH n).2) 5 (.map (some f))/\Ag w f (uv L)/\(Fs vw cs TT)[j]?=some O/\L.length=O.length
 |_,[],[],_,_,_,_,_,_,_,b=>by simp[Au]at b
 |up,c::cs,x::xs,TT,a,hlen,h,d,j,n,b=>by
  revert a n
  rw[Au,Fs]
  cases e:c.cp.neg
  .rw[Ih e,if_neg (by decide)]
   intro a h d n b
   cases j with
   |zero=>
    simp at b
    subst b
    exact⟨_,_,TT,AF (L:=[_,_,_,_,_,_,_]) d.1.q (j:=5) rfl,d.2.1,rfl,by rw[yp];exact h.1.length_eq⟩
   |succ j=>exact UT (by simpa using hlen) h.2 d.2.2 j n (by simpa using b)
  .rw[Ic e,if_pos rfl]
   intro a h d n b
   cases j with
   |zero=>
    simp at b
    subst b
    exact⟨_,_,TT,AF (L:=[_,_,_,_,_,_,_,_]) d.1.q (j:=5) rfl,d.2.1,rfl,by rw[yp];exact h.1.length_eq⟩
   |succ j=>exact UT (by simpa using hlen) h.2.2 d.2.2.2 j n (by simpa using b)
 |_,[],_::_,_,_,h,_,_,_,_,_=>by simp at h
 |_,_::_,[],_,_,h,_,_,_,_,_=>by simp at h
def fY(vw):∀(cs:List Cx)(TT:List (List F)),(Fs vw cs TT).length=cs.length+1
 |[],_=>rfl
 |c::cs,TT=>by
  rw[Fs,yH,yH,fY vw cs]
def ij(vw):∀(cs:List Cx)(TT:List (List F)),(Fs vw cs TT)[cs.length]?=some (TT.flatMap (BV (cs.map (Cv vw))))
 |[],TT=>by
  simp only[Fs,YF,BV,YV]
  rw[List.flatMap_singleton' TT]
  rfl
 |c::cs,TT=>by
  rw[Fs,yH,yw,ij vw cs,PK]
def N_(vw:Vw)(X:List Cx):Int:=(((Fs vw X [[]]).map List.length).sum:Int)-1
def tQ{l:List Nat}{n k}(h:l.length=n+1)(c:l[n]?=some k):l.sum=(l.take n).sum+k:=by
 have b:l=l.take n++[k]:=by
  have:=Yz n l;rw[WE qd]at this;have e:l[n]=k:=by simpa[show n<l.length by omega] using c
  rw[e,List.drop_of_length_le qd]at this;exact this.ai
 have a:=congrArg List.sum b;rw[Kj]at a;simpa using a
def tA(R adr U)(hR:JE R U)(vw old w)(z:EA R adr U vw (gV vw) old w)(N:((Fs vw R.X [[]]).map List.length).sum<=1000000000) :
  Ca 304 #[Pn R.rb] w λe w'=>e=.returned (I6 (N_ vw R.X))/\w'=w:=by
 obtain⟨⟨a,o,d⟩,s⟩:=z;have v:(R.l vw).map Prod.snd=R.X.map (gV vw):=MI hR.len;rw[<-v]at d;have d:=Hy.1 d;obtain⟨K,M,B,x,H⟩:=Lv.now hR.len d;have t:=B U R.cb R.nb R.wb w o;have i:(R.l vw).length=R.X.length:=UM hR.len;have Y:=ij vw R.X [[]];have C:K.length=(([[]]:List (List F)).flatMap (BV (R.X.map (Cv vw)))).length:=by rw[x.length_eq,yp]
 have b:=fY vw R.X [[]];have G:=tQ (l:=(Fs vw R.X [[]]).map List.length) (n:=R.X.length) (k:=K.length) (by rw[yp];exact b) (by rw[yx,Y,C];rfl);have p:(Cz (R.l vw)).length=R.X.length:=by simp[Cz,i]
 have E:NM (R.l vw):=gP;refine(zX R.rb R.cb R.nb (Cz (R.l vw)) K ((((Fs vw R.X [[]]).map List.length).take R.X.length).reverse) (jO qL) w (AF (L:=[_,_]) s (j:=0) rfl) (AF (L:=[_,_]) s (j:=1) rfl) (AF (L:=[_,_]) t.q (j:=0) rfl) t.now (by rw[List.sum_reverse];omega) (by simp[p,b]) ?_).ac λe w' q=>⟨?_,q.2⟩
 .intro k n m f g;have I:k<R.X.length:=by rw[<-p];exact(yf.1 f).1
  obtain⟨j,hj⟩:∃j,j=R.X.length-1-k:=⟨_,rfl⟩
  obtain⟨c,O⟩:∃c,(R.l vw)[j]?=some c:=⟨(R.l vw)[j]'(by omega),qe⟩
  have r:n=GH c:=by
   unfold Cz at f;rw[WW qg,yx,yp,i,<-hj,O]at f;simpa using f.ai
  obtain⟨D,L,T,u,A,y,J⟩:=UT hR.len d o j c O;refine⟨D,L,by rw[r];exact u,A,?_,?_⟩
  .rw[WW (by simp[b];omega)]at g;simp only[Yo,yp,b]at g;rw[show min R.X.length (R.X.length+1)-1-k=j by omega,YU,if_pos qd,yx,y]at g;simp at g;omega
  rw[r,Rx o O,E j c O,i];congr 2;omega
 rw[q.1,List.sum_reverse];unfold N_;congr 2;omega
def tY(R vw w)(a:Iz R vw w):Ca 302 #[Pn R.rb] w λe w'=>e=.returned (Pn R.cb)/\w'=w:=xl R.rb _ w (AF (L:=[_,_]) a (j:=1) rfl)
def wS{α β:Type}{f:α->β}{L K}(h:L.Perm K):∀TT:List α,TT.map f=L->∃a:List α,TT.Perm a/\K=a.map f:=by
 induction h with
 |nil=>exactλTT e=>⟨[],by rw[Ki.1 e],rfl⟩
 |cons x _ ih=>
  intro TT e;cases TT with
  |nil=>simp at e
  |cons t r=>
   rw[yn,Yh]at e;obtain⟨a,c,b⟩:=ih r e.2;exact⟨t::a,c.cons t,by rw[yn,e.1,b]⟩
 |swap x y l=>
  intro TT e
  match TT,e with
  |t::s::r,e=>
   rw[yn,yn,Yh,Yh]at e;exact⟨s::t::r,.swap _ _ _,by rw[yn,yn,e.1,e.2.1,e.2.2]⟩
 |trans _ _ O Y=>
  intro TT e;obtain⟨g,c,b⟩:=O TT e;obtain⟨t2,d,i⟩:=Y g b.ai;exact⟨t2,c.j d,i⟩
def xv{α β:Type}{f:α->β}{K}{TT:List α}(h:K.Perm (TT.map f)):∃a:List α,TT.Perm a/\K=a.map f:=wS h.ai TT rfl
def wu{A B K:List Kt}{x}(h:K.Perm (A++x::B))(f:K.Nodup):(K.filter (λy=>decide (y≠x))).Perm (A++B):=by
 have i:=h.nodup_iff.1 f;obtain⟨k,b,g⟩:=yP.1 i;rw[Yg]at b;refine(h.filter _).j (K4 ?_);rw[yQ,yN qe];have d:A.filter (λy=>decide (y≠x))=A:=Yv.2 λy a=>by
  simp only[ne_eq,decide_eq_true_eq];exactλe=>g y a x qe e
 have c:B.filter (λy=>decide (y≠x))=B:=Yv.2 λy a=>by
  simp only[ne_eq,decide_eq_true_eq];rintro rfl;exact b.1 a
 rw[d,c]
def NP(w:World)(mb:Nat)(v0 v1:Value)(cb:Nat):Prop:=w.heap[mb]?=some (.cells #[v0,v1,.pointer (some ⟨cb,0,none⟩)] 258 (0,0))
structure pp(adr:F->Addr) (p:List F->Bool) (old:List Kt) (TT:List (List F)) (cb nb wb r:Nat) (w wr:World):Prop where
 ex:∃(done todo:List (List F))(K:List Kt)(M:List (Kt × Int)),TT.Perm (done++todo)/\K.Perm ((done.filter (λT=>!p T)++todo).map (Ab adr))/\BU old K M/\CS wr cb nb wb K M/\A6 wr nb r (uv K) (todo.map (Ab adr))
 ck:CK w wr
 mp:Av (λg=>g=nb∨g=wb) w wr
def u_(adr)(p:List F->Bool)(old)(TT:List (List F))(K M)(mb cb nb wb fn:Nat)(v0 v1 aE w)(aT:NP w mb v0 v1 cb)(z:CS w cb nb wb K M)(hK:K.Perm (TT.map (Ab adr)))(hN:BU old K M)(eg:∀args w,(callFunc fn args).run prog w=.ok (.enter fn args) w)(av:∀T∈TT,∀u,CK w u->AK w (Ab adr T)/\Ca fn (#[AU (Ab adr T)]++aE) u λe u'=>e=.returned (.bool (p T))/\Bw u u') :
  Ca 310 #[.pointer (some ⟨mb,0,none⟩),.func (.func fn) #[] aE] w λe w'=>e=.returned (.tuple #[])/\(∃b m,b.Perm ((TT.filter (λT=>!p T)).map (Ab adr))/\BU old b m/\CS w' cb nb wb b m)/\CK w w'/\Av (λg=>g=nb∨g=wb) w w':=by
 obtain⟨bC,HC,HN,aO,bp⟩:=DU aT z hN av hK;have n2:=AF (L:=[_,_,_]) aT (j:=2) rfl;have c0:=AF (L:=[_,_]) z.q (j:=0) rfl;obtain⟨o,hR,aK⟩:=Ve (P:=prog) EJ z.now;have bd:=Aa aK;have bG:=bd.o.dd;have Z:=Aa (Aj.alloc AA o:Bw w (w.alloc o));have bD:=z.now.lt;have bE:=z.news.lt;clear aT z hN av hK aK;go_enter func310,ntmps310;go_wp2_with fail
 go_loopw [] (λwr=>pp adr p old TT cb nb wb w.heap.size w wr) (λwr=>wr.rangeLeft nb w.heap.size)
 case atStart=>
  obtain⟨a,d,B⟩:∃a:List (List F),TT.Perm a/\K=a.map (Ab adr):=xv bp.o;exact⟨⟨[],a,K,M,d,by rw[B];exact .refl _,HN.o,HC.o.J Z.o,by rw[<-B];exact bd.o⟩,CK.ab Z.o,Av.ab Z.o⟩
 case round=>
  obtain⟨⟨done,a,b,m,a0,a5,bg,bk,n⟩,a8,a4⟩:=hrel;obtain⟨aN,G,N,s,bv,a6,aR⟩:=H5 a0 a5 bg bk n a8 a4;clear a0 a5 bg bk a8 a4;rcases RU (P:=prog) n 0 with⟨h0,aS⟩|⟨x,v,ob,w2,hx,bA,br,aS,aq,hE⟩
  .have bq:a=[]:=Ki.1 h0;clear n;go_wp2_with fail;refine bodyPost_end (results_none rfl _ _ _) rfl ⟨rfl,⟨b,m,?_,N.o,s.o⟩,a6.o,aR.o⟩;have d:=aN.o;have B:=G.o;rw[bq,yM]at d B;exact B.j (((d.ai).filter _).map _)
  obtain⟨T,hT,rfl⟩:=yz.1 hx;have A:=SG (r:=w.heap.size) (o:=ob) br;obtain⟨W,hW⟩:∃W,W=ChangeMaps.setBlock w2 w.heap.size ob:=⟨_,rfl⟩
  rw[<-hW]at aS aq hE A;have aI:=Aa aq;have aV:=A.ck n.cD;have C:=a6.o.j aV;have bf:T∈TT:=aN.o.ai.subset (YA _ hT);have bi:=(aO.o T bf w (λ_ _ _ _ h=>h)).1;have aQ:b.Nodup:=by have:=s.o.now.nd;rwa [Pp]at this
  have bl:(a.map (Ab adr)).Nodup:=by
   have d:=G.o.nodup_iff.1 aQ;rw[yJ,yP]at d;exact d.2.1
  have Y:=PJ (k:=Ab adr) (l:=a) (T:=T) bl hT;obtain⟨O,R⟩:∃q,q=a.filter (λU=>decide (Ab adr U≠Ab adr T)):=⟨_,rfl⟩
  rw[<-R]at Y;obtain⟨aF,H⟩:=Ak (show TT.Perm ((done++[T])++O) from(aN.o.j ((Wc _).append Y)).j (.of_eq qe)) (show b.Perm (((done.filter (λT=>!p T)).map (Ab adr))++Ab adr T::O.map (Ab adr)) from G.o.j (by rw[yJ];exact(Wc _).append (Y.map (Ab adr))));have aL:A6 W nb w.heap.size (uv b) (O.map (Ab adr)):=by
   have:=aI.o;rw[Y8]at this;rw[R];exact this
  have ay:=n.left;have am:O.length<a.length:=by have:=Y.length_eq;simp at this;omega
  obtain⟨au,bm,aX,bt⟩:=BE aL C A (bi.ck C);have m2:=C.cell n2;have aD:CS W cb nb wb b m:=⟨aV _ _ _ _ s.o.q,au.o.map,s.o.news.aI A qd (λc t e=>n.cD c t _ e),s.o.ne⟩
  obtain⟨aw,aU,bo,aZ⟩:=BE aD (λ(u:World)(hu:Bw W u)=>(aO.o T bf u (C.j (CK.ab hu))).2) (λo=>Aj.alloc AA o:∀o,Bw W (W.alloc o)) aQ;simp only[Ab,AU]at aS hE aU;clear n aq aL C A aV hW Y bi aD aI R bl G s aO aQ;go_upto_region 3 with fail;refine Bt ?_;intro w3 E bj;have bh:=Aa E;obtain⟨s0,s1,s2⟩:=C7 bj rfl;have D:=Aa (aU.o w3 E);have k2:=zab E m2;clear E bj aU bo
  cases I:p T
  .rw[I]at D;go_wp2_with fail;refine D.o.an λw4 i=>?_;have f:=Aa (bh.o.aj i);clear i;go_wp2_with fail;have aG:=au.o.J f.o;refine⟨⟨⟨done++[T],O,b,m,aF.o,?_,N.o,aw.o.J f.o,aG⟩,bm.o.j (CK.ab f.o),(aR.o.new aX.o AA).j (Av.ab f.o)⟩,?_⟩
   .rw[yQ,yL (by rw[I];rfl),YC];refine H.o.j (.of_eq ?_);simp
   rw[aG.left,ay,yp,yp];exact am
  rw[I]at D;go_wp2_with fail;refine D.o.an λw4 i=>?_;have f:=Aa (bh.o.aj i);have bw:=zab i k2;have bz:=zab i s0;have bF:=zab i s1;have bB:=zab i s2;have bn:=Aa (λ(u:World)(hu:Bw W u)=>zm cb nb wb w.heap.size b (O.map (Ab adr)) m (Ab adr T) u (aw.o.J hu) (au.o.J hu) qd (bt.o.J hu) (N.o.bX _));simp only[Ab,AU]at bn;clear i s0 s1 s2 k2;go_wp2_with fail
  go_region_held3 (λu=>u.cell? ⟨mb,2,none⟩=some (.pointer (some ⟨cb,0,none⟩))/\u.cell? ⟨W.heap.size,0,none⟩=some (.pointer (T[0]?.map adr))/\u.cell? ⟨W.heap.size,1,none⟩=some (.pointer (T[1]?.map adr))/\u.cell? ⟨W.heap.size,2,none⟩=some (.pointer (T[2]?.map adr)))
   ((go_split_ands;first|done|(refine⟨?_,?_,?_,?_⟩<;>first|assumption|with_reducible exact CK.cell az qj|exact zab Aj.drew qj))) (first|(go_at_call 211;refine(bn.o _ f.o.drew).an λw5⟨aM,aH,ax⟩=>?_;have az:=(aw.o.J f.o.drew).ck ax)|fail)
  obtain⟨a9,aJ,a7,aY⟩:=BE (show CS w5 cb nb wb (b.filter (λy=>decide (y≠Ab adr T))) (E9 (Ab adr T) (-1) m) from aM) (show A6 w5 nb w.heap.size (uv (b.filter (λy=>decide (y≠Ab adr T)))) ((O.map (Ab adr)).filter (λy=>decide (y≠Ab adr T))) from aH) ax ((CK.ab f.o.drew).j az);clear aM aH ax az;go_wp2_with fail;have bu:=wu H.o aZ.o;have bc:(O.map (Ab adr)).filter (λy=>decide (y≠Ab adr T))=O.map (Ab adr):=Yv.2 λy hy=>by
   simp only[ne_eq,decide_eq_true_eq];rintro rfl;have d:=(yP.1 (H.o.nodup_iff.1 aZ.o)).2.1;rw[Yg]at d;exact d.1 hy
  refine⟨⟨⟨done++[T],O,_,_,aF.o,?_,N.o.gone (H.o.mem_iff.2 qe),a9.o,?_⟩,bm.o.j aY.o,(aR.o.new aX.o AA).j ((Av.ab f.o.drew).j a7.o)⟩,?_⟩
  .rw[yQ,yN (by rw[I];decide),YC,yM,yJ];exact bu
  .have h:=aJ.o;rw[bc]at h;exact h
  have h:=aJ.o;rw[bc]at h;rw[h.left,ay,yp,yp];exact am
end
def Dn(gO gN:Cx->List F)(f:F)(X:List Cx)(k:Nat)(T:List F):Prop:=
 (BB gO X [] T/\∀(j:Nat)(c:Cx),j<k->X[j]?=some c->c.cp.neg=true->Ae c.cp.aq f=true->¬LL f j X [] T)∨∃(j:Nat)(c:Cx),j<k/\X[j]?=some c/\c.cp.neg=false/\Ae c.cp.aq f=true/\NU gN f j X [] T
def FF(gO gN:Cx->List F)(f:F)(X:List Cx)(k:Nat)(T:List F):Prop:=
 (BB gO X [] T/\f ∉ T)∨∃(j:Nat)(c:Cx),j<k/\X[j]?=some c/\c.cp.neg=true/\Ae c.cp.aq f=true/\NU gN f j X [] T
section
variable {gO gN : Cx -> List F} {f : F} {X : List Cx} {k : Nat} {T : List F} {c : Cx}
def zc:Dn gO gN f X 0 T↔BB gO X [] T:=by simp[BB,Dn]
def Qt(h:P:=by exact .inr ⟨j,d,by omega,h⟩):=h
def zW(e:X[k]?=some c)(g:Ae c.cp.aq f=false):Dn gO gN f X (k+1) T↔Dn gO gN f X k T:=by
 constructor
 .rintro(⟨b,a⟩|⟨j,d,hj,hd,b,a,l⟩)
  .exact .inl ⟨b,λj d hj=>a j d qd⟩
  refine .inr ⟨j,d,?_,hd,b,a,l⟩;rcases Wx j k with h|h
  .exact h
  obtain rfl:j=k:=qd;rw[e]at hd;cases hd;rw[g]at a;cases a
 rintro(⟨b,a⟩|⟨j,d,hj,h⟩)
 .refine .inl ⟨b,λj d hj hd i O=>?_⟩;rcases Wx j k with h|h
  .exact a j d h hd i O
  obtain rfl:j=k:=qd;rw[e]at hd;cases hd;rw[g]at O;cases O
 exact Qt
def nm(h:P:=by
 rcases Wx j k with h|h
 .exact .inl (.inr ⟨j,d,h,hd,h1,h2,h3⟩)
 obtain rfl:j=k:=by omega
 exact .inr h3
 ):=h
def uS(b:X[k]?=some c)(a:c.cp.neg=false)(e:Ae c.cp.aq f=true):Dn gO gN f X (k+1) T↔Dn gO gN f X k T∨NU gN f k X [] T:=by
 constructor
 .rintro(⟨h1,h2⟩|⟨j,d,hj,hd,h1,h2,h3⟩)
  .exact .inl (.inl ⟨h1,λj d hj=>h2 j d qd⟩)
  exact nm
 rintro((⟨h1,h2⟩|⟨j,d,hj,h⟩)|h)
 .refine .inl ⟨h1,λj d hj hd O Y=>?_⟩;rcases Wx j k with h|h
  .exact h2 j d h hd O Y
  obtain rfl:j=k:=qd;rw[b]at hd;cases hd;rw[a]at O;cases O
 .exact Qt
 exact .inr ⟨k,c,qd,b,a,e,h⟩
def xN(i:∀c∈X,∀x,x∈gN c↔x∈gO c∨(Ae c.cp.aq f=true/\x=f))(g:X[k]?=some c)(l:c.cp.neg=true)(o:Ae c.cp.aq f=true):Dn gO gN f X (k+1) T↔Dn gO gN f X k T/\¬LL f k X [] T:=by
 have r:∀d,X[k]?=some d->Cc d=true->f∈gN d:=λd hd _=>by
  rw[g]at hd;cases hd;exact(i c (yd g) f).2 (.inr ⟨o,rfl⟩)
 constructor
 .rintro(⟨a,b⟩|⟨j,d,hj,hd,a,b,n⟩)
  .exact⟨.inl ⟨a,λj d hj=>b j d qd⟩,b k c qd g l o⟩
  have p:BB gN X [] T:=Sd.cm (λe m _=>by
   rw[hd]at m;cases m;exact(i d (yd hd) f).2 (.inr ⟨b,rfl⟩)) n
  refine⟨.inr ⟨j,d,?_,hd,a,b,n⟩,p.free r⟩;rcases Wx j k with h|h
  .exact h
  obtain rfl:j=k:=qd;rw[g]at hd;cases hd;rw[l]at a;cases a
 rintro⟨⟨a,b⟩|⟨j,d,hj,h⟩,q⟩
 .refine .inl ⟨a,λj d hj hd O Y=>?_⟩;rcases Wx j k with h|h
  .exact b j d h hd O Y
  obtain rfl:j=k:=qd;exact q
 exact Qt
def xE(k:∀c∈X,∀x,x∈gN c↔x∈gO c∨(Ae c.cp.aq f=true/\x=f)):Dn gO gN f X X.length T↔BB gN X [] T:=by
 rw[show BB gN X [] T↔_ from iX (p:=λc=>Ae c.cp.aq f) (λc l x=>k c l x)];constructor
 .rintro(⟨b,a⟩|⟨j,d,_,hd,b,a,g⟩)
  .exact .inl ⟨b,λj d hd e i=>a j d (yf.1 hd).1 hd e i⟩
  exact .inr ⟨j,d,hd,b,a,g⟩
 rintro(⟨b,a⟩|⟨j,d,hd,b,a,g⟩)
 .exact .inl ⟨b,λj d _ hd e i=>a j d hd e i⟩
 exact .inr ⟨j,d,(yf.1 hd).1,hd,b,a,g⟩
def Dn.cm(b:∀c∈X,∀x,x∈gN c↔x∈gO c∨(Ae c.cp.aq f=true/\x=f))(h:Dn gO gN f X k T):BB gO X [] T∨BB gN X [] T:=by
 rcases h with h|⟨j,d,_,hd,l,i,g⟩
 .exact .inl h.1
 exact .inr (Sd.cm (λe a _=>by
  rw[hd]at a;cases a;exact(b d (yd hd) f).2 (.inr ⟨i,rfl⟩)) g)
def zZ:FF gO gN f X 0 T↔BB gO X [] T/\f ∉ T:=by simp[FF,BB]
def j8(e:X[k]?=some c)(i:¬(c.cp.neg=true/\Ae c.cp.aq f=true)):FF gO gN f X (k+1) T↔FF gO gN f X k T:=by
 constructor
 .rintro(h|⟨j,d,hj,hd,b,a,g⟩)
  .exact .inl h
  refine .inr ⟨j,d,?_,hd,b,a,g⟩;rcases Wx j k with h|h
  .exact h
  obtain rfl:j=k:=qd;rw[e]at hd;cases hd;exact absurd ⟨b,a⟩ i
 rintro(h|⟨j,d,hj,h⟩)
 .exact .inl h
 exact Qt
def un(b:X[k]?=some c)(a:c.cp.neg=true)(e:Ae c.cp.aq f=true):FF gO gN f X (k+1) T↔FF gO gN f X k T∨NU gN f k X [] T:=by
 constructor
 .rintro(h|⟨j,d,hj,hd,h1,h2,h3⟩)
  .exact .inl (.inl h)
  exact nm
 rintro((h|⟨j,d,hj,h⟩)|h)
 .exact .inl h
 .exact Qt
 exact .inr ⟨k,c,qd,b,a,e,h⟩
def uj(g:∀c∈X,∀x,x∈gN c↔x∈gO c/\x≠f)(k:∀c∈X,f∈gO c->Ae c.cp.aq f=true):FF gO gN f X X.length T↔BB gN X [] T:=by
 rw[show BB gN X [] T↔_ from iT (p:=λc=>Ae c.cp.aq f) (λc i x=>g c i x) k];constructor
 .rintro(h|⟨j,d,_,hd,a,e,b⟩)
  .exact .inl h
  exact .inr ⟨j,d,hd,a,e,b⟩
 rintro(h|⟨j,d,hd,a,e,b⟩)
 .exact .inl h
 exact .inr ⟨j,d,(yf.1 hd).1,hd,a,e,b⟩
end
def Hp(adr:F->Addr)(S:List F->Prop)(K:List Kt):Prop:=∀x,x∈K↔∃T,S T/\x=Ab adr T
def Hp.congr{adr S S' K}(h:Hp adr S K)(a:∀T,S T↔S' T):Hp adr S' K:=λx=>by
 rw[h x];simp only[a]
def Hp.list{adr}{S:List F->Prop}:∀{K:List Kt},(∀x∈K,∃T,S T/\x=Ab adr T)->∃TT:List (List F),K=TT.map (Ab adr)/\∀T∈TT,S T
 |[],_=>⟨[],rfl,λT a=>by simp at a⟩
 |x::K,h=>by
  obtain⟨T,a,e⟩:=h x qe
  obtain⟨TT,d,c⟩:=Hp.list (K:=K) (λy hy=>h y J_)
  refine⟨T::TT,by rw[yn,<-e,<-d],λV b=>?_⟩
  rcases yO.1 b with rfl|b
  .exact a
  exact c V b
end Go.Proofs.YtikojfajahnhgaaGreat
