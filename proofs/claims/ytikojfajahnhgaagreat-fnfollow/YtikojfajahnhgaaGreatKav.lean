import Derived.Test.YtikojfajahnhgaaGreatKau
import Derived.Test.YtikojfajahnhgaaGreatKas
set_option linter.all false
set_option maxHeartbeats 12800000
set_option maxRecDepth 100000
namespace Go.Proofs.YtikojfajahnhgaaGreat
open Go.RowKit Go.Proofs.Tryz
attribute [local go_sem ↓] wp_at_zero wp_at_succ
attribute [local simp] At I6 Pn mzI Bk
attribute [local go_sem] At I6 Pn Bk
variable{P:Prop}
def BV(adr:F->Addr)(U:Ab):Prop:=∀f∈U,∀g∈U,adr f=adr g->f=g
def LC{adr U T O}(d:BV adr U)(e:∀f∈T,f∈U)(j:∀f∈O,f∈U)(l:T.length<=3)(k:O.length<=3)(h:Ae adr T=Ae adr O):T=O:=by
 have key:∀i:Nat,T[i]?.map adr=O[i]?.map adr->T[i]?=O[i]?:=λi b=>by
  cases c:T[i]? with
  |none=>
   cases a:O[i]? with
   |none=>rfl
   |some g=>simp[c,a]at b
  |some f=>
   cases a:O[i]? with
   |none=>simp[c,a]at b
   |some g=>
    simp only[c,a,Ws,Y1]at b;rw[d f (e f (yd c)) g (j g (yd a)) b]
 simp only[Ae,YF]at h;apply YH
 grind
def CF(x:Kt)(L:Av):Int:=if x∈L then 1 else 0
def MF{x L}(h:x∈L):CF x L=1:=if_pos h
def JF{x L}(h:x ∉ L):CF x L=0:=if_neg h
def RC(x L):CF x L=0∨CF x L=1:=by unfold CF;split<;>simp_all
def gC{x L a}(h:L.Perm a):CF x L=CF x a:=by
 unfold CF;simp only[h.mem_iff]
structure CP(old now:Av) (M:B_):Prop where
 nz:∀y∈M,y.2≠0
 cnt:∀x,AC x M=CF x now-CF x old
def CP.perm{old a O M}(h:CP old a M)(b:a.Perm O):CP old O M:=⟨h.nz,λx=>by rw[h.cnt x,gC b]⟩
def CP.cl{old a M}(h:CP old a M)(x):-9<=AC x M/\AC x M<=9:=by
 rw[h.cnt x];rcases RC x a with b|b<;>rcases RC x old with c|c<;>rw[b,c]<;>decide
def mU(x s M):AC x (Gr x s M)=AC x M+s:=by
 unfold Gr;split
 .rename_i h;rw[h];exact lT x M
 exact ld x _ M
def rQ{x y}(h:x≠y)(s M):AC y (Gr x s M)=AC y M:=by
 unfold Gr;split
 .exact pY h M
 exact pJ h _ M
def lI{x s M}(h:∀y∈M,y.2≠0):∀y∈Gr x s M,y.2≠0:=by
 intro y a;unfold Gr at a;split at a
 .exact h y (yh.1 a).1
 rename_i b;unfold Fa at a;split at a
 .obtain⟨z,c,e⟩:=yv.1 a;split at e
  .rw[<-e];exact b
  rw[<-e];exact h z c
 rcases yp.1 a with a|a
 .exact h y a
 rw[yw.1 a];exact b
def CP.bS{old a M x}(h:CP old a M)(b:x ∉ a):CP old (a++[x]) (Gr x 1 M):=by
 refine⟨lI h.nz,λy=>?_⟩;by_cases e:x=y
 .subst e;rw[mU,h.cnt,JF b,MF (show x∈a++[x] by simp)];omega
 rw[rQ e,h.cnt];have:CF y (a++[x])=CF y a:=by
  unfold CF;simp only[yp,yw,show¬y=x fromλh=>e h.z,or_false]
 rw[this]
def CP.bk{old a M x}(h:CP old a M)(b:x∈a):CP old (a.filter (λy=>decide (y≠x))) (Gr x (-1) M):=by
 refine⟨lI h.nz,λy=>?_⟩;by_cases e:x=y
 .subst e;rw[mU,h.cnt,MF b,JF (show x ∉ a.filter (λy=>decide (y≠x)) by simp)];omega
 rw[rQ e,h.cnt];have:CF y (a.filter (λy=>decide (y≠x)))=CF y a:=by
  unfold CF;simp only[yh,decide_eq_true_eq,ne_eq,show¬y=x fromλh=>e h.z,not_false_eq_true,and_true]
 rw[this]
def BG:DL->Am->Am
 |(.inl d,fs),TT=>TT.flatMap (λT=>(fs.filter (λf=>d.ts.all (AA T f))).map (λf=>T++[f]))
 |(.inr d,fs),TT=>TT.filter (λT=>decide (nBar d.ts fs T=0))
def np(n A B):BG n (A++B)=BG n A++BG n B:=by unfold BG;split<;>simp_all
def pU(n){A B}(h:A.Perm B):(BG n A).Perm (BG n B):=by
 rcases n with⟨d|d,fs⟩
 .exact h.flatMap_right _
 exact h.filter _
def Lv(adr:F->Addr)(old:Av):(l:Aw)->Am->DK l->Prop
 |[],TT,a=>a.1.Perm (TT.map (Ae adr))/\CP old a.1 a.2
 |(.inl d,fs)::r,TT,a=>a.1.Perm TT/\Lv adr old r (BG (.inl d,fs) TT) a.2
 |(.inr d,fs)::r,TT,a=>a.1.Perm TT/\(∀T∈TT,AC (Ae adr T) a.2.1=(nBar d.ts fs T:Int))/\Lv adr old r (BG (.inr d,fs) TT) a.2.2
def Lv.perm{adr old}:∀{l:Aw}{A B:Am}{a:DK l},Lv adr old l A a->A.Perm B->Lv adr old l B a
 |[],_,_,_,h,hp=>⟨h.1.c (hp.map _),h.2⟩
 |(.inl d,fs)::_,_,_,_,h,hp=>⟨h.1.c hp,Lv.perm h.2 (pU (.inl d,fs) hp)⟩
 |(.inr d,fs)::_,_,_,_,h,hp=>⟨h.1.c hp,λT b=>h.2.1 T (hp.mem_iff.2 b),Lv.perm h.2.2 (pU (.inr d,fs) hp)⟩
def FI(U:Ab):Aw->Am->Ab->Prop
 |[],_,T=>T.length<=3/\∀f∈T,f∈U
 |(.inl d,fs)::r,g::G,T=>(T.length=d.Y/\T.length<3)/\(∀f∈T,f∈U)/\(∀f∈fs,f∈g)/\fs.Nodup/\(∀f∈g,f∈U/\∀t∈d.ts,t.ah T f)/\∀f∈g,d.ts.all (AA T f)=true->FI U r G (T++[f])
 |(.inr d,fs)::r,g::G,T=>T.length<=3/\(∀f∈T,f∈U)/\(∀f∈fs,f∈g)/\(∀f∈g,∀t∈d.ts,t.ah T f)/\FI U r G T
 |_::_,[],_=>False
theorem FI.len{U}:∀{l:Aw}{G:Am}{T:Ab},FI U l G T->T.length<=3/\∀f∈T,f∈U
 |[],_,_,h=>h
 |(.inl _,_)::_,_::_,_,h=>⟨V7 h.1.2,h.2.1⟩
 |(.inr _,_)::_,_::_,_,h=>⟨h.1,h.2.1⟩
 |(.inl _,_)::_,[],_,h=>h.elim
 |(.inr _,_)::_,[],_,h=>h.elim
def To{T O}{f a:F}(h:T++[f]=O++[a]):T=O/\f=a:=by simp_all
def Nd{U n r g G TT}(h:∀T∈TT,FI U (n::r) (g::G) T):∀T∈BG n TT,FI U r G T:=by
 intro T b;rcases n with⟨d|d,fs⟩
 .obtain⟨O,c,e⟩:=Yq.1 b;obtain⟨f,a,rfl⟩:=yv.1 e;obtain⟨a,k⟩:=yh.1 a;obtain⟨_,_,j,_,_,i⟩:=h O c;exact i f (j f a) k
 exact(h T (yh.1 b).1).2.2.2.2
def tW(h:P:=by obtain⟨f,_,rfl⟩:=yv.1 hz;obtain⟨f',_,e⟩:=yv.1 O;exact hne (To e).1.z):=h
def Ns{U n r g G TT}(h:∀T∈TT,FI U (n::r) (g::G) T)(c:TT.Nodup):(BG n TT).Nodup:=by
 rcases n with⟨d|d,fs⟩
 .refine rB c (λT j=>?_) (λT _ l _ hne z hz O=>?_)
  .obtain⟨_,_,_,k,_⟩:=h T j;exact Ks _ (λa b i e=>i (To e).2) (k.filter _)
  exact tW
 exact c.filter _
def zsI{n TT T U}(c:T ∉ TT)(b:U∈BG n [T]):U ∉ BG n TT:=by
 intro h;rcases n with⟨d|d,fs⟩
 .obtain⟨m,O,a⟩:=Yq.1 h;obtain⟨f,o,rfl⟩:=yv.1 a;obtain⟨l,g,i⟩:=Yq.1 b;obtain⟨j,k,e⟩:=yv.1 i;rw[yw.1 g]at e;exact c (by rw[(To e).1];exact O)
 have a:=(yh.1 b).1;rw[yw.1 a]at h;exact c (yh.1 h).1
def Nk{adr U}{TT:Am}{T}(d:BV adr U)(c:∀T∈TT,T.length<=3/\∀f∈T,f∈U)(b:T.length<=3/\∀f∈T,f∈U):Ae adr T∈TT.map (Ae adr)↔T∈TT:=by
 constructor
 .intro h;obtain⟨O,a,e⟩:=yv.1 h;rw[LC d b.2 (c O a).2 b.1 (c O a).1 e.z];exact a
 exactλh=>yS h
section
variable {adr : F -> Addr} {U : Ab} {old : Av} {cb nb wb : Nat}
def E7(adr:F->Addr)(U:Ab)(old:Av)(cb nb wb:Nat)(l:Aw):Prop:=∀(G:Am)(TT:Am)(a:DK l)(T:Ab),Lv adr old l TT a->(∀T∈TT,FI U l G T)->TT.Nodup->FI U l G T->T ∉ TT->(Ee adr 1 U cb nb wb l).ok T a/\∀a',(Ee adr 1 U cb nb wb l).stp T a a'->Lv adr old l (TT++[T]) a'
def E7.aJ{l}(h:E7 adr U old cb nb wb l)(G):∀(d:Am)(TT:Am)(a b:DK l),Lv adr old l TT a->(∀T∈TT,FI U l G T)->(∀T∈d,FI U l G T)->(TT++d).Nodup->CE (Ee adr 1 U cb nb wb l).stp d a b->Lv adr old l (TT++d) b
 |[],TT,a,b,h1,_,_,_,hs=>by
  rw[<-show a=b from hs,yO]
  exact h1
 |V::d,TT,a,b,h1,h2,h3,h4,⟨c,hs,hr⟩=>by
  have e:TT++V::d=(TT++[V])++d:=qf
  rw[e]at h4⊢
  have g:=(yL.1 h4).1
  have i:V ∉ TT:=λq=>(yL.1 g).2.2 V q V qf rfl
  refine E7.aJ h G d (TT++[V]) c b ((h G TT a V h1 h2 (yL.1 g).1 (h3 V qf) i).2 c hs) (λT f=>?_) (λT f=>h3 T (by simp[f])) h4 hr
  rcases yp.1 f with f|f
  .exact h2 T f
  rw[yw.1 f]
  exact h3 V qf
def Tk(s:BV adr U):∀(l:Aw),E7 adr U old cb nb wb l
 |[]=>λG TT a T h j B c O=>by
  have m:Ae adr T ∉ a.1:=λq=>O ((Nk s (λT h=>(j T h)) c).1 (h.1.mem_iff.1 q))
  refine⟨⟨λ_=>m,h.2.cl _⟩,λk w=>?_⟩
  have e:k=(a.1++[Ae adr T],Gr (Ae adr T) 1 a.2):=by
   have R:k=(Hm (Ae adr T) 1 a.1,Gr (Ae adr T) 1 a.2):=w;rw[R,Hm,if_pos rfl]
  subst e;refine⟨?_,h.2.bS m⟩;rw[yz];exact h.1.append (.refl _)
 |(.inl d,fs)::r=>λG TT a T h j B c O=>by
  match G,j,c with
  |[],_,c=>exact c.elim
  |g::G,j,c=>
   have ih:=Tk s r;have m:Ae adr T ∉ a.1.map (Ae adr):=λq=>O ((Nk s (λT h=>(j T h).len) c.len).1 (((h.1.map _).mem_iff).1 q));obtain⟨w1,w2,w3,w4,w5,w6⟩:=c;have v:∀V∈BG (.inl d,fs) [T],FI U r G V:=Nd (n:=(.inl d,fs)) (g:=g) (λY h'=>uk);have az:(BG (.inl d,fs) [T]).Nodup:=Ns (n:=(.inl d,fs)) (r:=r) (U:=U) (g:=g) (G:=G) (λY h'=>uk) qf;have K:BG (.inl d,fs) [T]=(fs.filter (λf=>d.ts.all (AA T f))).map (λf=>T++[f]):=by simp[BG]
   have D:=Ns j B;have t:=Nd j;have z:(BG (.inl d,fs) TT++BG (.inl d,fs) [T]).Nodup:=yL.2 ⟨D,az,λx W y Z e=>zsI O Z (e▸W)⟩;refine⟨⟨w1.1,w2,λf I=>(w5 f (w3 f I)).2,λ_=>m,λi f b hi ar M=>?_⟩,λk w=>?_⟩
   .have au:(((fs.take i).filter (λf=>d.ts.all (AA T f))).map (λf=>T++[f]))++[T++[f]] <+: BG (.inl d,fs) [T]:=by
     rw[K];have e1:fs.take (i+1)=fs.take i++[f]:=by
      rw[Yc,hi];rfl
     have e2:(((fs.take i).filter (λf=>d.ts.all (AA T f))).map (λf=>T++[f]))++[T++[f]]=((fs.take (i+1)).filter (λf=>d.ts.all (AA T f))).map (λf=>T++[f]):=by
      rw[e1,yV,yQ (p:=λf=>d.ts.all (AA T f)) ar,Yu,yz];rfl
     rw[e2];exact((List.take_prefix _ _).filter _).map _
    obtain⟨rest,L⟩:=au;obtain⟨E,ay⟩:=AF (((fs.take i).filter (λf=>d.ts.all (AA T f))).map (λf=>T++[f]));rw[<-ay]at L M;rw[<-L]at z v;have A:(BG (.inl d,fs) TT++(E++[T++[f]])).Nodup:=by
     rw[<-yY]at z;exact(yL.1 z).1
    have J:(BG (.inl d,fs) TT++E).Nodup:=by
     rw[<-yY]at A;exact(yL.1 A).1
    have hl:=E7.aJ ih G E _ _ b h.2 t (λV hV=>v V Nx) J M;refine(ih G _ b (T++[f]) hl (λV hV=>?_) J (v _ qf) (λq=>?_)).1
    .rcases yp.1 hV with hV|hV
     .exact t V hV
     exact v V Nx
    rw[<-yY]at A;exact(yL.1 A).2.2 _ q _ qf rfl
   .obtain⟨C,u⟩:k.1=Jf adr T 1 a.1/\CE (Ee adr 1 U cb nb wb r).stp ((fs.filter (λf=>d.ts.all (AA T f))).map (λf=>T++[f])) a.2 k.2:=w;rw[<-K]at u;refine⟨?_,?_⟩
    .rw[C,Jf,if_pos rfl];exact h.1.append (.refl _)
    .rw[np];exact E7.aJ ih G _ _ _ _ h.2 t v z u
 |(.inr d,fs)::r=>λG TT a T h j B c O=>by
  match G,j,c with
  |[],_,c=>exact c.elim
  |g::G,j,c=>
   have ih:=Tk s r;have m:Ae adr T ∉ a.1.map (Ae adr):=λq=>O ((Nk s (λT h=>(j T h).len) c.len).1 (((h.1.map _).mem_iff).1 q));obtain⟨w1,w2,w3,w4,w5⟩:=c;have D:=Ns j B;have t:=Nd j;have H:T ∉ BG (.inr d,fs) TT:=λq=>O (yh.1 q).1;have N:=ih G _ _ T h.2.2 t D w5 H;refine⟨⟨w1,w2,λf I=>w4 f (w3 f I),λ_=>⟨m,λ_=>N.1⟩,λe=>qo⟩,λk w=>?_⟩;obtain⟨C,u,o⟩:k.1=Jf adr T 1 a.1/\k.2.1=Im (Ae adr T) (if(1:Int)=1 then(nBar d.ts fs T:Int) else 0) a.2.1/\(Ee adr 1 U cb nb wb r).aB (if(1:Int)=1 then nBar d.ts fs T else(AC (Ae adr T) a.2.1).toNat) T a.2.2 k.2.2:=w;rw[if_pos rfl]at u o;refine⟨?_,λV hV=>?_,?_⟩
   .rw[C,Jf,if_pos rfl];exact h.1.append (.refl _)
   .rw[u];rcases yp.1 hV with hV|hV
    .rw[VN (λe=>O (by
      rw[LC s w2 ((j V hV).len).2 w1 ((j V hV).len).1 e];exact hV))]
     exact h.2.1 V hV
    rw[yw.1 hV];exact ZN _ _ _
   rw[np];unfold Du.aB at o;by_cases hz:nBar d.ts fs T=0
   .rw[if_pos hz]at o;have e:BG (.inr d,fs) [T]=[T]:=R_;rw[e];exact N.2 _ o
   rw[if_neg hz]at o;have e:BG (.inr d,fs) [T]=[]:=R_;rw[e,yO,o];exact h.2.2
end
def GY(adr:F->Addr)(T:Ab)(TT:Am):Am:=TT.filter (λV=>decide (Ae adr V≠Ae adr T))
def Ii(adr:F->Addr)(Us TT:Am):Am:=TT.filter (λV=>decide (Ae adr V ∉ Us.map (Ae adr)))
def r5(adr T a TT):Ii adr (T::a) TT=Ii adr a (GY adr T TT):=by
 unfold Ii GY;rw[YC]
 grind
def gX(adr TT):Ii adr [] TT=TT:=by simp[Ii]
def zpn(adr T TT):Ii adr [T] TT=GY adr T TT:=by rw[r5,gX]
def oF{α β:Type}{h p}{q:β->Bool}:∀{l:List α},(∀x∈l,p x=true->∀y∈h x,q y=true)->(∀x∈l,p x=false->∀y∈h x,q y=false)->(l.filter p).flatMap h=(l.flatMap h).filter q
 |[],_,_=>rfl
 |x::r,h1,h2=>by
  have O:=oF (l:=r) (λy hy=>h1 y Ny) (λy hy=>h2 y Ny)
  rw[yX,yV,<-O]
  cases a:p x
  .rw[yT (by rw[a];decide)]
   have:(h x).filter q=[]:=WQ.2 λy hy=>by rw[h2 x qf a y hy];decide
   rw[this]
   rfl
  rw[yQ a,yX,Yp.2 (h1 x qf a)]
def nK{U n r g G T}(h:FI U (n::r) (g::G) T){V}(a:V∈BG n [T]):V.length<=3/\∀f∈V,f∈U:=
 (Nd (n:=n) (TT:=[T]) (λb O=>by rw[yw.1 O];exact h) V a).len
section
variable {adr : F -> Addr} {U : Ab} {old : Av} {cb nb wb : Nat}
def ox(p:BV adr U){n r g G TT T}(m:∀T∈TT,FI U (n::r) (g::G) T)(l:FI U (n::r) (g::G) T):BG n (GY adr T TT)=Ii adr (BG n [T]) (BG n TT):=by
 have O:∀V∈TT,∀y∈BG n [V],Ae adr y∈(BG n [T]).map (Ae adr)->V=T:=λV a y b j=>by
  obtain⟨z,hz,e⟩:=yv.1 j;have hy3:=nK (m V a) b;have o:=nK l hz;have:=LC p o.2 hy3.2 o.1 hy3.1 e;subst this;rcases n with⟨d|d,fs⟩
  .simp only[BG,yX,YY,yO]at b hz;obtain⟨f,_,t⟩:=yv.1 b;obtain⟨x,_,w⟩:=yv.1 hz;exact(To (t.c w.z)).1
  have u:=yw.1 (yh.1 b).1;have v:=yw.1 (yh.1 hz).1;exact u.z.c v
 have k:∀V∈TT,Ae adr V≠Ae adr T->V≠T:=λV _ h e=>h Ij;have s:∀V∈TT,Ae adr V=Ae adr T->V=T:=λV a e=>LC p (m V a).len.2 l.len.2 (m V a).len.1 l.len.1 e;rcases n with⟨d|d,fs⟩
 .unfold GY Ii;refine oF (h:=λT=>(fs.filter (λf=>d.ts.all (AA T f))).map (λf=>T++[f])) (λV a i y b=>?_) (λV a i y b=>?_)
  .simp only[decide_eq_true_eq]at i⊢;exactλq=>k V a i (O V a y (by simpa[BG] using b) q)
  simp only[decide_eq_false_iff_not,ne_eq,Decidable.not_not]at i⊢;rw[s V a i]at b;exact yS (by simpa[BG] using b)
 unfold GY Ii;show((TT.filter _).filter _)=((TT.filter _).filter _);rw[YC,YC];refine YS λV a=>?_;by_cases hz:nBar d.ts fs V=0
 .by_cases j:Ae adr V=Ae adr T
  .have e:=s V a j;subst e;have:Ae adr V∈(BG (.inr d,fs) [V]).map (Ae adr):=yS R_;simp[hz,this]
  have:Ae adr V ∉ (BG (.inr d,fs) [T]).map (Ae adr):=λq=>k V a j (O V a V R_ q);simp[hz,j,this]
 simp[hz]
def Ha(adr:F->Addr)(U:Ab)(old:Av)(cb nb wb:Nat)(l:Aw):Prop:=∀(G:Am)(TT:Am)(a:DK l)(T:Ab),Lv adr old l TT a->(∀T∈TT,FI U l G T)->TT.Nodup->T∈TT->(Ee adr (-1) U cb nb wb l).ok T a/\∀a',(Ee adr (-1) U cb nb wb l).stp T a a'->Lv adr old l (GY adr T TT) a'
def Ha.aJ(i:BV adr U){l}(h:Ha adr U old cb nb wb l)(G):∀(f:Am)(TT:Am)(a b:DK l),Lv adr old l TT a->(∀T∈TT,FI U l G T)->TT.Nodup->(∀T∈f,T∈TT)->f.Nodup->CE (Ee adr (-1) U cb nb wb l).stp f a b->Lv adr old l (Ii adr f TT) b
 |[],TT,a,b,h1,_,_,_,_,hs=>by
  rw[<-show a=b from hs,gX]
  exact h1
 |V::f,TT,a,b,h1,h2,h3,h4,h5,⟨c,hs,hr⟩=>by
  rw[r5]
  rw[Yo]at h5
  refine Ha.aJ i h G f (GY adr V TT) c b ((h G TT a V h1 h2 h3 (h4 V (by simp))).2 c hs) (λT g=>h2 T (yh.1 g).1) (h3.filter _) (λT g=>?_) h5.2 hr
  have d:=h4 T (by simp[g])
  refine yh.2 ⟨d,?_⟩
  simp only[decide_eq_true_eq,ne_eq]
  intro e
  have:=LC i (h2 T d).len.2 (h2 V (h4 V qf)).len.2 (h2 T d).len.1 (h2 V (h4 V qf)).len.1 e
  subst this
  exact h5.1 g
def Vf(m:BV adr U):∀(l:Aw),Ha adr U old cb nb wb l
 |[]=>λG TT a T h c z j=>by
  refine⟨⟨λe=>(by cases e),h.2.cl _⟩,λk w=>?_⟩
  have e:k=(a.1.filter (λy=>decide (y≠Ae adr T)),Gr (Ae adr T) (-1) a.2):=by
   have Z:k=(Hm (Ae adr T) (-1) a.1,Gr (Ae adr T) (-1) a.2):=w;rw[Z,Hm,if_neg qi]
  subst e;refine⟨?_,h.2.bk (h.1.mem_iff.2 (yS j))⟩;have B:(GY adr T TT).map (Ae adr)=(TT.map (Ae adr)).filter (λy=>decide (y≠Ae adr T)):=by
   unfold GY;rw[YV];rfl
  rw[B];exact h.1.filter _
 |(.inl d,fs)::r=>λG TT a T h c z j=>by
  match G,c with
  |[],c=>exact(c T j).elim
  |g::G,c=>
   have ih:=Vf m r;have x:=c T j;obtain⟨C,I,H,Y,W,w6⟩:=c T j;have K:BG (.inl d,fs) [T]=(fs.filter (λf=>d.ts.all (AA T f))).map (λf=>T++[f]):=by simp[BG]
   have A:(BG (.inl d,fs) [T]).Nodup:=Ns (n:=(.inl d,fs)) (r:=r) (U:=U) (g:=g) (G:=G) (λT' h'=>by rw[yw.1 h'];exact x) qf;have v:∀V∈BG (.inl d,fs) [T],V∈BG (.inl d,fs) TT:=λV hV=>Yq.2 ⟨T,j,by simpa[BG] using hV⟩;have o:=Ns c z;have O:=Nd c;refine⟨⟨C.1,I,λf D=>(W f (H f D)).2,λe=>qo,λi f b hi aq L=>?_⟩,λk w=>?_⟩
   .have ar:(((fs.take i).filter (λf=>d.ts.all (AA T f))).map (λf=>T++[f]))++[T++[f]] <+: BG (.inl d,fs) [T]:=by
     rw[K];have B:fs.take (i+1)=fs.take i++[f]:=by
      rw[Yc,hi];rfl
     have e2:(((fs.take i).filter (λf=>d.ts.all (AA T f))).map (λf=>T++[f]))++[T++[f]]=((fs.take (i+1)).filter (λf=>d.ts.all (AA T f))).map (λf=>T++[f]):=by
      rw[B,yV,yQ (p:=λf=>d.ts.all (AA T f)) aq,Yu,yz];rfl
     rw[e2];exact((List.take_prefix _ _).filter _).map _
    obtain⟨rest,M⟩:=ar;obtain⟨Ps,ay⟩:=AF (((fs.take i).filter (λf=>d.ts.all (AA T f))).map (λf=>T++[f]));rw[<-ay]at M L;rw[<-M]at A v;have R:=(yL.1 A).1;have az:=(yL.1 R).1;have hl:=Ha.aJ m ih G Ps _ _ b h.2 O o (λV hV=>v V Nx) az L;have E:=v (T++[f]) qf;refine(ih G _ b (T++[f]) hl (λV hV=>O V (yh.1 hV).1) (o.filter _) (yh.2 ⟨E,?_⟩)).1;simp only[decide_eq_true_eq];intro q;obtain⟨V,hV,e⟩:=yv.1 q;have N:=O V (v V Nx);have:=LC m N.len.2 (O _ E).len.2 N.len.1 (O _ E).len.1 e;exact(yL.1 R).2.2 V hV (T++[f]) qf this
   .obtain⟨J,u⟩:k.1=Jf adr T (-1) a.1/\CE (Ee adr (-1) U cb nb wb r).stp ((fs.filter (λf=>d.ts.all (AA T f))).map (λf=>T++[f])) a.2 k.2:=w;rw[<-K]at u;refine⟨?_,?_⟩
    .rw[J,Jf,if_neg qi];exact h.1.filter _
    .rw[ox m c x];exact Ha.aJ m ih G _ _ _ _ h.2 O o v A u
 |(.inr d,fs)::r=>λG TT a T h c z j=>by
  match G,c with
  |[],c=>exact(c T j).elim
  |g::G,c=>
   have ih:=Vf m r;have x:=c T j;obtain⟨C,I,H,Y,W⟩:=c T j;have o:=Ns c z;have O:=Nd c;have hc:=h.2.1 T j;refine⟨⟨C,I,λf D=>Y f (H f D),λe=>qo,λ_=>⟨qd,λe=>?_⟩⟩,λk w=>?_⟩
   .exact(ih G _ _ T h.2.2 O o (yh.2 ⟨j,qe⟩)).1
   obtain⟨J,u,s⟩:k.1=Jf adr T (-1) a.1/\k.2.1=Im (Ae adr T) (if(-1:Int)=1 then(nBar d.ts fs T:Int) else 0) a.2.1/\(Ee adr (-1) U cb nb wb r).aB (if(-1:Int)=1 then nBar d.ts fs T else(AC (Ae adr T) a.2.1).toNat) T a.2.2 k.2.2:=w;rw[if_neg qi]at u s;refine⟨?_,λV hV=>?_,?_⟩
   .rw[J,Jf,if_neg qi];exact h.1.filter _
   .rw[u];obtain⟨hV,t⟩:=yh.1 hV;rw[VN (λe=>by rw[e]at t;simp at t)];exact h.2.1 V hV
   rw[ox m c x];unfold Du.aB at s;by_cases hz:nBar d.ts fs T=0
   .rw[if_pos qd]at s;have e:BG (.inr d,fs) [T]=[T]:=R_;rw[e,zpn];exact(ih G _ _ T h.2.2 O o (yh.2 ⟨j,by simp[hz]⟩)).2 _ s
   rw[if_neg qd]at s;have e:BG (.inr d,fs) [T]=[]:=R_;rw[e,gX,s];exact h.2.2
end
def H_(adr:F->Addr)(old:Av):(l:Aw)->Am->Am->DK l->Prop
 |[],_,TT,a=>a.1.Perm (TT.map (Ae adr))/\CP old a.1 a.2
 |(.inl d,_)::r,G,TT,a=>a.1.Perm TT/\H_ adr old r G.tail (BG (.inl d,G.headD []) TT) a.2
 |(.inr d,_)::r,G,TT,a=>a.1.Perm TT/\(∀T∈TT,AC (Ae adr T) a.2.1=(nBar d.ts (G.headD []) T:Int))/\H_ adr old r G.tail (BG (.inr d,G.headD []) TT) a.2.2
def JJ{adr old}:∀{l:Aw}{TT:Am}{a:DK l},H_ adr old l (l.map Prod.snd) TT a↔Lv adr old l TT a
 |[],_,_=>Iff.rfl
 |(.inl _,_)::_,_,_=>and_congr_right λ_=>JJ
 |(.inr _,_)::_,_,_=>and_congr_right λ_=>and_congr_right λ_=>JJ
def zI{α β:Type}(p)(h:α->β):∀l:List α,l.flatMap (λx=>if p x=true then [h x] else [])=(l.filter p).map h:=by intro l;induction l<;>grind
def ou{d f g fs}(h:fs.Perm (f::g))(TT):(BG (.inl d,fs) TT).Perm (BG (.inl d,g) TT++(TT.filter (λT=>d.ts.all (AA T f))).map (λT=>T++[f])):=by
 rw[<-zI];refine(zqe (.refl _) (λT _=>?_)).c (rS _ _ _);refine((h.filter _).map _).c ?_;by_cases a:d.ts.all (AA T f)=true
 .rw[yQ (p:=λf=>d.ts.all (AA T f)) a,if_pos a,yx];exact(Kv (l₁:=[_])).c (.refl _)
 rw[yT (p:=λf=>d.ts.all (AA T f)) a,if_neg a,yO]
def zq6{ts g fs}(h:fs.Perm g)(T):nBar ts fs T=nBar ts g T:=(h.filter _).length_eq
def RG{ts f g fs}(h:fs.Perm (f::g))(T):nBar ts fs T=nBar ts g T+(if ts.all (AA T f)=true then 1 else 0):=by
 rw[zq6 h];unfold nBar;by_cases a:ts.all (AA T f)=true
 .rw[yQ (p:=λf=>ts.all (AA T f)) a,if_pos a,Ya]
 rw[yT (p:=λf=>ts.all (AA T f)) a,if_neg a];rfl
def zmM{adr a b A B}(c:a.Perm b)(d:A.Perm B):(Ii adr a A).Perm (Ii adr b B):=by
 have e:Ii adr a A=Ii adr b A:=by
  unfold Ii;refine YS λV _=>?_;simp only[(c.map (Ae adr)).mem_iff]
 rw[e];exact d.filter _
def zoZ{adr U}(d:BV adr U){A a}(e:(A++a).Nodup)(b:∀T∈A++a,T.length<=3/\∀f∈T,f∈U):Ii adr a (A++a)=A:=by
 unfold Ii;rw[yV];have c:A.filter (λV=>decide (Ae adr V ∉ a.map (Ae adr)))=A:=Yp.2 λV hV=>by
  simp only[decide_eq_true_eq];intro q;rw[Nk d (λT i=>b T (by simp[i])) (b V Nx)]at q;exact(yL.1 e).2.2 V hV V q rfl
 have g:a.filter (λV=>decide (Ae adr V ∉ a.map (Ae adr)))=[]:=WQ.2 λV hV=>by
  simp only[decide_eq_true_eq];exactλq=>q (yS hV)
 rw[c,g,yO]
section
variable {adr : F -> Addr} {U : Ab} {old : Av} {cb nb wb : Nat}
def km(H:BV adr U){d fs g u r G f}{A TT:Am}{a}(hl:Lv adr old r (BG (.inl d,g) TT) a)(D:fs.Perm (f::g))(x:∀T∈TT,FI U ((.inl d,fs)::r) (u::G) T)(N:TT.Nodup)(J:A.Perm TT) :
  (∀(pre:Am)(T:Ab)(y:Am)(e:DK r),A.Perm (pre++T::y)->d.ts.all (AA T f)=true->CE (Ee adr 1 U cb nb wb r).stp ((pre.filter (λT=>d.ts.all (AA T f))).map (λT=>T++[f])) a e->(Ee adr 1 U cb nb wb r).ok (T++[f]) e) /\
  ∀(o:Am)(e:DK r),A.Perm o->CE (Ee adr 1 U cb nb wb r).stp ((o.filter (λT=>d.ts.all (AA T f))).map (λT=>T++[f])) a e->Lv adr old r (BG (.inl d,fs) TT) e:=by
 have n:=Tk (old:=old) (cb:=cb) (nb:=nb) (wb:=wb) H r;have O:=ou (d:=d) D TT;have i:=Nd x;have s:=Ns x N;have v:∀B,A.Perm B->(BG (.inl d,fs) TT).Perm (BG (.inl d,g) TT++(B.filter (λT=>d.ts.all (AA T f))).map (λT=>T++[f])):=λB K=>O.c ((Y2 _).append (((J.z.c K).filter _).map _));have t:∀T∈BG (.inl d,g) TT,FI U r G T:=λT M=>i T (O.mem_iff.2 (by simp[M]));refine⟨λpre T y e l E j=>?_,λo e l j=>?_⟩
 .have b:=v _ l;have k:=b.nodup_iff.1 s;rw[yV,yQ (p:=λT=>d.ts.all (AA T f)) E,yz,yx]at b k;obtain⟨I,C⟩:=AF ((pre.filter (λT=>d.ts.all (AA T f))).map (λT=>T++[f]));rw[<-C]at b k j;rw[<-yY]at k;obtain⟨w,_,L⟩:=yL.1 k;have m:=E7.aJ n G I _ _ _ hl t (λV hV=>i V (b.mem_iff.2 Nx)) w j;refine(n G _ e (T++[f]) m (λV hV=>i V (b.mem_iff.2 ?_)) w (i _ (b.mem_iff.2 qf)) (λq=>L _ q _ qf rfl)).1;rcases yp.1 hV with hV|hV<;>simp[hV]
 have b:=v _ l;exact(E7.aJ n G _ _ _ _ hl t (λV hV=>i V (b.mem_iff.2 (by simp only[yp];exact .inr hV))) (b.nodup_iff.1 s) j).perm b.z
def kw(l:BV adr U){d fs g u r G f}{A TT:Am}{a}(hl:Lv adr old r (BG (.inl d,g) TT) a)(C:g.Perm (f::fs))(w:∀T∈TT,FI U ((.inl d,g)::r) (u::G) T)(R:TT.Nodup)(J:A.Perm TT) :
  (∀(pre:Am)(T:Ab)(x:Am)(e:DK r),A.Perm (pre++T::x)->d.ts.all (AA T f)=true->CE (Ee adr (-1) U cb nb wb r).stp ((pre.filter (λT=>d.ts.all (AA T f))).map (λT=>T++[f])) a e->(Ee adr (-1) U cb nb wb r).ok (T++[f]) e) /\
  ∀(s:Am)(e:DK r),A.Perm s->CE (Ee adr (-1) U cb nb wb r).stp ((s.filter (λT=>d.ts.all (AA T f))).map (λT=>T++[f])) a e->Lv adr old r (BG (.inl d,fs) TT) e:=by
 have o:=Vf (old:=old) (cb:=cb) (nb:=nb) (wb:=wb) l r;have E:=ou (d:=d) C TT;have O:=Nd w;have k:=Ns w R;have v:∀B,A.Perm B->(BG (.inl d,g) TT).Perm (BG (.inl d,fs) TT++(B.filter (λT=>d.ts.all (AA T f))).map (λT=>T++[f])):=λB K=>E.c ((Y2 _).append (((J.z.c K).filter _).map _));refine⟨λpre T x e n D m=>?_,λs e n m=>?_⟩
 .have b:=v _ n;have j:=b.nodup_iff.1 k;rw[yV,yQ (p:=λT=>d.ts.all (AA T f)) D,yz,yx]at b j;obtain⟨I,y⟩:=AF ((pre.filter (λT=>d.ts.all (AA T f))).map (λT=>T++[f]));rw[<-y]at b j m;have H:=(yL.1 j).2.1;obtain⟨N,_,L⟩:=yL.1 H;have i:=Ha.aJ l o G I _ _ _ hl O k (λV hV=>b.mem_iff.2 Nx) N m;have t:T++[f]∈BG (.inl d,g) TT:=b.mem_iff.2 qf;refine(o G _ e (T++[f]) i (λV hV=>O V (yh.1 hV).1) (k.filter _) (yh.2 ⟨t,?_⟩)).1;simp only[decide_eq_true_eq];intro q;rw[Nk l (λV hV=>(O V (b.mem_iff.2 Nx)).len) (O _ t).len]at q;exact L _ q _ qf rfl
 have b:=v _ n;have j:=b.nodup_iff.1 k;have i:=Ha.aJ l o G _ _ _ _ hl O k (λV hV=>b.mem_iff.2 (by simp only[yp];exact .inr hV)) (yL.1 j).2.1 m;refine i.perm ?_;refine(zmM (.refl _) b).c ?_;rw[zoZ l j (λT M=>(O T (b.mem_iff.2 M)).len)]
def kI(s:BV adr U){d fs g u r G f}{A TT:Am}{B a}(hl:Lv adr old r (BG (.inr d,g) TT) a)(E:∀T∈TT,AC (Ae adr T) B=(nBar d.ts g T:Int))(R:fs.Perm (f::g))(l:∀T∈TT,FI U ((.inr d,g)::r) (u::G) T)(C:TT.Nodup)(O:A.Perm TT) :
  (∀(pre:Am)(T:Ab)(Z:Am)(m:DK r),A.Perm (pre++T::Z)->d.ts.all (AA T f)=true->AC (Ae adr T) B=0->CE (Ee adr (-1) U cb nb wb r).stp (pre.filter (λT=>d.ts.all (AA T f)&&decide (AC (Ae adr T) B=0))) a m->(Ee adr (-1) U cb nb wb r).ok T m) /\
  ∀(o:Am)(m:DK r),A.Perm o->CE (Ee adr (-1) U cb nb wb r).stp (o.filter (λT=>d.ts.all (AA T f)&&decide (AC (Ae adr T) B=0))) a m->Lv adr old r (BG (.inr d,fs) TT) m/\∀T∈TT,AC (Ae adr T) (Ew adr 1 (o.filter (λT=>d.ts.all (AA T f))) B)=(nBar d.ts fs T:Int):=by
 have H:=Vf (old:=old) (cb:=cb) (nb:=nb) (wb:=wb) s r;have t:=Nd l;have D:=Ns l C;have ai:∀J,A.Perm J->∀T∈J.filter (λT=>d.ts.all (AA T f)&&decide (AC (Ae adr T) B=0)),T∈BG (.inr d,g) TT:=λJ hB T j=>by
  obtain⟨n,I⟩:=yh.1 j;have v:=O.mem_iff.1 (hB.mem_iff.2 n);simp only[ym,decide_eq_true_eq]at I;have:=E T v;exact yh.2 ⟨v,qe⟩
 refine⟨λpre T Z m b c y x=>?_,λo m b x=>⟨?_,λT j=>?_⟩⟩
 .have i:=ai _ b;have w:=b.nodup_iff.1 (O.nodup_iff.2 C);obtain⟨n1,_,n3⟩:=yL.1 w;obtain⟨Ps,z⟩:=AF (pre.filter (λT=>d.ts.all (AA T f)&&decide (AC (Ae adr T) B=0)));have L:=i T (yh.2 ⟨qf,by simp[c,y]⟩);have aq:∀V∈Ps,V∈BG (.inr d,g) TT:=λV k=>i V (by rw[yV,<-z];simp[k]);rw[<-z]at x;have p:=Ha.aJ s H G Ps _ _ _ hl t D aq (by rw[z];exact n1.filter _) x;refine(H G _ m T p (λV k=>t V (yh.1 k).1) (D.filter _) (yh.2 ⟨L,?_⟩)).1;simp only[decide_eq_true_eq];intro q;rw[Nk s (λV k=>(t V (aq V k)).len) (t _ L).len]at q;rw[z]at q;exact n3 T (yh.1 q).1 T qf rfl
 .have w:=b.nodup_iff.1 (O.nodup_iff.2 C);have p:=Ha.aJ s H G _ _ _ _ hl t D (ai _ b) (w.filter _) x;refine p.perm (KP ?_);unfold Ii;show(TT.filter _).filter _=TT.filter _;rw[YC];refine YS λT j=>?_;have K:=E T j;have i:=RG (ts:=d.ts) R T;have M:Ae adr T∈(o.filter (λT=>d.ts.all (AA T f)&&decide (AC (Ae adr T) B=0))).map (Ae adr)↔(d.ts.all (AA T f)=true/\AC (Ae adr T) B=0):=by
   rw[Nk s (λV k=>(l V (O.mem_iff.1 (b.mem_iff.2 (yh.1 k).1))).len) (l T j).len,yh];simp only[ym,decide_eq_true_eq,and_iff_right_iff_imp];exactλ_=>b.mem_iff.1 (O.mem_iff.2 j)
  by_cases y:nBar d.ts g T=0
  .have hc:AC (Ae adr T) B=0:=qd;by_cases c:d.ts.all (AA T f)=true
   .rw[if_pos c]at i;have n:¬nBar d.ts fs T=0:=qd;simp only[M.2 ⟨c,hc⟩,n,not_true_eq_false,decide_false,Km]
   rw[if_neg c]at i;have n:nBar d.ts fs T=0:=qd;have I:¬Ae adr T∈(o.filter (λT=>d.ts.all (AA T f)&&decide (AC (Ae adr T) B=0))).map (Ae adr):=λq=>c (M.1 q).1;simp only[I,n,y,not_false_eq_true,decide_true,KB]
  have n:¬nBar d.ts fs T=0:=qd;simp only[n,y,decide_false,WI]
 have w:=b.nodup_iff.1 (O.nodup_iff.2 C);have i:=RG (ts:=d.ts) R T;have K:=E T j;have au:=b.mem_iff.1 (O.mem_iff.2 j);have aw:((o.filter (λT=>d.ts.all (AA T f))).map (Ae adr)).Nodup:=by
  refine Ks _ (λV W ar e=>?_) (List.Pairwise.and_mem.1 (w.filter (λT=>d.ts.all (AA T f))));obtain⟨v1,v2,v3⟩:=ar;have N:=(l V (O.mem_iff.1 (b.mem_iff.2 (yh.1 v1).1))).len;have Y:=(l W (O.mem_iff.1 (b.mem_iff.2 (yh.1 v2).1))).len;exact v3 (LC s N.2 Y.2 N.1 Y.1 e)
 by_cases c:d.ts.all (AA T f)=true
 .rw[if_pos c]at i;rw[gU adr 1 T _ B aw (yh.2 ⟨au,c⟩),K,i];simp
 rw[if_neg c]at i;rw[Rp adr 1 _ _ B (λq=>?_),K,i]
 .simp
 rw[Nk s (λV k=>(l V (O.mem_iff.1 (b.mem_iff.2 (yh.1 k).1))).len) (l T j).len]at q;exact c (yh.1 q).2
def kL(L:BV adr U){d fs g u r G f}{A TT:Am}{B a}(hl:Lv adr old r (BG (.inr d,g) TT) a)(D:∀T∈TT,AC (Ae adr T) B=(nBar d.ts g T:Int))(I:g.Perm (f::fs))(hw:∀T∈TT,FI U ((.inr d,fs)::r) (u::G) T)(hn:TT.Nodup)(C:A.Perm TT) :
  (∀(pre:Am)(T:Ab)(ai:Am)(l:DK r),A.Perm (pre++T::ai)->d.ts.all (AA T f)=true->AC (Ae adr T) B=1->CE (Ee adr 1 U cb nb wb r).stp (pre.filter (λT=>d.ts.all (AA T f)&&decide (AC (Ae adr T) B=1))) a l->(Ee adr 1 U cb nb wb r).ok T l) /\
  ∀(s:Am)(l:DK r),A.Perm s->CE (Ee adr 1 U cb nb wb r).stp (s.filter (λT=>d.ts.all (AA T f)&&decide (AC (Ae adr T) B=1))) a l->Lv adr old r (BG (.inr d,fs) TT) l/\∀T∈TT,AC (Ae adr T) (Ew adr (-1) (s.filter (λT=>d.ts.all (AA T f))) B)=(nBar d.ts fs T:Int):=by
 have J:=Tk (old:=old) (cb:=cb) (nb:=nb) (wb:=wb) L r;have O:∀T∈TT,FI U r G T:=λT i=>(hw T i).2.2.2.2;have M:∀T∈BG (.inr d,g) TT,FI U r G T:=λT i=>O T (yh.1 i).1;have aq:(BG (.inr d,g) TT).Nodup:=hn.filter _;have hcut:∀E,A.Perm E->E.Nodup/\(∀T∈E,T∈TT):=λE R=>⟨R.nodup_iff.1 (C.nodup_iff.2 hn),λT i=>C.mem_iff.1 (R.mem_iff.2 i)⟩
 have ah:∀(P:Am),P.Nodup->(∀T∈P,T∈TT)->(BG (.inr d,g) TT++P.filter (λT=>d.ts.all (AA T f)&&decide (AC (Ae adr T) B=1))).Nodup:=λP hP aw=>yL.2 ⟨aq,hP.filter _,λx hx y hy e=>by
  subst e;obtain⟨p,t⟩:=yh.1 hx;obtain⟨h3,h4⟩:=yh.1 hy;have:=D x p;simp only[ym,decide_eq_true_eq]at t h4;omega⟩
 refine⟨λpre T ai l o ht k H=>?_,λs l o H=>⟨?_,λT i=>?_⟩⟩
 .obtain⟨w,j⟩:=hcut _ o;obtain⟨n1,_,n3⟩:=yL.1 w;have Z:=ah pre n1 (λV hV=>j V Nx);have n:=E7.aJ J G _ _ _ _ hl M (λV hV=>O V (j V (by simp[(yh.1 hV).1]))) Z H;have v:=j T qf;refine(J G _ l T n (λV hV=>?_) Z (O T v) (λq=>?_)).1
  .rcases yp.1 hV with hV|hV
   .exact M V hV
   exact O V (j V (by simp[(yh.1 hV).1]))
  rcases yp.1 q with q|q
  .have p:=(yh.1 q).2;have:=D T v;simp only[decide_eq_true_eq]at p;omega
  exact n3 T (yh.1 q).1 T qf rfl
 .obtain⟨w,j⟩:=hcut _ o;have n:=E7.aJ J G _ _ _ _ hl M (λV hV=>O V (j V (yh.1 hV).1)) (ah s w j) H;refine n.perm ?_;refine((Y2 _).append ((o.z.c C).filter _)).c ?_;have e:BG (.inr d,g) TT=(BG (.inr d,fs) TT).filter (λT=>decide (nBar d.ts g T=0)):=by
   show TT.filter _=(TT.filter _).filter _;rw[YC];refine YS λT _=>?_;have m:=RG (ts:=d.ts) I T;by_cases k:nBar d.ts g T=0
   .have:nBar d.ts fs T=0:=qd;simp[k,this]
   simp[k]
  have e2:TT.filter (λT=>d.ts.all (AA T f)&&decide (AC (Ae adr T) B=1))=(BG (.inr d,fs) TT).filter (λT=>!decide (nBar d.ts g T=0)):=by
   show _=(TT.filter _).filter _;rw[YC];refine YS λT i=>?_;have m:=RG (ts:=d.ts) I T;have K:=D T i;by_cases ht:d.ts.all (AA T f)=true
   .rw[if_pos ht]at m;have p:¬nBar d.ts g T=0:=qd;by_cases k:nBar d.ts fs T=0
    .have t:AC (Ae adr T) B=1:=qd;simp only[ht,p,k,t,decide_true,decide_false,KB,Kr]
    have t:¬AC (Ae adr T) B=1:=qd;simp only[ht,p,k,t,decide_false,WI]
   rw[if_neg ht]at m;have N:d.ts.all (AA T f)=false:=OK;by_cases k:nBar d.ts g T=0
   .simp only[N,k,Km,decide_true,Wi]
   have:¬nBar d.ts fs T=0:=qd;simp only[N,this,Km,decide_false,WI]
  rw[e,e2];exact List.filter_append_perm _ _
 obtain⟨w,j⟩:=hcut _ o;have m:=RG (ts:=d.ts) I T;have K:=D T i;have ar:=o.mem_iff.1 (C.mem_iff.2 i);have b:∀V∈TT,V.length<=3/\∀f∈V,f∈U:=λV hV=>(hw V hV).len;have au:((s.filter (λT=>d.ts.all (AA T f))).map (Ae adr)).Nodup:=by
  refine Ks _ (λV W ao e=>?_) (List.Pairwise.and_mem.1 (w.filter (λT=>d.ts.all (AA T f))));obtain⟨v1,v2,v3⟩:=ao;have Y:=b V (j V (yh.1 v1).1);have q2:=b W (j W (yh.1 v2).1);exact v3 (LC L Y.2 q2.2 Y.1 q2.1 e)
 by_cases ht:d.ts.all (AA T f)=true
 .rw[if_pos ht]at m;rw[gU adr (-1) T _ B au (yh.2 ⟨ar,ht⟩),K,m];simp;omega
 rw[if_neg ht]at m;rw[Rp adr (-1) _ _ B (λq=>?_),K,m]
 .simp
 rw[Nk L (λV hV=>b V (j V (yh.1 hV).1)) (b T i)]at q;exact ht (yh.1 q).2
end
def FV(adr:F->Addr)(U:Ab)(cb nb wb:Nat):(l:Aw)->Aa->DK l->Prop
 |[],w,a=>CS w cb nb wb a.1 a.2
 |(.inl d,fs)::r,w,a=>O5 adr U d fs w/\Ao w d.tb (uv (a.1.map (Ae adr)))/\FV adr U cb nb wb r w a.2
 |(.inr d,fs)::r,w,a=>O4 adr U d fs w/\Ao w d.tb (uv (a.1.map (Ae adr)))/\Ao w d.bb (iv a.2.1)/\FV adr U cb nb wb r w a.2.2
def Lx(adr s U cb nb wb):∀(l:Aw)(w:Aa)(a:DK l),(Ee adr s U cb nb wb l).I w a↔FV adr U cb nb wb l w a
 |[],_,_=>Iff.rfl
 |(.inl _,_)::r,w,a=>and_congr_right λ_=>and_congr_right λ_=>Lx adr s U cb nb wb r w a.2
 |(.inr _,_)::r,w,a=>and_congr_right λ_=>and_congr_right λ_=>and_congr_right λ_=>Lx adr s U cb nb wb r w a.2.2
def Gn(nb wb:Nat):Aw->Nat->Prop
 |[],g=>g=nb∨g=wb
 |(.inl d,_)::r,g=>g=d.tb∨Gn nb wb r g
 |(.inr d,_)::r,g=>g=d.tb∨g=d.bb∨Gn nb wb r g
def I0(adr s U cb nb wb):∀(l:Aw)(g:Nat),(Ee adr s U cb nb wb l).S g↔Gn nb wb l g
 |[],_=>Iff.rfl
 |(.inl _,_)::r,g=>or_congr_right (I0 adr s U cb nb wb r g)
 |(.inr _,_)::r,g=>or_congr_right (or_congr_right (I0 adr s U cb nb wb r g))
def Jn:Aw->Nat
 |[]=>155
 |(.inl _,_)::_=>325
 |(.inr _,_)::_=>320
def Qv(cb:Nat):Aw->Nat
 |[]=>cb
 |(.inl d,_)::_=>d.nb
 |(.inr d,_)::_=>d.nb
def Rw(adr s U cb nb wb):∀(l:Aw),(Ee adr s U cb nb wb l).fn=Jn l/\(Ee adr s U cb nb wb l).r=Qv cb l
 |[]=>⟨rfl,rfl⟩
 |(.inl _,_)::_=>⟨rfl,rfl⟩
 |(.inr _,_)::_=>⟨rfl,rfl⟩
def Lo(cb nb wb:Nat):Aw->Prop
 |[]=>True
 |(.inl d,fs)::r=>JA d.hv (Jn r) (Qv cb r)/\d.ts.length<=1048576/\fs.length<=1000/\d.Y<3/\¬Gn nb wb r d.tb/\Lo cb nb wb r
 |(.inr d,fs)::r=>JA d.hv (Jn r) (Qv cb r)/\d.ts.length<=1048576/\fs.length<=1000/\d.tb≠d.bb/\¬Gn nb wb r d.tb/\¬Gn nb wb r d.bb/\Lo cb nb wb r
def Lo.ok{adr s U cb nb wb}:∀{l:Aw},Lo cb nb wb l->(∀n∈l,∀f∈n.2,f∈U)->Ob adr s U cb nb wb l
 |[],_,_=>trivial
 |(.inl d,fs)::r,⟨h1,h2,h3,h4,h5,h6⟩,hu=>by
  obtain⟨a,c⟩:=Rw adr s U cb nb wb r
  exact⟨by rw[a,c];exact h1,h2,h3,hu (.inl d,fs) qf,h4,λq=>h5 ((I0 adr s U cb nb wb r _).1 q),h6.ok (λn b=>hu n (by simp[b]))⟩
 |(.inr d,fs)::r,⟨h1,h2,h3,h4,h5,h6,h7⟩,hu=>by
  obtain⟨a,c⟩:=Rw adr s U cb nb wb r
  exact⟨by rw[a,c];exact h1,h2,h3,h4,λq=>h5 ((I0 adr s U cb nb wb r _).1 q),λq=>h6 ((I0 adr s U cb nb wb r _).1 q),h7.ok (λn b=>hu n (by simp[b]))⟩
def UT{adr U cb nb wb w}:∀{l:Aw}{a:DK l},FV adr U cb nb wb l w a->∀g,Gn nb wb l g->g<w.heap.size
 |[],_,h,g,b=>by
  rcases b with rfl|rfl
  .exact h.now.lt
  .exact h.ak.lt
 |(.inl d,_)::_,_,h,g,b=>by
  rcases b with rfl|b
  .exact h.2.1.lt
  .exact UT h.2.2 g b
 |(.inr d,_)::_,_,h,g,b=>by
  rcases b with rfl|rfl|b
  .exact h.2.1.lt
  .exact h.2.2.1.lt
  exact UT h.2.2.2 g b
def Hg(U:Ab):Aw->Am->Ab->Prop
 |[],_,T=>T.length<=3/\∀f∈T,f∈U
 |(.inl d,_)::r,g::G,T=>(T.length=d.Y/\T.length<3)/\(∀f∈T,f∈U)/\(∀f∈g,f∈U/\∀t∈d.ts,t.ah T f)/\∀f∈g,d.ts.all (AA T f)=true->Hg U r G (T++[f])
 |(.inr d,_)::r,g::G,T=>T.length<=3/\(∀f∈T,f∈U)/\(∀f∈g,f∈U/\∀t∈d.ts,t.ah T f)/\Hg U r G T
 |_::_,[],_=>False
def Da:Am->Am->Prop
 |[],[]=>True
 |g::G,u::V=>(∀f∈g,f∈u)/\g.Nodup/\Da G V
 |_,_=>False
def Hg.dF{U}:∀{l:Aw}{V:Am}{T:Ab},Hg U l V T->Da (l.map Prod.snd) V->FI U l V T
 |[],_,_,h,_=>h
 |(.inl _,_)::_,_::_,_,⟨h1,h2,h3,h4⟩,⟨s1,s2,s3⟩=>⟨h1,h2,s1,s2,h3,λf a b=>(h4 f a b).dF s3⟩
 |(.inr _,_)::_,_::_,_,⟨h1,h2,h3,h4⟩,⟨s1,_,s3⟩=>⟨h1,h2,s1,λf a=>(h3 f a).2,h4.dF s3⟩
 |(.inl _,_)::_,[],_,h,_=>h.elim
 |(.inr _,_)::_,[],_,h,_=>h.elim
theorem Hg.len{U}:∀{l:Aw}{V:Am}{T:Ab},Hg U l V T->T.length<=3/\∀f∈T,f∈U
 |[],_,_,h=>h
 |(.inl _,_)::_,_::_,_,h=>⟨V7 h.1.2,h.2.1⟩
 |(.inr _,_)::_,_::_,_,h=>⟨h.1,h.2.1⟩
 |(.inl _,_)::_,[],_,h=>h.elim
 |(.inr _,_)::_,[],_,h=>h.elim
def Hg.next{U n r u V g TT}(h:∀T∈TT,Hg U (n::r) (u::V) T)(j:∀f∈g,f∈u):∀T∈BG (n.1,g) TT,Hg U r V T:=by
 intro T b;rcases n with⟨d|d,fs⟩
 .obtain⟨O,c,e⟩:=Yq.1 b;obtain⟨f,a,rfl⟩:=yv.1 e;obtain⟨a,i⟩:=yh.1 a;exact(h O c).2.2.2 f (j f a) i
 exact(h T (yh.1 b).1).2.2.2
def rE{n:DL}{g TT}(j:g.Nodup)(c:TT.Nodup):(BG (n.1,g) TT).Nodup:=by
 rcases n with⟨d|d,fs⟩
 .refine rB c (λT l=>?_) (λT _ k _ hne z hz O=>?_)
  .exact Ks _ (λa b i e=>i (To e).2) (j.filter _)
  exact tW
 exact c.filter _
def IA:DL->Bool × Nat
 |(.inl d,_)=>(false,d.nb)
 |(.inr d,_)=>(true,d.nb)
def Uk:DL->Nat
 |(.inl d,_)=>d.bR
 |(.inr d,_)=>d.bR
theorem F7.W{u w a xs}(h:F7 none u a xs)(e:CK u w):F7 none w a xs:=λi x d=>by
 obtain⟨b,o,r,f,_,g,k,c⟩:=h i x d;exact⟨b,o,r,f,Qb.ac _ _ _,g,λj v hj=>e.cell (k j v hj),c⟩
theorem DG.W{u w nb x a c}(h:DG u nb x a c)(b:CK u w):DG w nb x a c:=by
 refine⟨b.cell h.c0,b.cell h.c1,b.cell h.c2,?_⟩;exact h.tt.W b
def Hp(s:Int)(p:Bool)(f:F)(g fs:Ab):Prop:=if p=true then(if s=1 then fs.Perm (f::g) else g.Perm (f::fs)) else fs=g
def gp{α:Type}{q:α->Bool}(l:List α):l.filter (λx=>false&&q x)=[]:=qf
def Z_{α:Type}{q}(l:List α):l.filter (λx=>true&&q x)=l.filter q:=qf
section
variable {adr : F -> Addr} {U : Ab} {old : Av} {cb nb wb : Nat}
def Uw(adr:F->Addr)(U:Ab)(old:Av)(cb nb wb:Nat)(l:Aw)(G TT:Am)(w:Aa)(e:Ending)(w':Aa):Prop:=
 e=.returned (.tuple #[])/\(∃a':DK l,FV adr U cb nb wb l w' a'/\H_ adr old l G TT a')/\CK w w'/\AM (Gn nb wb l) w w'
def te(h:P:=by show∀T∈TT,AC (Ae adr T) a.2.1=(nBar d.ts fs T:Int);rw[e2];exact ah):=h
def tF(h:P:=by show H_ adr old r (r.map Prod.snd) (BG (.inr d,fs) TT) a';rw[JJ,<-e,e2];exact af):=h
def ztd(G:BV adr U)(s)(hs:s=1∨s = -1)(f)(au:f∈U)(z aa ac)(M:z.y.length<=1048576)(n r g u V TT a w)(hI:FV adr U cb nb wb (n::r) w a)(hL:H_ adr old (n::r) (g::r.map Prod.snd) TT a)(hW:Lo cb nb wb (n::r))(hu:∀m∈n::r,∀f∈m.2,f∈U)(ad:∀T∈TT,Hg U (n::r) (u::V) T)(aA:Da ((n::r).map Prod.snd) (u::V))(ar:(∀f∈g,f∈u)/\g.Nodup/\g.length<=900)(H:TT.Nodup)(ax:Ah z f=true->f∈u)(b:Hp s (Ah z f) f g n.2)(hN:DG w (Uk n) z aa ac) :
  Ca (LU (IA n).1) #[Pn ((IA n).2),.pointer (some (adr f)),I6 s] w (Uw adr U old cb nb wb (n::r) (n.2::r.map Prod.snd) TT w):=by
 have D:∀T∈TT,FI U (n::r) (u::V) T:=λT k=>(ad T k).dF aA;have aq:∀T∈TT,FI U ((n.1,g)::r) (u::V) T:=λT k=>by
  have h:=D T k;rcases n with⟨d|d,fs⟩
  .obtain⟨h1,h2,_,_,h5,h6⟩:=h;exact⟨h1,h2,ar.1,ar.2.1,h5,h6⟩
  obtain⟨h1,h2,_,h4,h5⟩:=h;exact⟨h1,h2,ar.1,h4,h5⟩
 have J:∀(s':Int)(B:Nat),(Ee adr s' U cb nb wb r).S B->B<w.heap.size:=λs' B q=>by
  refine UT hI B ?_;rcases n with⟨d|d,fs⟩
  .exact .inr ((I0 adr s' U cb nb wb r B).1 q)
  exact .inr (.inr ((I0 adr s' U cb nb wb r B).1 q))
 rcases n with⟨d|d,fs⟩
 .obtain⟨p,hM,ao⟩:=hI;obtain⟨x,af⟩:=hL;have af:H_ adr old r (r.map Prod.snd) (BG (.inl d,g) TT) a.2:=af;rw[JJ]at af;obtain⟨k1,k2,k3,k4,k5,k6⟩:=hW;have hG:=Rv adr s hs U cb nb wb r (Lo.ok k6 (λm N=>hu m (by simp[N])));obtain⟨e1,e2⟩:=Rw adr s U cb nb wb r;have E:∀T∈a.1,T∈TT:=λT k=>x.mem_iff.1 k;refine(zsT (Ee adr s U cb nb wb r) adr s hG d.nb d.bR d.tb d.Y d.ng d.up d.hv d.ta aa d.tc ac d.ts z a.1 f a.2 w p.q (by rw[e1,e2];exact k1) hN (p.us f au).1 (p.us f au).2 M p.jt k2 k4 (λT k=>?_) (λO T k=>((D T (E T k)).2.2.2.2.1 f (ax O)).2) hM ((Lx adr s U cb nb wb r w a.2).2 ao) (λq=>k5 ((I0 adr s U cb nb wb r _).1 q)) (J s) (λO=>?_)).j λe w' q=>?_
  .have:=(D T (E T k)).len;exact⟨(D T (E T k)).1.1,Td p.us this.2 this.1,Rk p.us this.2⟩
  .unfold Hp at b;rw[if_pos O]at b;rcases hs with rfl|rfl
   .rw[if_pos rfl]at b;exact(km (cb:=cb) (nb:=nb) (wb:=wb) G af b D H x).1
   rw[if_neg qi]at b;exact(kw (cb:=cb) (nb:=nb) (wb:=wb) G af b aq H x).1
  obtain⟨I,⟨Z,a',R,v,K⟩,L,A,q7⟩:=q;refine⟨I,⟨(a.1,a'),⟨p.W A,L,(Lx adr s U cb nb wb r w' a').1 K⟩,x,?_⟩,A,q7.j λB ak=>.inr ((I0 adr s U cb nb wb r B).1 ak)⟩;show H_ adr old r (r.map Prod.snd) (BG (.inl d,fs) TT) a';rw[JJ];unfold Hp at b;by_cases O:Ah z f=true
  .rw[if_pos O]at b;rw[O]at v;rw[Z_]at v;rcases hs with rfl|rfl
   .rw[if_pos rfl]at b;exact(km (cb:=cb) (nb:=nb) (wb:=wb) G af b D H x).2 Z a' R v
   rw[if_neg qi]at b;exact(kw (cb:=cb) (nb:=nb) (wb:=wb) G af b aq H x).2 Z a' R v
  rw[if_neg O]at b;rw[show Ah z f=false by simpa using O,gp]at v;have e:a.2=a':=v;rw[<-e,show fs=g from b];exact af
 obtain⟨p,hM,hB,ao⟩:=hI;obtain⟨x,ah,af⟩:=hL;have af:H_ adr old r (r.map Prod.snd) (BG (.inr d,g) TT) a.2.2:=af;have ah:∀T∈TT,AC (Ae adr T) a.2.1=(nBar d.ts g T:Int):=ah;rw[JJ]at af;obtain⟨k1,k2,k3,k4,k5,k6,k7⟩:=hW;have az:∀m∈r,∀f∈m.2,f∈U:=λm N=>hu m (by simp[N]);have E:∀T∈a.1,T∈TT:=λT k=>x.mem_iff.1 k;have ab:∀T∈a.1,E_ w (.pointer (T[0]?.map adr)) (.pointer (T[1]?.map adr)) (.pointer (T[2]?.map adr)) T/\A_ w (Ae adr T):=λT k=>by
  have:=(D T (E T k)).len;exact⟨Td p.us this.2 this.1,Rk p.us this.2⟩
 have ay:∀T:Ab,nBar d.ts g T<=900:=λT=>yi (Yi _ _) ar.2.2;have aw:Ah z f=true->∀T∈a.1,∀t∈d.ts,t.ah T f:=λO T k=>((ad T (E T k)).2.2.1 f (ax O)).2;unfold Hp at b;rcases hs with rfl|rfl
 .have hG:=Rv adr (-1) (.inr rfl) U cb nb wb r (Lo.ok k7 az);obtain⟨e1,e2⟩:=Rw adr (-1) U cb nb wb r;refine(zrx (Ee adr (-1) U cb nb wb r) adr hG d.nb d.bR d.tb d.bb d.ng d.ct d.up d.hv d.ta aa d.tc ac d.ts z a.1 f a.2.1 a.2.2 w p.q (by rw[e1,e2];exact k1) hN (p.us f au).1 M p.jt k2 ab aw hM hB k4 (λO T k _=>⟨_,ah T (E T k),yi (ay T) qi⟩) ((Lx adr (-1) U cb nb wb r w a.2.2).2 ao) (λq=>k5 ((I0 adr (-1) U cb nb wb r _).1 q)) (λq=>k6 ((I0 adr (-1) U cb nb wb r _).1 q)) (J (-1)) (λO=>?_)).j λe w' q=>?_
  .rw[if_pos O,if_pos rfl]at b;exact(kI (cb:=cb) (nb:=nb) (wb:=wb) G af ah b aq H x).1
  obtain⟨I,⟨Z,a',R,v,K,C⟩,L,A,q7⟩:=q;have am:AM (Gn nb wb ((.inr d,fs)::r)) w w':=q7.j λB ak=>by
   rcases ak with h|h
   .exact .inr (.inl h)
   exact .inr (.inr ((I0 adr (-1) U cb nb wb r B).1 h))
  by_cases O:Ah z f=true
  .rw[if_pos O,if_pos rfl]at b;rw[O]at v C;rw[Z_]at v C;obtain⟨r1,r2⟩:=(kI (cb:=cb) (nb:=nb) (wb:=wb) G af ah b aq H x).2 Z a' R v;exact⟨I,⟨(a.1,_,a'),⟨p.W A,L,C,(Lx adr (-1) U cb nb wb r w' a').1 K⟩,x,r2,JJ.2 r1⟩,A,am⟩
  rw[if_neg O]at b;rw[show Ah z f=false by simpa using O,gp]at v C;have e:a.2.2=a':=v;have e2:fs=g:=b;refine⟨I,⟨(a.1,a.2.1,a'),⟨p.W A,L,C,(Lx adr (-1) U cb nb wb r w' a').1 K⟩,x,?_,?_⟩,A,am⟩
  .exact te
  exact tF
 have hG:=Rv adr 1 (.inl rfl) U cb nb wb r (Lo.ok k7 az);obtain⟨e1,e2⟩:=Rw adr 1 U cb nb wb r;refine(zqo (Ee adr 1 U cb nb wb r) adr hG d.nb d.bR d.tb d.bb d.ng d.ct d.up d.hv d.ta aa d.tc ac d.ts z a.1 f a.2.1 a.2.2 w p.q (by rw[e1,e2];exact k1) hN (p.us f au).1 M p.jt k2 ab aw hM hB k4 (λO T k aB=>?_) ((Lx adr 1 U cb nb wb r w a.2.2).2 ao) (λq=>k5 ((I0 adr 1 U cb nb wb r _).1 q)) (λq=>k6 ((I0 adr 1 U cb nb wb r _).1 q)) (J 1) (λO=>?_)).j λe w' q=>?_
 .rw[if_pos O,if_neg qi]at b;have N:=RG (ts:=d.ts) (show g.Perm (f::fs) from b) T;rw[if_pos aB]at N;refine⟨nBar d.ts fs T,?_,?_⟩
  .rw[ah T (E T k),N];simp
  have:=ay T;omega
 .rw[if_pos O,if_neg qi]at b;exact(kL (cb:=cb) (nb:=nb) (wb:=wb) G af ah b D H x).1
 obtain⟨I,⟨Z,a',R,v,K,C⟩,L,A,q7⟩:=q;have am:AM (Gn nb wb ((.inr d,fs)::r)) w w':=q7.j λB ak=>by
  rcases ak with h|h
  .exact .inr (.inl h)
  exact .inr (.inr ((I0 adr 1 U cb nb wb r B).1 h))
 by_cases O:Ah z f=true
 .rw[if_pos O,if_neg qi]at b;rw[O]at v C;rw[Z_]at v C;obtain⟨r1,r2⟩:=(kL (cb:=cb) (nb:=nb) (wb:=wb) G af ah b D H x).2 Z a' R v;exact⟨I,⟨(a.1,_,a'),⟨p.W A,L,C,(Lx adr 1 U cb nb wb r w' a').1 K⟩,x,r2,JJ.2 r1⟩,A,am⟩
 rw[if_neg O]at b;rw[show Ah z f=false by simpa using O,gp]at v C;have e:a.2.2=a':=v;have e2:fs=g:=b;refine⟨I,⟨(a.1,a.2.1,a'),⟨p.W A,L,C,(Lx adr 1 U cb nb wb r w' a').1 K⟩,x,?_,?_⟩,A,am⟩
 .exact te
 exact tF
def XY(G:BV adr U)(s)(A:s=1∨s = -1)(f)(J:f∈U)(k v x)(l:k.y.length<=1048576)(n:DL)(r g u V w)(O:Da ((n::r).map Prod.snd) (u::V))(H:(∀f∈g,f∈u)/\g.Nodup/\g.length<=900)(z:Ah k f=true->f∈u)(C:Hp s (Ah k f) f g n.2)(K:DG w (Uk n) k v x):∀(b:Aw)(i o TT:Am)(a:DK (b++n::r)),FV adr U cb nb wb (b++n::r) w a->H_ adr old (b++n::r) (i++g::r.map Prod.snd) TT a->Lo cb nb wb (b++n::r)->(∀m∈b++n::r,∀f∈m.2,f∈U)->(∀T∈TT,Hg U (b++n::r) (o++u::V) T)->Da i o->i.length=b.length->TT.Nodup ->
  Ca (LU (IA n).1) #[Pn ((IA n).2),.pointer (some (adr f)),I6 s] w (Uw adr U old cb nb wb (b++n::r) (i++n.2::r.map Prod.snd) TT w)
 |[],[],[],TT,a,hI,hL,hW,hu,hwf,_,_,hn=>ztd G s A f J k v x l n r g u V TT a w hI hL hW hu hwf O H hn z C K
 |[],_::_,_,_,_,_,_,_,_,_,_,hl,_=>by simp at hl
 |[],[],_::_,_,_,_,_,_,_,_,hs1,_,_=>hs1.elim
 |_::_,[],_,_,_,_,_,_,_,_,_,hl,_=>by simp at hl
 |_::_,_::_,[],_,_,_,_,_,_,_,hs1,_,_=>hs1.elim
 |(.inl d,fs)::b,g0::i,u0::o,TT,a,⟨i1,i2,i3⟩,⟨p1,p2⟩,⟨k1,k2,k3,k4,k5,k6⟩,hu,hwf,⟨b1,b2,b3⟩,hl,hn=>by
  refine(XY G s A f J k v x l n r g u V w O H z C K b i o (BG (.inl d,g0) TT) a.2 i3 p2 k6 (λm t=>hu m (by simp at t⊢;exact .inr t)) (Hg.next (n:=(.inl d,fs)) (r:=b++n::r) (u:=u0) hwf b1) b3 (by simpa using hl) (rE (n:=(.inl d,fs)) b2 hn)).j λe w' q=>?_
  obtain⟨B,⟨I,E,D⟩,c,p⟩:=q
  exact⟨B,⟨(a.1,I),⟨i1.W c,i2.aD p c k5,E⟩,p1,D⟩,c,p.j λ_ h=>.inr h⟩
 |(.inr d,fs)::b,g0::i,u0::o,TT,a,⟨i1,i2,i3,i4⟩,⟨p1,p2,p3⟩,⟨k1,k2,k3,k4,k5,k6,k7⟩,hu,hwf,⟨b1,b2,b3⟩,hl,hn=>by
  refine(XY G s A f J k v x l n r g u V w O H z C K b i o (BG (.inr d,g0) TT) a.2.2 i4 p3 k7 (λm t=>hu m (by simp at t⊢;exact .inr t)) (Hg.next (n:=(.inr d,fs)) (r:=b++n::r) (u:=u0) hwf b1) b3 NB (rE (n:=(.inr d,fs)) b2 hn)).j λe w' q=>?_
  obtain⟨B,⟨I,E,D⟩,c,p⟩:=q
  exact⟨B,⟨(a.1,a.2.1,I),⟨i1.W c,i2.aD p c k5,i3.aD p c k6,E⟩,p1,p2,D⟩,c,p.j λ_ h=>.inr (.inr h)⟩
end
def XB:DL->Value
 |(.inl d,_)=>d.up
 |(.inr d,_)=>d.up
def Dt(l:Aw):List (Bool × Nat):=(l.map IA).reverse
def UN{adr U cb nb wb w}:∀{l:Aw}{a:DK l}{j:Nat}{n:DL},FV adr U cb nb wb l w a->l[j]?=some n->At w ((IA n).2) 4 (XB n)
 |[],_,_,_,_,hn=>by simp at hn
 |(.inl d,fs)::r,a,0,n,h,hn=>by
  simp at hn
  subst hn
  exact Bf (L:=[_,_,_,_,_,_,_]) h.1.q (j:=4) rfl
 |(.inr d,fs)::r,a,0,n,h,hn=>by
  simp at hn
  subst hn
  exact Bf (L:=[_,_,_,_,_,_,_,_]) h.1.q (j:=4) rfl
 |(.inl d,fs)::r,a,j+1,n,h,hn=>UN h.2.2 (by simpa using hn)
 |(.inr d,fs)::r,a,j+1,n,h,hn=>UN h.2.2.2 (by simpa using hn)
def QI(l:Aw):Prop:=∀(j:Nat)(n:DL),l[j]?=some n->XB n=CV (Dt l) (l.length-j)
theorem Da.len:∀{G V:Am},Da G V->G.length=V.length
 |[],[],_=>rfl
 |_::_,_::_,h=>by rw[Ya,Ya,h.2.2.len]
 |[],_::_,h=>h.elim
 |_::_,[],h=>h.elim
theorem Da.cut:∀{b c V:Am},Da (b++c) V->∃O a,V=O++a/\Da b O/\Da c a
 |[],_,V,h=>⟨[],V,rfl,trivial,h⟩
 |_::_,_,[],h=>h.elim
 |_::b,_,u::V,⟨h1,h2,h3⟩=>by
  obtain⟨O,a,rfl,d,e⟩:=Da.cut h3
  exact⟨u::O,a,rfl,⟨h1,h2,d⟩,e⟩
def Da.dk{O b a c}(h:Da (O++b) (a++c))(hl:O.length=a.length):Da O a/\Da b c:=by grind[Da,Da.len,Da.cut,List.append_inj]
def Om(s:Int)(f:F)(w:Aa):Aw->Am->Am->Prop
 |[],[],[]=>True
 |n::r,g::G,u::V=>(∃al aa ac,al.y.length<=1048576/\DG w (Uk n) al aa ac/\Hp s (Ah al f) f g n.2/\(Ah al f=true->f∈u))/\(∀f∈g,f∈u)/\g.Nodup/\g.length<=900/\Om s f w r G V
 |_,_,_=>False
theorem Om.cut{s f w}:∀{c:Aw}{n:DL}{r:Aw}{G V:Am},Om s f w (c++n::r) G V->∃O g e b u d,G=O++g::e/\V=b++u::d/\O.length=c.length/\Da O b/\(∃a l p,a.y.length<=1048576/\DG w (Uk n) a l p/\Hp s (Ah a f) f g n.2/\(Ah a f=true->f∈u))/\(∀f∈g,f∈u)/\g.Nodup/\g.length<=900
 |[],n,r,g::G,u::V,⟨h1,h2,h3,h4,_⟩=>⟨[],g,G,[],u,V,rfl,rfl,rfl,trivial,h1,h2,h3,h4⟩
 |m::c,n,r,g::G,u::V,⟨_,h2,h3,_,h5⟩=>by
  obtain⟨O,q,e,b,i,d,rfl,rfl,k,j,o⟩:=Om.cut h5
  exact⟨g::O,q,e,u::b,i,d,rfl,rfl,by simp[k],⟨h2,h3,j⟩,o⟩
 |[],_,_,[],_,h=>h.elim
 |[],_,_,_::_,[],h=>h.elim
 |_::_,_,_,[],_,h=>h.elim
 |_::_,_,_,_::_,[],h=>h.elim
theorem Om.len{s f w}:∀{l:Aw}{G V:Am},Om s f w l G V->G.length=l.length
 |[],[],[],_=>rfl
 |_::_,_::_,_::_,h=>by rw[Ya,Ya,h.2.2.2.2.len]
 |[],_::_,_,h=>h.elim
 |[],[],_::_,h=>h.elim
 |_::_,[],_,h=>h.elim
 |_::_,_::_,[],h=>h.elim
def og{l}(h:(l.map (λn=>(IA n).2)).Nodup):((Dt l).map Prod.snd).Nodup:=by
 unfold Dt
 grind
section
variable {adr : F -> Addr} {U : Ab} {old : Av} {cb nb wb : Nat}
def vO(adr:F->Addr)(U:Ab)(old:Av)(cb nb wb:Nat)(l:Aw)(G TT:Am)(w:Aa)(k:Nat)(u:Aa):Prop:=
 CK w u/\AM (Gn nb wb l) w u/\∃a:DK l,FV adr U cb nb wb l u a/\H_ adr old l (G.take (l.length-k)++(l.map Prod.snd).drop (l.length-k)) TT a
def ztq(hA:BV adr U)(s)(hs:s=1∨s = -1)(f)(aC:f∈U)(l G V TT a K w)(hI:FV adr U cb nb wb l w a)(hL:H_ adr old l G TT a)(hW:Lo cb nb wb l)(hu:∀m∈l,∀f∈m.2,f∈U)(L:∀T∈TT,Hg U l V T)(hn:TT.Nodup)(ai:Da (l.map Prod.snd) V)(hT:Om s f w l G V)(aG:QI l)(aA:(l.map (λn=>(IA n).2)).Nodup)(aH:At w K 0 (CV (Dt l) 0)) :
  Ca 305 #[Pn K,.pointer (some (adr f)),I6 s] w λe w'=>e=.returned (.tuple #[])/\CK w w'/\AM (Gn nb wb l) w w'/\∃A:DK l,FV adr U cb nb wb l w' A/\Lv adr old l TT A:=by
 have ab:=hT.len;have Y:(Dt l).length=l.length:=by simp[Dt]
 refine(zs9 K (Dt l) (some (adr f)) s (vO adr U old cb nb wb l G TT w) (og aA) w ⟨λ_ _ _ _ h=>h,AM.refl _ _,a,hI,?_⟩ aH ?_).j λe w' q=>?_
 .rw[Nat.sub_zero,List.drop_of_length_le qf,yO,yR qd];exact hL
 .intro k nn u y hP;have aD:k<l.length:=by rw[<-Y];exact(yf.1 y).1
  obtain⟨j,hj⟩:=AF (l.length-1-k);have H:j<l.length:=qd;obtain⟨n,O⟩:=Bq H;have aF:nn=IA n:=by
   unfold Dt at y;rw[Ky (by simpa using aD),yE,yu,<-hj,O]at y;simpa using y.z
  subst aF;have hcut:l=l.take j++n::l.drop (j+1):=by
   have i:=List.take_append_drop j l;rw[WX H]at i;have p:l[j]=n:=by simpa[H] using O
   rw[p]at i;exact i.z
  have B:(l.take j).length=j:=by simp;omega
  obtain⟨d,M⟩:=AF (l.take j);obtain⟨r,aB⟩:=AF (l.drop (j+1));rw[<-M,<-aB]at hcut;rw[<-M]at B;have ah:=aG j n O;have ar:l.length-j=k+1:=qd;rw[ar]at ah;subst hcut;obtain⟨o,g,D,V1,u0,R,rfl,rfl,t,N,⟨al,aa,ac,t1,t2,t3,t4⟩,t5,t6,t7⟩:=hT.cut;obtain⟨Z,aE,b,ay,J⟩:=hP;have ax:d.length=(d.map Prod.snd).length:=qf;have az:(d++n::r).length-k=d.length+1:=by rw[B];omega
  have au:(d++n::r).length-(k+1)=d.length:=by rw[B];omega
  rw[az]at J;have eG:(o++g::D).take (d.length+1)++((d++n::r).map Prod.snd).drop (d.length+1)=o++g::r.map Prod.snd:=by
   have i:(o++g::D).take (d.length+1)=o++[g]:=by
    rw[<-t,List.take_length_add_append];rfl
   have p:((d++n::r).map Prod.snd).drop (d.length+1)=r.map Prod.snd:=by
    rw[yz,yx,ax,List.drop_length_add_append];rfl
   rw[i,p];simp
  rw[eG]at J;have ao:Da ((n::r).map Prod.snd) (u0::R):=by
   rw[yz]at ai;exact(ai.dk (by rw[yu,<-t,N.len])).2
  refine(XY hA s hs f aC al aa ac t1 n r g u0 R u ao ⟨t5,t6,t7⟩ t4 t3 (t2.W Z) d o V1 TT b ay J hW hu L N t hn).j λe u' q=>?_;obtain⟨C,⟨b',v,E⟩,I,x⟩:=q;refine⟨C,⟨Z.c I,aE.c x,b',v,?_⟩,?_⟩
  .rw[au];have i:(o++g::D).take d.length=o:=by
    rw[<-t,List.take_left]
   have p:((d++n::r).map Prod.snd).drop d.length=n.2::r.map Prod.snd:=by
    rw[yz,yx,ax,List.drop_left]
   rw[i,p];exact E
  rw[UN v O,ah]
 obtain⟨C,v,E,A,I,x⟩:=q;refine⟨C,v,E,A,I,?_⟩;rw[Y,Ko,Wk,Yg,WV]at x;exact JJ.1 x
end
structure Dc(w:Aa) (a:Addr) (f:F):Prop where
 Y:DJ w (.pointer (some a)) f
 pt:BB w (some a)
 sl:∀sa n sc,w.cell? ⟨a.block,a.off+2,none⟩=some (.slice sa n sc)->∀vb vo,sa=some ⟨vb,vo,none⟩->f.v≠[]->∃c fr,w.heap[vb]?=some (.cells c 187 fr)
def Dc.keep{w w' a f}(h:Dc w a f)(s:∀(g:Nat)c t j,w.heap[g]?=some (.cells c t j)->(t=145∨t=187)->w'.heap[g]?=some (.cells c t j)):Dc w' a f:=by
 obtain⟨⟨b,o,e,I,J,sa,u,B,G⟩,D,y⟩:=h;injection e with e;injection e with e;subst e;obtain⟨c,p⟩:=D _ rfl;have x:w'.heap[b]?=w.heap[b]?:=(s b _ _ _ p (.inl rfl)).c p.z;have key:∀i,w'.cell? ⟨b,i,none⟩=w.cell? ⟨b,i,none⟩:=λi=>yP (w:=w) x;refine⟨⟨b,o,rfl,(key _).c I,(key _).c J,sa,u,(key _).c B,λi v hv=>?_⟩,λM l=>?_,λL n K C d k e m=>?_⟩
 .obtain⟨d,k,e,E,v1,v2⟩:=G i v hv;obtain⟨A,j,O⟩:=y sa _ u B d k e (λq=>by rw[q]at hv;simp at hv);have H:w'.heap[d]?=w.heap[d]?:=(s d _ _ _ O (.inr rfl)).c O.z;have r:∀i,w'.cell? ⟨d,i,none⟩=w.cell? ⟨d,i,none⟩:=λi=>yP (w:=w) H;exact⟨d,k,e,(r _).c E,(r _).c v1,(r _).c v2⟩
 .injection l with l;subst l;exact⟨c,x.c p⟩
 rw[key]at C;obtain⟨A,j,O⟩:=y L n K C d k e m;exact⟨A,j,s d _ _ _ O (.inr rfl)⟩
theorem Dc.W{w w' a f}(h:Dc w a f)(d:CK w w'):Dc w' a f:=h.keep λg c t b e _=>d g c t b e
theorem Dc.e{w w' a f}(h:Dc w a f)(b:Bw w w'):Dc w' a f:=h.W (CK.u b)
def Dc.ft{base w w' a f}(h:Dc w a f)(e:EB base w w'):Dc w' a f:=h.keep λg c t d b ht=>e.kept g c t d b qB qB
def Jg(adr:F->Addr)(U:Ab)(w:Aa):Prop:=∀f∈U,Dc w (adr f) f
def Jg.J{adr U w}(h:Jg adr U w):Ch adr U w:=λf a=>⟨(h f a).Y,(h f a).pt⟩
theorem Jg.W{adr U w w'}(h:Jg adr U w)(a:CK w w'):Jg adr U w':=λf b=>(h f b).W a
def Jg.ft{base adr U w w'}(h:Jg adr U w)(a:EB base w w'):Jg adr U w':=λf b=>(h f b).ft a
def Ao.ft{base w w' b L}(h:Ao w b L)(d:EB base w w'):Ao w' b L:=by
 obtain⟨es,a,k,i⟩:=h.Y;exact⟨⟨es,a,d.ao b _ k (λ_ _ _ e=>qo),i⟩,h.nd,λy f=>(h.ok y f).bc λg c j=>d.kept g c _ _ j qi qi⟩
def CS.ft{base w w' cb nb wb T M}(h:CS w cb nb wb T M)(a:EB base w w'):CS w' cb nb wb T M:=⟨a.kept _ _ _ _ h.q qi qi,h.now.ft a,h.ak.ft a,h.ne⟩
def zrP(base n mb z t L a V Q s f w r)(ay:s=.pointer (some r))(hF:Dc w r f)(E:NF w base n mb z t L a V (λ_=>Q))(hB:base<=w.heap.size)(hL:L.length<=1000)(hQ:Q.length<=1000)(G:∀x∈L,x.1.y.length<=1048576) :
  Ca 91 #[.pointer (some ⟨n,0,none⟩),s] w λe w'=>e=.returned (.tuple #[])/\(∃V',NF w' base n mb z t L a V' (λ_=>Q++[(s,f)]))/\EB base w w':=by
 subst ay;obtain⟨fb,fo,rfl⟩:∃fb fo,r=⟨fb,fo,none⟩:=by
  obtain⟨fb,fo,h,_⟩:=hF.Y;injection h with h;injection h with h;exact⟨fb,fo,h⟩
 obtain⟨HF,HN,M,ax⟩:=BP hF E G (mK hF.Y);obtain⟨⟨g0,g1⟩,_,az⟩:=E.box.J;go_enter func91,ntmps91;go_wp2_with fail
 go_loopw [11] (λiv wr=>∃(k:Nat)(V':Aj),iv=.int .i64 (k:Int)/\k<=L.length/\NF wr base n mb z t L a V' (λi=>if i<k then Q++[(.pointer (some ⟨fb,fo,none⟩),f)] else Q)/\EB base w wr) (mz L.length)
 .exact t_
 obtain⟨k,V',rfl,aD,R,B⟩:=hrel;obtain⟨NR,FR⟩:=An R B;have aB:=B.rest.size;by_cases m:k<L.length
 .obtain⟨x,q⟩:=Bq m;obtain⟨nb,A⟩:∃b,a[k]?=some b:=⟨a[k]'(by rw[NR.o.aW];exact m),qf⟩
  obtain⟨v,hv⟩:∃v,V'[k]?=some v:=⟨V'[k]'(by rw[NR.o.aP];exact m),qf⟩
  obtain⟨rb,rfl,_,r0,_⟩:=CG NR.row (show(Gb a)[k]?=some (.pointer (some ⟨nb,0,none⟩)) by simp[Gb,A]);obtain⟨d,n2,⟨fa,fc,rfl⟩,l⟩:=NR.node k x nb v q A hv;simp only[WR,if_false]at hv d l;obtain⟨H,U,N⟩:=d.nd (NR.aM x (yd q));have HP:=Ad (RX nb x.1 H U (.pointer (some ⟨fb,fo,none⟩)) f wr N (HF.ft FR).Y (M x (yd q)));have aa:(C8 x.1 Q).length<=1000:=yi (Yi _ _) hQ;obtain⟨z0,z1⟩:=CZ m;obtain⟨HX,ak,ai⟩:=AK q A hv;cases hm:Ah x.1 f
  .exact tj
  have HM:=Ad hm;rw[hm]at HP;go_wp2_with fail;refine HP.rtn λw3 O=>?_;obtain⟨N3,F3⟩:=An (NR.C O) (FR.c (EB.u O qd));have aC:=O.size;obtain⟨d,_,_,l⟩:=N3.node k x nb _ HX ak ai;simp only[WR,if_false]at l;obtain⟨N1,D⟩:=An d l;obtain⟨⟨_,_,_,y4⟩,_,W⟩:=d.J;have j:=Ad (λo=>Au.alloc Bg o:∀o,Bw w3 (w3.alloc o));have aA:∀o,(w3.alloc o).cell? ⟨nb,4,none⟩=some (.slice fa (C8 x.1 Q).length fc):=λo=>zab (j o) y4;obtain⟨K,Z⟩:=An (λo=>(show Gk (w3.alloc o) nb x k (.slice fa (C8 x.1 Q).length fc) from((j o).block nb W).c N1)) (λo g I=>A7 (AZ D (j o)) (k:=g) I);have aj:base<=w3.heap.size:=qd;go_upto_region 5 with(first|(at_builtin;refine Dp qh (.tmp 22) (.tmp 24) 199 qh base 106 _ 1 8 underlying199 kP qh qd _ (C8 x.1 Q).length _ qh (AZ D (j _)) (some ⟨_,0,none⟩) 1 1 qh [.pointer (some ⟨fb,fo,none⟩)] qh (λe=>qo) (CH _ _ _ _ qD) uj qj qd (yi aj (j _).size) ?_;intro a7 c7 T ho7 hg7 hl7;have N7:=Ad (show Gk T nb x k (.slice fa (C8 x.1 Q).length fc) from E5 (K _) hg7 (Z _) qi);obtain⟨_,z4,_⟩:=N7.J)|fail);exact tr
 have au:k=L.length:=qd;subst au;exact ix
structure N5 where
 nb:Nat
 tb:Nat
 bb:Nat
abbrev AS:=List N5
abbrev Vw:=Nat->Af × Nat × Ab
def Fo(c:Cx)(x:N5):Value:=IY (c.cp.neg,x.nb)
def OU (c:Cx) (x:N5):Value:=.func (.method "loop.example/s01311/impl.take") #[Fo c x] #[]
def Fd(cb:Nat):Value:=.func (.func 155) #[.pointer (some ⟨cb,0,none⟩)] #[]
def ut(vw:Vw)(c:Cx)(x:N5)(up hv:Value):N_:=⟨x.nb,c.node,x.tb,.bool false,up,hv,c.cp.Y,c.ta,c.tc,(vw c.node).1,(vw c.node).2.1,c.cp.y⟩
def Ul(vw:Vw)(c:Cx)(x:N5)(up hv:Value):N6:=⟨x.nb,c.node,x.tb,x.bb,.bool true,.int .i64 (c.cp.Y:Int),up,hv,c.ta,c.tc,(vw c.node).1,(vw c.node).2.1,c.cp.y⟩
def OP(vw:Vw)(c:Cx)(x:N5)(up hv:Value):DL:=(match c.cp.neg with|true=>.inr (Ul vw c x up hv)|false=>.inl (ut vw c x up hv),(vw c.node).2.2)
def J5{vw c x up hv}(h:c.cp.neg=false):OP vw c x up hv=(.inl (ut vw c x up hv),(vw c.node).2.2):=by
 unfold OP;rw[h]
def J1{vw c x up hv}(h:c.cp.neg=true):OP vw c x up hv=(.inr (Ul vw c x up hv),(vw c.node).2.2):=by
 unfold OP;rw[h]
def MU(hl:Value):Ak->AS->Value
 |c::_,x::_=>OU c x
 |_,_=>hl
def AJ(vw:Vw)(hl:Value):Value->Ak->AS->Aw
 |up,c::cs,x::xs=>OP vw c x up (MU hl cs xs)::AJ vw hl (Fo c x) cs xs
 |_,_,_=>[]
def ZK{vw hl}:∀{up:Value}{cs:Ak}{xs:AS},xs.length=cs.length->(AJ vw hl up cs xs).length=cs.length
 |_,[],[],_=>rfl
 |_,_::_,_::_,h=>by
  rw[AJ,Ya,Ya,ZK (by simpa using h)]
 |_,[],_::_,h=>by simp at h
 |_,_::_,[],h=>by simp at h
def Py{vw hl}:∀{up:Value}{cs:Ak}{xs:AS},xs.length=cs.length->(AJ vw hl up cs xs).map Prod.snd=cs.map (λc=>(vw c.node).2.2)
 |_,[],[],_=>rfl
 |_,_::_,_::_,h=>by
  rw[AJ,yx,yx,Py (by simpa using h)]
  rfl
 |_,[],_::_,h=>by simp at h
 |_,_::_,[],h=>by simp at h
def io(h:P:=by
 cases h:c.cp.neg
 .rw[J5 h];rfl
 rw[J1 h];rfl
 ):=h
def Rd(vw c x up hv):IA (OP vw c x up hv)=(c.cp.neg,x.nb):=by
 exact io
def xk(vw c x up hv):Uk (OP vw c x up hv)=c.node:=by
 exact io
def xD(vw c x up hv):XB (OP vw c x up hv)=up:=by
 exact io
def UV:Aw->Aw->Prop
 |[],[]=>True
 |(.inl d,_)::r,(.inl d',_)::r'=>d'.tb=d.tb/\d'.ts=d.ts/\UV r r'
 |(.inr d,_)::r,(.inr d',_)::r'=>d'.tb=d.tb/\d'.bb=d.bb/\d'.ts=d.ts/\UV r r'
 |_,_=>False
def oP{vw vw' hl}:∀{up:Value}{cs:Ak}{xs:AS},UV (AJ vw hl up cs xs) (AJ vw' hl up cs xs)
 |_,[],[]=>trivial
 |_,c::cs,x::xs=>by
  have O:=oP (vw:=vw) (vw':=vw') (hl:=hl) (up:=Fo c x) (cs:=cs) (xs:=xs)
  rw[AJ,AJ]
  cases h:c.cp.neg
  .rw[J5 h,J5 h]
   exact⟨rfl,rfl,O⟩
  .rw[J1 h,J1 h]
   exact⟨rfl,rfl,rfl,O⟩
 |_,[],_::_=>trivial
 |_,_::_,[]=>trivial
def ST(adr:F->Addr)(U:Ab)(w:Aa):DL->Prop
 |(.inl d,fs)=>O5 adr U d fs w
 |(.inr d,fs)=>O4 adr U d fs w
def RU{adr adr' T}(h:∀f∈T,adr' f=adr f):Ae adr' T=Ae adr T:=by
 have key:∀i:Nat,T[i]?.map adr'=T[i]?.map adr:=λi=>by
  cases a:T[i]? with
  |none=>rfl
  |some f=>simp[h f (yd a)]
 simp only[Ae,key]
def ztD{d a g}(h:a.ts=d.ts)(TT):BG (.inl a,g) TT=BG (.inl d,g) TT:=by
 simp only[BG,h]
def zr9{d a g}(h:a.ts=d.ts)(TT):BG (.inr a,g) TT=BG (.inr d,g) TT:=by
 simp only[BG,h]
def Hs{adr adr' U v old cb nb wb w w'}(O:∀f∈U,adr' f=adr f){Sx:Nat->Prop}(k:∀b L,Sx b->Ao w b L->Ao w' b L)(p:∀K M,CS w cb nb wb K M->CS w' cb nb wb K M):∀(l l':Aw)(G V TT:Am)(a:DK l),(∀g,Gn nb wb l g->Sx g)->UV l l'->FV adr U cb nb wb l w a->H_ adr old l G TT a->(∀n∈l',ST adr' v w' n)->(∀T∈TT,Hg U l V T)->Da G V->G.length=l.length->∃i:DK l',FV adr' v cb nb wb l' w' i/\H_ adr' old l' G TT i
 | [],[],_,_,TT,a,_,_,hI,hL,_,hw,_,_=>⟨a,p _ _ hI,by
  refine⟨hL.1.c (KP ?_),hL.2⟩
  exact Ym λT e=>(RU λf j=>O f ((hw T e).2 f j)).z⟩
 |(.inl d,fs)::r,(.inl d',fs')::r',g::G,u::V,TT,a,hx,⟨e1,e2,e3⟩,⟨i1,i2,i3⟩,⟨l1,l2⟩,hm,hw,⟨s1,s2,s3⟩,hlen=>by
  obtain⟨i,m,o⟩:=Hs O k p r r' G V (BG (.inl d,g) TT) a.2 (λy q=>hx y (.inr q)) e3 i3 l2 (λn s=>hm n (by simp[s])) (Hg.next (n:=(.inl d,fs)) (u:=u) hw s1) s3 Qn
  refine⟨(a.1,i),⟨hm (.inl d',fs') qf,?_,m⟩,l1,?_⟩
  .have t:a.1.map (Ae adr')=a.1.map (Ae adr):=Ym λT e=>RU λf j=>O f (((hw T (l1.mem_iff.1 e)).len).2 f j)
   rw[t,e1]
   exact k _ _ (hx _ (.inl rfl)) i2
  .show H_ adr' old r' G (BG (.inl d',g) TT) i
   rw[ztD e2]
   exact o
 |(.inr d,fs)::r,(.inr d',fs')::r',g::G,u::V,TT,a,hx,⟨e1,e2,e3,e4⟩,⟨i1,i2,i3,i4⟩,⟨l1,l2,l3⟩,hm,hw,⟨s1,s2,s3⟩,hlen=>by
  obtain⟨i,m,o⟩:=Hs O k p r r' G V (BG (.inr d,g) TT) a.2.2 (λy q=>hx y (.inr (.inr q))) e4 i4 l3 (λn s=>hm n (by simp[s])) (Hg.next (n:=(.inr d,fs)) (u:=u) hw s1) s3 Qn
  refine⟨(a.1,a.2.1,i),⟨hm (.inr d',fs') qf,?_,?_,m⟩,l1,λT e=>?_,?_⟩
  .have t:a.1.map (Ae adr')=a.1.map (Ae adr):=Ym λT e=>RU λf j=>O f (((hw T (l1.mem_iff.1 e)).len).2 f j)
   rw[t,e1]
   exact k _ _ (hx _ (.inl rfl)) i2
  .rw[e2]
   exact k _ _ (hx _ (.inr (.inl rfl))) i3
  .rw[RU (λf j=>O f (((hw T e).len).2 f j))]
   show AC (Ae adr T) a.2.1=(nBar d'.ts g T:Int)
   rw[e3]
   exact l2 T e
  .show H_ adr' old r' G (BG (.inr d',g) TT) i
   rw[zr9 e3]
   exact o
 |[],_::_,_,_,_,_,_,h,_,_,_,_,_,_=>h.elim
 |(.inl _,_)::_,[],_,_,_,_,_,h,_,_,_,_,_,_=>h.elim
 |(.inr _,_)::_,[],_,_,_,_,_,h,_,_,_,_,_,_=>h.elim
 |(.inl _,_)::_,(.inr _,_)::_,_,_,_,_,_,h,_,_,_,_,_,_=>h.elim
 |(.inr _,_)::_,(.inl _,_)::_,_,_,_,_,_,h,_,_,_,_,_,_=>h.elim
 |(.inl _,_)::_,(.inl _,_)::_,[],[],_,_,_,_,_,_,_,_,_,hl=>by simp at hl
 |(.inr _,_)::_,(.inr _,_)::_,[],[],_,_,_,_,_,_,_,_,_,hl=>by simp at hl
 |(.inl _,_)::_,(.inl _,_)::_,[],_::_,_,_,_,_,_,_,_,_,hs,_=>hs.elim
 |(.inr _,_)::_,(.inr _,_)::_,[],_::_,_,_,_,_,_,_,_,_,hs,_=>hs.elim
 |(.inl _,_)::_,(.inl _,_)::_,_::_,[],_,_,_,_,_,_,_,_,hs,_=>hs.elim
 |(.inr _,_)::_,(.inr _,_)::_,_::_,[],_,_,_,_,_,_,_,_,hs,_=>hs.elim
def CT(c:Cx):Bool:=c.cp.neg
def JT(c:Cx)(T:Ab)(f:F):Bool:=c.cp.y.all (AA T f)
abbrev Cu(g:Cx->Ab)(X:Ak)(T V:Ab):Prop:=Gq CT JT g X T V
abbrev QM(g:Cx->Ab)(f:F)(k:Nat)(X:Ak)(T V:Ab):Prop:=Sd CT JT g f k X T V
abbrev Oc(f:F)(k:Nat)(X:Ak)(T V:Ab):Prop:=Mu CT JT f k X T V
def gZ(Z:SN)(c:Cx):Ab:=(Z.vw c.node).2.2
def Ov{g:Ab}{c T}:g.any (λf=>c.cp.y.all (AA T f))=false↔∀x∈g,JT c T x=false:=by simp[AA,JT]
def Zt{Z k c cs T}(h:c.cp.neg=true):Ed Z k (c::cs) T=if GI Z k c T=true/\(Z.vw c.node).2.2.any (λf=>c.cp.y.all (AA T f))=false then Ed Z (k+1) cs T else []:=by
 rw[Ed,if_pos h]
def Zi{Z k c cs T}(h:c.cp.neg=false):Ed Z k (c::cs) T=(Fm Z k c).flatMap (λf=>if c.cp.y.all (AA T f)=true then Ed Z (k+1) cs (T++[f]) else []):=by
 rw[Ed,if_neg TX]
def ZO(Z):∀(cs:Ak)(k:Nat)(T V:Ab),(∀i,i<cs.length->Z.sa≠((k+i:Nat):Int))->(V∈Ed Z k cs T↔∃W,V=T++W/\Cu (gZ Z) cs T W)
 |[],k,T,V,_=>by
  simp only[Ed,yw,Cu,Gq]
  exact⟨λh=>⟨[],by simp[h],rfl⟩,λ⟨W,h,e⟩=>by rw[h,e,yO]⟩
 |c::cs,k,T,V,h=>by
  have l:¬Z.sa=(k:Int):=by simpa using h 0 qf
  have ih:=λT=>ZO Z cs (k+1) T V (λi hi=>by
   have:=h (i+1) T8
   rwa [show k+(i+1)=k+1+i by omega]at this)
  cases d:c.cp.neg
  .rw[Zi d]
   have e:Fm Z k c=gZ Z c:=by
    unfold Fm;rw[if_neg l];rfl
   rw[e,Yq];constructor
   .rintro⟨f,j,b⟩;split at b
    .rename_i g;obtain⟨W,rfl,a⟩:=(ih _).1 b;exact⟨f::W,qf,(Jh (show CT c=false from d)).2 ⟨f,W,rfl,j,g,a⟩⟩
    simp at b
   rintro⟨W,rfl,a⟩;obtain⟨f,m,rfl,j,g,O⟩:=(Jh (show CT c=false from d)).1 a;exact⟨f,j,by rw[if_pos (show c.cp.y.all (AA T f)=true from g)];exact(ih _).2 ⟨m,qf,O⟩⟩
  rw[Zt d];have e:GI Z k c T=true:=by
   unfold GI;rw[if_neg l]
  rw[e];constructor
  .intro b;split at b
   .rename_i g;obtain⟨W,rfl,a⟩:=(ih _).1 b;exact⟨W,rfl,(I_ (show CT c=true from d)).2 ⟨Ov.1 g.2,a⟩⟩
   simp at b
  rintro⟨W,rfl,a⟩;obtain⟨n,O⟩:=(I_ (show CT c=true from d)).1 a;rw[if_pos ⟨rfl,Ov.2 n⟩];exact(ih _).2 ⟨W,rfl,O⟩
def m9(Z f)(o:Z.sf=some f):∀(cs:Ak)(k i:Nat)(T V:Ab),i<cs.length->Z.sa=((k+i:Nat):Int)->(V∈Ed Z k cs T↔∃W,V=T++W/\QM (gZ Z) f i cs T W)
 |[],_,_,_,_,h,_=>by simp at h
 |c::cs,k,0,T,V,_,h=>by
  have j:Z.sa=(k:Int):=qu
  have ih:=λT=>ZO Z cs (k+1) T V (λi hi=>qd)
  cases g:c.cp.neg
  .rw[Zi g]
   have e:Fm Z k c=[f]:=by
    unfold Fm;rw[if_pos j,o];rfl
   rw[e];simp only[yX,YY,yO];constructor
   .intro b;split at b
    .rename_i d;obtain⟨W,rfl,a⟩:=(ih _).1 b;exact⟨f::W,qf,(SU (show CT c=false from g)).2 ⟨W,rfl,d,a⟩⟩
    simp at b
   rintro⟨W,rfl,a⟩;obtain⟨m,rfl,d,O⟩:=(SU (show CT c=false from g)).1 a;rw[if_pos (show c.cp.y.all (AA T f)=true from d)];exact(ih _).2 ⟨m,qf,O⟩
  .rw[Zt g];have e:GI Z k c T=c.cp.y.all (AA T f):=by
    unfold GI;rw[if_pos j,o]
   rw[e];constructor
   .intro b;split at b
    .rename_i d;obtain⟨W,rfl,a⟩:=(ih _).1 b;exact⟨W,rfl,(S0 (show CT c=true from g)).2 ⟨d.1,Ov.1 d.2,a⟩⟩
    simp at b
   .rintro⟨W,rfl,a⟩;obtain⟨d,n,O⟩:=(S0 (show CT c=true from g)).1 a;rw[if_pos ⟨d,Ov.2 n⟩];exact(ih _).2 ⟨W,rfl,O⟩
 |c::cs,k,i+1,T,V,hi,h=>by
  have j:¬Z.sa=(k:Int):=qd;have ih:=λT=>m9 Z f o cs (k+1) i T V T8 (by rw[h];omega);cases g:c.cp.neg
  .rw[Zi g];have e:Fm Z k c=gZ Z c:=by
    unfold Fm;rw[if_neg j];rfl
   rw[e,Yq];constructor
   .rintro⟨x,l,b⟩;split at b
    .rename_i d;obtain⟨W,rfl,a⟩:=(ih _).1 b;exact⟨x::W,qf,(Pk (show CT c=false from g)).2 ⟨x,W,rfl,l,d,a⟩⟩
    simp at b
   rintro⟨W,rfl,a⟩;obtain⟨x,m,rfl,l,d,O⟩:=(Pk (show CT c=false from g)).1 a;exact⟨x,l,by rw[if_pos (show c.cp.y.all (AA T x)=true from d)];exact(ih _).2 ⟨m,qf,O⟩⟩
  rw[Zt g];have e:GI Z k c T=true:=by
   unfold GI;rw[if_neg j]
  rw[e];constructor
  .intro b;split at b
   .rename_i d;obtain⟨W,rfl,a⟩:=(ih _).1 b;exact⟨W,rfl,(Pg (show CT c=true from g)).2 ⟨Ov.1 d.2,a⟩⟩
   simp at b
  rintro⟨W,rfl,a⟩;obtain⟨n,O⟩:=(Pg (show CT c=true from g)).1 a;rw[if_pos ⟨rfl,Ov.2 n⟩];exact(ih _).2 ⟨W,rfl,O⟩
def UR(Z):∀(cs:Ak)(k:Nat)(T:Ab),Ff (cs.map (CB Z.U)) T->(∀c∈cs,∀x∈gZ Z c,x∈Z.U/\Ah c.cp.H x=true)->(∀(i:Nat)(c:Cx),cs[i]?=some c->Z.sa=((k+i:Nat):Int)->∃f,Z.sf=some f/\f∈Z.U/\Ah c.cp.H f=true)->Lh Z k cs T
 |[],_,_,_,_,_=>trivial
 |c::cs,k,T,h,hg,hs=>by
  rw[yx]at h
  obtain⟨s,v,o,g⟩:=h
  have t:∀(i:Nat)(d:Cx),cs[i]?=some d->Z.sa=((k+1+i:Nat):Int)->∃f,Z.sf=some f/\f∈Z.U/\Ah d.cp.H f=true:=λi d hd r=>hs (i+1) d qz (by rw[r];omega)
  have ih:=λT h=>UR Z cs (k+1) T h (λd hd=>hg d LE) t
  have O:∀x,x∈Z.U->Ah c.cp.H x=true->x∈(CB Z.U c).J:=λx q p=>yh.2 ⟨q,p⟩
  have n:Z.sa=(k:Int)->∃f,Z.sf=some f/\f∈Z.U/\Ah c.cp.H f=true:=λe=>hs 0 c rfl (by simpa using e)
  refine⟨s,v,λf a=>o f (O f (hg c qf f a).1 (hg c qf f a).2),λe=>?_,?_⟩
  .obtain⟨f,m,l,j⟩:=n e
   exact⟨f,m,o f (O f l j)⟩
  by_cases b:c.cp.neg=true
  .rw[if_pos b]
   rw[if_pos (show(CB Z.U c).neg=true from b)]at g
   exact ih T g
  rw[if_neg b]
  rw[if_neg (show¬(CB Z.U c).neg=true from b)]at g
  intro f a u
  refine ih _ (g f ?_ u)
  unfold Fm at a
  split at a
  .rename_i e
   obtain⟨w,m,l,j⟩:=n e
   rw[m]at a
   simp at a
   subst a
   exact O f l j
  exact O f (hg c qf f a).1 (hg c qf f a).2
def zv4{t T f}(V)(h:t.ah T f):AA (T++V) f t=AA T f t:=by
 obtain⟨_,g,a,_⟩:=h;unfold AA
 grind
def zs6{t:Jt}{T f}(V)(h:t.ah T f):t.ah (T++V) f:=by
 obtain⟨O,g,a,b⟩:=h;exact⟨O,g,by rw[yr (yf.1 a).1];exact a,b⟩
def mX{c T f}(V)(h:∀t∈c.cp.y,t.ah T f):JT c (T++V) f=JT c T f:=by grind[Jt.ah,AA,JT]
def Vq{U g f}:∀{cs:Ak}{k:Nat}{T V:Ab}{c:Cx},cs[k]?=some c->Ff (cs.map (CB U)) T->(∀c∈cs,∀x∈g c,x∈U/\Ah c.cp.H x=true)->f∈U->Ah c.cp.H f=true->c.cp.neg=true->Cu g cs T V->((Oc f k cs T V↔JT c (T++V) f=true)/\∀t∈c.cp.y,t.ah (T++V) f)
 |[],_,_,_,_,h,_,_,_,_,_,_=>by simp at h
 |d::cs,0,T,V,c,h,hs,hg,hU,hp,hn,hV=>by
  simp at h
  subst h
  rw[yx]at hs
  obtain⟨_,_,q,_⟩:=hs
  have a:=q f (yh.2 ⟨hU,hp⟩)
  refine⟨⟨λb=>?_,λhl=>?_⟩,λt j=>zs6 V (a t j)⟩
  .rw[mX V a]
   exact b.2
  .rw[mX V a]at hl
   exact⟨hn,hl⟩
 |d::cs,k+1,T,V,c,h,hs,hg,hU,hp,hn,hV=>by
  rw[yx]at hs
  obtain⟨_,_,_,i⟩:=hs
  have m:∀c∈cs,∀x∈g c,x∈U/\Ah c.cp.H x=true:=λe o=>hg e (by simp[o])
  cases hd:d.cp.neg
  .obtain⟨x,l,rfl,n,j,p⟩:=(Jh (show CT d=false from hd)).1 hV
   rw[if_neg (show¬(CB U d).neg=true by show¬d.cp.neg=true;rw[hd];decide)]at i
   have r:=hg d qf x n
   have O:=Vq qu (i x (yh.2 r) j) m hU hp hn p
   rw[show T++x::l=(T++[x])++l by simp]
   refine⟨?_,O.2⟩
   rw[<-O.1]
   constructor
   .intro b
    obtain⟨s,u,e,b⟩:=(SR (show CT d=false from hd)).1 b
    cases e
    exact b
   exactλb=>(SR (show CT d=false from hd)).2 ⟨x,l,rfl,b⟩
  rw[if_pos (show(CB U d).neg=true from hd)]at i
  have O:=Vq qu i m hU hp hn ((I_ (show CT d=true from hd)).1 hV).2
  exact⟨(U7 (show CT d=true from hd)).c O.1,O.2⟩
def On{U g}:∀{cs:Ak}{T V:Ab},Ff (cs.map (CB U)) T->(∀c∈cs,∀x∈g c,x∈U/\Ah c.cp.H x=true)->Cu g cs T V->T.length<=3->(∀f∈T,f∈U)->(T++V).length<=3/\∀f∈T++V,f∈U
 |[],T,V,_,_,h,h3,hT=>by
  rw[show V=[] from h,yO]
  exact⟨h3,hT⟩
 |d::cs,T,V,hs,hg,hV,h3,hT=>by
  rw[yx]at hs
  obtain⟨_,o,_,b⟩:=hs
  have O:∀c∈cs,∀x∈g c,x∈U/\Ah c.cp.H x=true:=λe l=>hg e (by simp[l])
  cases hd:d.cp.neg
  .obtain⟨x,j,rfl,k,n,m⟩:=(Jh (show CT d=false from hd)).1 hV
   rw[if_neg (show¬(CB U d).neg=true by show¬d.cp.neg=true;rw[hd];decide)]at b
   have i:=hg d qf x k
   rw[show T++x::j=(T++[x])++j by simp]
   refine On (b x (yh.2 i) n) O m ?_ (λf a=>?_)
   .have:=o hd
    simp
    omega
   rcases yp.1 a with a|a
   .exact hT f a
   rw[yw.1 a]
   exact i.1
  rw[if_pos (show(CB U d).neg=true from hd)]at b
  exact On b O ((I_ (show CT d=true from hd)).1 hV).2 h3 hT
def Dh(nb wb:Nat):Ak->AS->A5
 |c::cs,x::xs=>(match c.cp.neg with|true=>[x.tb,x.bb]|false=>[x.tb])++Dh nb wb cs xs
 |_,_=>[nb,wb]
def Ji{vw hl nb wb g}:∀{up:Value}{cs:Ak}{xs:AS},Gn nb wb (AJ vw hl up cs xs) g↔g∈Dh nb wb cs xs
 |_,[],[]=>by simp[AJ,Gn,Dh]
 |_,[],_::_=>by simp[AJ,Gn,Dh]
 |_,_::_,[]=>by simp[AJ,Gn,Dh]
 |_,c::cs,x::xs=>by
  have O:=Ji (vw:=vw) (hl:=hl) (nb:=nb) (wb:=wb) (g:=g) (up:=Fo c x) (cs:=cs) (xs:=xs)
  rw[AJ,Dh]
  cases h:c.cp.neg
  .rw[J5 h]
   simp only[Gn,Yz,Yg,yW,O]
   rfl
  rw[J1 h]
  simp only[Gn,Yz,Yg,yW,O]
  rfl
def zC{vw cb}:∀{up:Value}{cs:Ak}{xs:AS},JA (MU (Fd cb) cs xs) (Jn (AJ vw (Fd cb) up cs xs)) (Qv cb (AJ vw (Fd cb) up cs xs))
 |_,[],[]=>.inr (.inr ⟨rfl,rfl⟩)
 |_,[],_::_=>.inr (.inr ⟨rfl,rfl⟩)
 |_,_::_,[]=>.inr (.inr ⟨rfl,rfl⟩)
 |_,c::cs,x::xs=>by
  rw[AJ,MU]
  cases h:c.cp.neg
  .rw[J5 h]
   refine .inl ⟨?_,rfl⟩
   unfold OU Fo IY
   rw[h]
   rfl
  rw[J1 h]
  refine .inr (.inl ⟨?_,rfl⟩)
  unfold OU Fo IY
  rw[h]
  rfl
def UO{vw cb nb wb}:∀{up:Value}{cs:Ak}{xs:AS},(Dh nb wb cs xs).Nodup->(∀c∈cs,c.cp.y.length<=6/\(vw c.node).2.2.length<=900/\(c.cp.neg=false->c.cp.Y<3))->Lo cb nb wb (AJ vw (Fd cb) up cs xs)
 |_,[],[],_,_=>trivial
 |_,[],_::_,_,_=>trivial
 |_,_::_,[],_,_=>trivial
 |_,c::cs,x::xs,hn,hc=>by
  obtain⟨a,e,f⟩:=hc c qf
  rw[Dh]at hn
  have O:=UO (vw:=vw) (cb:=cb) (nb:=nb) (wb:=wb) (up:=Fo c x) (cs:=cs) (xs:=xs) (yL.1 hn).2.1 (λd hd=>hc d LE)
  have b:=zC (vw:=vw) (cb:=cb) (up:=Fo c x) (cs:=cs) (xs:=xs)
  rw[AJ]
  cases h:c.cp.neg
  .rw[h]at hn
   rw[J5 h]
   simp only[Yz,Yg,Yo]at hn
   exact⟨b,yi a qi,yi e qi,f h,λq=>hn.1 (Ji.1 q),O⟩
  rw[h]at hn
  rw[J1 h]
  simp only[Yz,Yg,Yo,yW,not_or]at hn
  exact⟨b,yi a qi,yi e qi,hn.1.1,λq=>hn.1.2 (Ji.1 q),λq=>hn.2.1 (Ji.1 q),O⟩
def XN{vw hl}:∀{up:Value}{cs:Ak}{xs:AS}{j:Nat}{n:DL},(AJ vw hl up cs xs)[j]?=some n->XB n=(if j=0 then up else((AJ vw hl up cs xs)[j-1]?.map (λm=>IY (IA m))).getD .nilIface)
 |_,[],[],_,_,h=>by simp[AJ]at h
 |_,[],_::_,_,_,h=>by simp[AJ]at h
 |_,_::_,[],_,_,h=>by simp[AJ]at h
 |up,c::cs,x::xs,0,n,h=>by
  rw[AJ]at h
  simp at h
  rw[<-h,xD,if_pos rfl]
 |up,c::cs,x::xs,j+1,n,h=>by
  rw[AJ]at h⊢
  have O:(AJ vw hl (Fo c x) cs xs)[j]?=some n:=qu
  cases j with
  |zero=>
   rw[XN O,if_pos rfl,if_neg qi]
   simp only[Yj,Ko,yy,Ws,YE,Rd]
   rfl
  |succ j=>
   rw[XN O,if_neg qd,if_neg qd]
   simp
def lF{vw hl cs xs}:QI (AJ vw hl .nilIface cs xs):=by
 intro j n a;rw[XN a];have O:=(yf.1 a).1;have hl:(Dt (AJ vw hl .nilIface cs xs)).length=(AJ vw hl .nilIface cs xs).length:=by simp[Dt]
 unfold CV;cases j with
 |zero=>
  rw[if_pos rfl,Nat.sub_zero,YN qd];rfl
 |succ j=>
  rw[if_neg qd,Wj];unfold Dt;rw[Ky qe,yE,yu,Option.map_map];rw[show(AJ vw _ .nilIface cs xs).length-1-((AJ vw _ .nilIface cs xs).length-(j+1))=j by omega];rfl
def l7{vw hl}:∀{up:Value}{cs:Ak}{xs:AS},xs.length=cs.length->(AJ vw hl up cs xs).map (λn=>(IA n).2)=xs.map (·.nb)
 |_,[],[],_=>rfl
 |_,c::cs,x::xs,h=>by
  rw[AJ,yx,yx,l7 (by simpa using h),Rd]
 |_,[],_::_,h=>by simp at h
 |_,_::_,[],h=>by simp at h
def SP{vw hl U}:∀{up:Value}{cs:Ak}{xs:AS}{T:Ab},xs.length=cs.length->Ff (cs.map (CB U)) T->T.length<=3->(∀f∈T,f∈U)->Hg U (AJ vw hl up cs xs) (cs.map (λc=>U.filter (Ah c.cp.H))) T
 |_,[],[],T,_,_,h3,hT=>⟨h3,hT⟩
 |_,c::cs,x::xs,T,hl',hs,h3,hT=>by
  rw[yx]at hs
  obtain⟨i,d,e,b⟩:=hs
  rw[AJ,yx]
  cases h:c.cp.neg
  .rw[J5 h]
   rw[if_neg (show¬(CB U c).neg=true by show¬c.cp.neg=true;rw[h];decide)]at b
   refine⟨⟨i.z,d h⟩,hT,λf O=>⟨(yh.1 O).1,e f O⟩,λf O j=>?_⟩
   refine SP (by simpa using hl') (b f O j) ?_ (λg a=>?_)
   .have:=d h
    simp
    omega
   rcases yp.1 a with a|a
   .exact hT g a
   rw[yw.1 a]
   exact(yh.1 O).1
  .rw[J1 h]
   rw[if_pos (show(CB U c).neg=true from h)]at b
   exact⟨h3,hT,λf O=>⟨(yh.1 O).1,e f O⟩,SP (by simpa using hl') b h3 hT⟩
 |_,[],_::_,_,h,_,_,_=>by simp at h
 |_,_::_,[],_,h,_,_,_=>by simp at h
def XC(vw:Vw):Ak->Am->List (Am)
 |[],TT=>[TT]
 |c::cs,TT=>TT::XC vw cs (if c.cp.neg=true then TT.filter (λT=>decide (nBar c.cp.y (vw c.node).2.2 T=0)) else TT.flatMap (λT=>((vw c.node).2.2.filter (λf=>c.cp.y.all (AA T f))).map (λf=>T++[f])))
def DV(vw:Vw)(c:Cx):Cn:=⟨c.cp.neg,c.cp.Y,c.node,c.cp.y,c.cp.H,(vw c.node).2.2⟩
def nP{α β:Type}(p)(h:α->List β):∀l:List α,l.flatMap (λx=>if p x=true then h x else [])=(l.filter p).flatMap h:=by intro l;induction l<;>grind
def om{ts g T}:nBar ts g T=0↔g.any (λf=>ts.all (AA T f))=false:=by simp[nBar,AA]
def gD{vw c cs}(TT:Am):(if c.cp.neg=true then TT.filter (λT=>decide (nBar c.cp.y (vw c.node).2.2 T=0)) else TT.flatMap (λT=>((vw c.node).2.2.filter (λf=>c.cp.y.all (AA T f))).map (λf=>T++[f]))).flatMap (DD (cs.map (DV vw)))=TT.flatMap (DD ((c::cs).map (DV vw))):=by
 rw[yx];cases h:c.cp.neg
 .rw[if_neg qi,List.flatMap_assoc];congr 1
  funext T
  rw[d_ (show(DV vw c).neg=false from h)];show _=(vw c.node).2.2.flatMap (λf=>if c.cp.y.all (AA T f)=true then DD (cs.map (DV vw)) (T++[f]) else []);rw[nP (λf=>c.cp.y.all (AA T f)) (λf=>DD (cs.map (DV vw)) (T++[f])),i6]
 rw[if_pos rfl,<-nP];congr 1
 funext T
 rw[Z7 (show(DV vw c).neg=true from h)];show _=if(vw c.node).2.2.any (λf=>c.cp.y.all (AA T f))=true then [] else DD (cs.map (DV vw)) T
 by_cases hz:nBar c.cp.y (vw c.node).2.2 T=0
 .rw[if_pos qX,if_neg (by rw[om.1 hz];decide)]
 rw[if_neg qX,if_pos (by
  cases a:(vw c.node).2.2.any (λf=>c.cp.y.all (AA T f))
  .exact absurd (om.2 a) hz
  rfl)]
def Lv.now{adr old vw hl}:∀{up:Value}{cs:Ak}{xs:AS}{TT:Am}{a:DK (AJ vw hl up cs xs)},xs.length=cs.length->Lv adr old (AJ vw hl up cs xs) TT a->∃K M,(∀U cb nb wb w,FV adr U cb nb wb (AJ vw hl up cs xs) w a->CS w cb nb wb K M)/\K.Perm ((TT.flatMap (DD (cs.map (DV vw)))).map (Ae adr))/\CP old K M
 | _,[],[],TT,a,_,h=>⟨a.1,a.2,λ_ _ _ _ _ b=>b,by
  have:TT.flatMap (DD (List.map (DV vw) []))=TT:=by
   exact ig
  rw[this];exact h.1,h.2⟩
 |up,c::cs,x::xs,TT,a,hlen,h=>by
  revert a;rw[AJ,<-gD];cases g:c.cp.neg
  .rw[J5 g,if_neg (by decide)];intro a h;obtain⟨K,M,d,e,f⟩:=Lv.now Qn h.2;exact⟨K,M,λU cb nb wb w b=>d U cb nb wb w b.2.2,e,f⟩
  .rw[J1 g,if_pos rfl];intro a h;obtain⟨K,M,d,e,f⟩:=Lv.now Qn h.2.2;exact⟨K,M,λU cb nb wb w b=>d U cb nb wb w b.2.2.2,e,f⟩
 |_,[],_::_,_,_,h,_=>by simp at h
 |_,_::_,[],_,_,h,_=>by simp at h
structure RD where
 X:Ak
 xs:AS
 rb:Nat
 cb:Nat
 nb:Nat
 wb:Nat
def RD.l(R:RD)(vw:Vw):Aw:=AJ vw (Fd R.cb) .nilIface R.X R.xs
def RD.S(R:RD)(g:Nat):Prop:=g∈Dh R.nb R.wb R.X R.xs
structure Ml(R:RD) (U:Ab):Prop where
 len:R.xs.length=R.X.length
 ao:(Dh R.nb R.wb R.X R.xs).Nodup
 cR:(R.xs.map (·.nb)).Nodup
 small:∀c∈R.X,c.cp.y.length<=6/\c.cp.H.y.length<=1048576/\(c.cp.neg=false->c.cp.Y<3)
 sr:Ff (R.X.map (CB U)) []
def FL(U:Ab)(X:Ak)(g:Cx->Ab):Prop:=∀c∈X,(∀f∈g c,f∈U.filter (Ah c.cp.H))/\(g c).Nodup/\(g c).length<=900
def gV(vw:Vw)(c:Cx):Ab:=(vw c.node).2.2
def FL.sub{U g}:∀{X:Ak},FL U X g->Da (X.map g) (X.map (λc=>U.filter (Ah c.cp.H))):=by intro X;induction X<;>grind[Ah,FL,Da]
def Lj(R:RD)(vw:Vw)(w:Aa):Prop:=w.heap[R.rb]?=some (.cells #[CV (Dt (R.l vw)) 0,.pointer (some ⟨R.cb,0,none⟩)] 252 (0,0))
def FW(R:RD)(adr:F->Addr)(U:Ab)(vw:Vw)(g:Cx->Ab)(old:Av)(w:Aa):Prop:=(∃a:DK (R.l vw),FV adr U R.cb R.nb R.wb (R.l vw) w a/\H_ adr old (R.l vw) (R.X.map g) [[]] a)/\Lj R vw w
def lu{vw vw' hl}:∀{up:Value}{cs:Ak}{xs:AS},(AJ vw hl up cs xs).map IA=(AJ vw' hl up cs xs).map IA
 |_,[],[]=>rfl
 |_,[],_::_=>rfl
 |_,_::_,[]=>rfl
 |_,c::cs,x::xs=>by
  rw[AJ,AJ,yx,yx,Rd,Rd,lu (vw:=vw) (vw':=vw')]
theorem Lj.same{R vw vw' w w'}(h:Lj R vw w)(a:w'.heap[R.rb]?=w.heap[R.rb]?):Lj R vw' w':=by
 unfold Lj at h⊢;rw[a,h];unfold Dt RD.l;rw[lu (vw:=vw) (vw':=vw')]
def my{vw hl U g s f w}:∀{up:Value}{cs:Ak}{xs:AS},xs.length=cs.length->FL U cs g->f∈U->(∀c∈cs,c.cp.H.y.length<=1048576/\(∃a n,DG w c.node c.cp.H a n)/\Hp s (Ah c.cp.H f) f (g c) (gV vw c))->Om s f w (AJ vw hl up cs xs) (cs.map g) (cs.map (λc=>U.filter (Ah c.cp.H)))
 |_,[],[],_,_,_,_=>trivial
 |_,c::cs,x::xs,hlen,hg,hf,h=>by
  obtain⟨i,⟨a,n,l⟩,j⟩:=h c qf
  obtain⟨e,O,k⟩:=hg c qf
  rw[AJ,yx,yx]
  refine⟨⟨c.cp.H,a,n,i,by rw[xk];exact l,j,λb=>yh.2 ⟨hf,b⟩⟩,e,O,k,my Qn (λd hd=>hg d LE) hf (λd hd=>h d LE)⟩
 |_,[],_::_,h,_,_,_=>by simp at h
 |_,_::_,[],h,_,_,_=>by simp at h
def oS(R adr U)(hR:Ml R U)(D:BV adr U)(vw)(af:FL U R.X (gV vw))(g)(p:FL U R.X g)(old s)(hs:s=1∨s = -1)(f)(hf:f∈U)(w)(M:FW R adr U vw g old w)(x:∀c∈R.X,(∃a n,DG w c.node c.cp.H a n)/\Hp s (Ah c.cp.H f) f (g c) (gV vw c)) :
  Ca 305 #[Pn R.rb,.pointer (some (adr f)),I6 s] w λe w'=>e=.returned (.tuple #[])/\FW R adr U vw (gV vw) old w'/\CK w w'/\AM R.S w w':=by
 obtain⟨⟨a,I,E⟩,d⟩:=M;have O:(R.l vw).map Prod.snd=R.X.map (gV vw):=Py hR.len;have r:∀T∈([[]]:Am),Hg U (R.l vw) (R.X.map (λc=>U.filter (Ah c.cp.H))) T:=λT J=>by
  rw[yw.1 J];exact SP hR.len hR.sr qf qf
 have hu:∀m∈R.l vw,∀f∈m.2,f∈U:=λm A f hf=>by
  have u:m.2∈(R.l vw).map Prod.snd:=yS A;rw[O]at u;obtain⟨c,b,e⟩:=yv.1 u;rw[<-e]at hf;exact(yh.1 ((af c b).1 f hf)).1
 refine(ztq D s hs f hf (R.l vw) (R.X.map g) (R.X.map (λc:Cx=>U.filter (Ah c.cp.H))) [[]] a R.rb w I E (UO hR.ao (λc b=>⟨(hR.small c b).1,(af c b).2.2,(hR.small c b).2.2⟩)) hu r qf (by rw[O];exact af.sub) (my hR.len p hf (λc b=>⟨(hR.small c b).2.1,(x c b).1,(x c b).2⟩)) lF qT (Bf (L:=[_,_]) d (j:=0) rfl)).j λe w' q=>?_;obtain⟨y,t,B,K,C,G⟩:=q;refine⟨y,⟨⟨K,C,?_⟩,d.same ((t _ _ _ _ d).c d.z)⟩,t,B.j λg p=>Ji.1 p⟩;rw[<-O];exact JJ.2 G
def so(h:P:=by
 go_wp2_with fail;refine H.rtn λw1 h1=>?_;have H1:=Ad h1;go_wp2;exact bodyPost_end (results_none rfl _ _ _) rfl ⟨rfl,H1⟩
 ):=h
def ztt(a O)(R:Aa->Aa->Prop)(w)(h:Ca 305 #[Pn a,O,I6 1] w λe w'=>e=.returned (.tuple #[])/\R w w'):Ca 301 #[Pn a,O] w λe w'=>e=.returned (.tuple #[])/\R w w':=by
 have H:=Ad h;go_enter func301,ntmps301;exact so
def ztP(a O)(R:Aa->Aa->Prop)(w)(h:Ca 305 #[Pn a,O,I6 (-1)] w λe w'=>e=.returned (.tuple #[])/\R w w'):Ca 303 #[Pn a,O] w λe w'=>e=.returned (.tuple #[])/\R w w':=by
 have H:=Ad h;go_enter func303,ntmps303;exact so
def Zo{adr vw hl U cb nb wb w}:∀{up:Value}{cs:Ak}{xs:AS}{a:DK (AJ vw hl up cs xs)},xs.length=cs.length->FV adr U cb nb wb (AJ vw hl up cs xs) w a->∀(j:Nat)(n:DL),(AJ vw hl up cs xs)[j]?=some n->∃f L,At w ((IA n).2) 5 (.map (some f))/\Ao w f (uv L)
 |_,[],[],_,_,_,_,_,b=>by simp[AJ]at b
 |up,c::cs,x::xs,a,hlen,d,j,n,b=>by
  revert a n
  rw[AJ]
  cases e:c.cp.neg
  .rw[J5 e]
   intro a d n b
   cases j with
   |zero=>
    simp at b
    subst b
    exact⟨_,_,Bf (L:=[_,_,_,_,_,_,_]) d.1.q (j:=5) rfl,d.2.1⟩
   |succ j=>exact Zo (by simpa using hlen) d.2.2 j n (by simpa using b)
  .rw[J1 e]
   intro a d n b
   cases j with
   |zero=>
    simp at b
    subst b
    exact⟨_,_,Bf (L:=[_,_,_,_,_,_,_,_]) d.1.q (j:=5) rfl,d.2.1⟩
   |succ j=>exact Zo (by simpa using hlen) d.2.2.2 j n (by simpa using b)
 |_,[],_::_,_,h,_,_,_,_=>by simp at h
 |_,_::_,[],_,h,_,_,_,_=>by simp at h
def xp(R adr U)(hR:Ml R U)(vw old w)(s:FW R adr U vw (gV vw) old w) :
  Ca 304 #[Pn R.rb] w λe w'=>(∃z,e=.returned (I6 z))/\w'=w:=by
 obtain⟨⟨a,f,d⟩,i⟩:=s;have y:(R.l vw).map Prod.snd=R.X.map (gV vw):=Py hR.len;rw[<-y]at d;have d:=JJ.1 d;obtain⟨K,M,p,C,B⟩:=Lv.now hR.len d;have o:=p U R.cb R.nb R.wb w f;have g:(R.l vw).length=R.X.length:=ZK hR.len;have x:(Dt (R.l vw)).length=R.X.length:=by simp[Dt,g]
 have v:QI (R.l vw):=lF;refine zrE R.rb R.cb R.nb (Dt (R.l vw)) K (og qT) w (Bf (L:=[_,_]) i (j:=0) rfl) (Bf (L:=[_,_]) i (j:=1) rfl) (Bf (L:=[_,_]) o.q (j:=0) rfl) o.now ?_;intro k n c;have A:k<R.X.length:=by rw[<-x];exact(yf.1 c).1
 obtain⟨j,hj⟩:=AF (R.X.length-1-k);obtain⟨b,O⟩:∃b,(R.l vw)[j]?=some b:=⟨(R.l vw)[j]'(by omega),qf⟩
 have m:n=IA b:=by
  unfold Dt at c;rw[Ky qe,yE,yu,g,<-hj,O]at c;simpa using c.z
 obtain⟨u,L,r,t⟩:=Zo hR.len f j b O;refine⟨u,L,by rw[m];exact r,t,?_⟩;rw[m,UN f O,v j b O,g];congr 2;omega
def vy(R vw w)(a:Lj R vw w):Ca 302 #[Pn R.rb] w λe w'=>e=.returned (Pn R.cb)/\w'=w:=zpY R.rb _ w (Bf (L:=[_,_]) a (j:=1) rfl)
def zoy{α β:Type}{f:α->β}{L K}(h:L.Perm K):∀TT:List α,TT.map f=L->∃a:List α,TT.Perm a/\K=a.map f:=by
 induction h with
 |nil=>exactλTT e=>⟨[],by rw[Kb.1 e],rfl⟩
 |cons x _ ih=>
  intro TT e;cases TT with
  |nil=>simp at e
  |cons t r=>
   rw[yx,Yv]at e;obtain⟨a,b,d⟩:=ih r e.2;exact⟨t::a,b.cons t,by rw[yx,e.1,d]⟩
 |swap x y l=>
  intro TT e
  match TT,e with
  |t::s::r,e=>
   rw[yx,yx,Yv,Yv]at e;exact⟨s::t::r,.swap _ _ _,by rw[yx,yx,e.1,e.2.1,e.2.2]⟩
 |trans _ _ O g=>
  intro TT e;obtain⟨j,b,d⟩:=O TT e;obtain⟨t2,i,k⟩:=g j d.z;exact⟨t2,b.c i,k⟩
def zpx{α β:Type}{f:α->β}{K}{TT:List α}(h:K.Perm (TT.map f)):∃a:List α,TT.Perm a/\K=a.map f:=zoy h.z TT rfl
def zqh{A B K:Av}{x}(h:K.Perm (A++x::B))(f:K.Nodup):(K.filter (λy=>decide (y≠x))).Perm (A++B):=by
 have j:=h.nodup_iff.1 f;obtain⟨k,b,g⟩:=yL.1 j;rw[Yo]at b;refine(h.filter _).c (KP ?_);rw[yV,yT qf];have d:A.filter (λy=>decide (y≠x))=A:=Yp.2 λy a=>by
  simp only[ne_eq,decide_eq_true_eq];exactλe=>g y a x qf e
 have i:B.filter (λy=>decide (y≠x))=B:=Yp.2 λy a=>by
  simp only[ne_eq,decide_eq_true_eq];rintro rfl;exact b.1 a
 rw[d,i]
def QJ(w:Aa)(mb:Nat)(v0 v1:Value)(cb:Nat):Prop:=Bk w mb #[v0,v1,.pointer (some ⟨cb,0,none⟩)] 258
structure vF(adr:F->Addr) (p:Ab->Bool) (old:Av) (TT:Am) (cb nb wb r:Nat) (w wr:Aa):Prop where
 ex:∃(done todo:Am)(K:Av)(M:B_),TT.Perm (done++todo)/\K.Perm ((done.filter (λT=>!p T)++todo).map (Ae adr))/\CP old K M/\CS wr cb nb wb K M/\BD wr nb r (uv K) (todo.map (Ae adr))
 W:CK w wr
 mp:AM (λg=>g=nb∨g=wb) w wr
def zsE(adr)(p:Ab->Bool)(old)(TT:Am)(K M)(mb cb nb wb fn:Nat)(v0 v1 aD w)(aM:QJ w mb v0 v1 cb)(s:CS w cb nb wb K M)(hK:K.Perm (TT.map (Ae adr)))(hN:CP old K M)(eg:∀args w,(callFunc fn args).run prog w=.ok (.enter fn args) w)(ax:∀T∈TT,∀u,CK w u->A_ w (Ae adr T)/\Ca fn (#[Bh (Ae adr T)]++aD) u λe u'=>e=.returned (.bool (p T))/\Bw u u') :
  Ca 310 #[.pointer (some ⟨mb,0,none⟩),.func (.func fn) #[] aD] w λe w'=>e=.returned (.tuple #[])/\(∃b i,b.Perm ((TT.filter (λT=>!p T)).map (Ae adr))/\CP old b i/\CS w' cb nb wb b i)/\CK w w'/\AM (λg=>g=nb∨g=wb) w w':=by
 obtain⟨bE,HC,HN,R,bp⟩:=Ei aM s hN ax hK;have n2:=Bf (L:=[_,_,_]) aM (j:=2) rfl;have c0:=Bf (L:=[_,_]) s.q (j:=0) rfl;obtain⟨o,hR,aK⟩:=g_ (P:=prog) Gc s.now;have bi:=Ad aK;have bz:=bi.dC;have aT:=Ad (Au.alloc Bg o:Bw w (w.alloc o));have bA:=s.now.lt;have bH:=s.ak.lt;clear aM s hN ax hK aK;go_enter func310,ntmps310;go_wp2
 go_loopw [] (λwr=>vF adr p old TT cb nb wb w.heap.size w wr) (λwr=>wr.rangeLeft nb w.heap.size)
 .obtain⟨a,d,E⟩:∃a:Am,TT.Perm a/\K=a.map (Ae adr):=zpx bp;exact⟨⟨[],a,K,M,d,by rw[E];exact .refl _,HN,HC.e aT,by rw[<-E];exact bi⟩,CK.u aT,AM.u aT⟩
 obtain⟨⟨done,a,b,i,bk,aW,a7,bn,n⟩,bc,bj⟩:=hrel;obtain⟨aV,G,N,A,bw,bm,aN⟩:=LG bk aW a7 bn n bc bj;clear bk aW a7 bn bc bj;rcases Vd (P:=prog) n 0 with⟨h0,aP⟩|⟨x,v,ob,w2,hx,bD,bt,aP,az,hE⟩
 .have br:a=[]:=Kb.1 h0;clear n;go_wp2_with fail;refine bodyPost_end (results_none rfl _ _ _) rfl ⟨rfl,⟨b,i,?_,N,A⟩,bm,aN⟩;have d:=aV.o;have E:=G.o;rw[br,yO]at d E;exact E.c (((d.z).filter _).map _)
 obtain⟨T,hT,rfl⟩:=yv.1 hx;have C:=VK (r:=w.heap.size) (o:=ob) bt;obtain⟨W,hW⟩:=AF (ChangeMaps.setBlock w2 w.heap.size ob);rw[<-hW]at aP az hE C;have aE:=Ad az;have aO:=C.W n.cO;have D:=bm.c aO;have a0:T∈TT:=aV.z.subset (YD _ hT);have bl:=(R T a0 w (λ_ _ _ _ h=>h)).1;have Z:b.Nodup:=by have:=A.now.nd;rwa [S1]at this
 have a9:(a.map (Ae adr)).Nodup:=by
  have d:=G.nodup_iff.1 Z;rw[yz,yL]at d;exact d.2.1
 have B:=Tf (k:=Ae adr) (l:=a) (T:=T) a9 hT;obtain⟨O,aR⟩:=AF (a.filter (λU=>decide (Ae adr U≠Ae adr T)));rw[<-aR]at B;obtain⟨aI,J⟩:=An (show TT.Perm ((done++[T])++O) from(aV.c ((Y2 _).append B)).c (.of_eq qf)) (show b.Perm (((done.filter (λT=>!p T)).map (Ae adr))++Ae adr T::O.map (Ae adr)) from G.c (by rw[yz];exact(Y2 _).append (B.map (Ae adr))));have aH:BD W nb w.heap.size (uv b) (O.map (Ae adr)):=by
  have:=aE.o;rw[YV]at this;rw[aR];exact this
 have au:=n.left;have am:O.length<a.length:=by have:=B.length_eq;simp at this;omega
 obtain⟨aw,bo,a6,bq⟩:=BP aH D C (bl.W D);have m2:=D.cell n2;have aC:CS W cb nb wb b i:=⟨aO _ _ _ _ A.q,aw.map,A.ak.aA C qd (λc t e=>n.cO c t _ e),A.ne⟩
 obtain⟨ar,a5,bG,bh⟩:=BP aC (λ(u:Aa)(hu:Bw W u)=>(R T a0 u (D.c (CK.u hu))).2) (λo=>Au.alloc Bg o:∀o,Bw W (W.alloc o)) Z;simp only[Ae,Bh]at aP hE a5;clear n az aH D C aO hW B bl aC aE aR a9 G A R Z;go_upto_region 3 with fail;refine BF ?_;intro w3 Y bv;have a8:=Ad Y;obtain⟨s0,s1,s2⟩:=Ea bv rfl;have H:=Ad (a5 w3 Y);have k2:=zab Y m2
 cases I:p T
 .rw[I]at H;go_wp2_with fail;refine H.rtn λw4 m=>?_;have f:=Ad (a8.thn m);go_wp2_with fail;have aF:=aw.e f;refine⟨⟨⟨done++[T],O,b,i,aI,?_,N,ar.e f,aF⟩,bo.c (CK.u f),(aN.new a6 Bg).c (AM.u f)⟩,?_⟩
  .rw[yV,yQ (by rw[I];rfl),Yu];refine J.c (.of_eq ?_);simp
  rw[aF.left,au,yu,yu];exact am
 rw[I]at H;go_wp2_with fail;refine H.rtn λw4 m=>?_;have f:=Ad (a8.thn m);have bB:=zab m k2;have bC:=zab m s0;have bI:=zab m s1;have bF:=zab m s2;have bg:=Ad (λ(u:Aa)(hu:Bw W u)=>zqJ cb nb wb w.heap.size b (O.map (Ae adr)) i (Ae adr T) u (ar.e hu) (aw.e hu) qd (bq.e hu) (N.cl _));simp only[Ae,Bh]at bg;go_wp2_with fail
 go_region_held3 (λu=>u.cell? ⟨mb,2,none⟩=some (.pointer (some ⟨cb,0,none⟩))/\u.cell? ⟨W.heap.size,0,none⟩=some (.pointer (T[0]?.map adr))/\u.cell? ⟨W.heap.size,1,none⟩=some (.pointer (T[1]?.map adr))/\u.cell? ⟨W.heap.size,2,none⟩=some (.pointer (T[2]?.map adr)))
  ((go_split_ands;first|done|(refine⟨?_,?_,?_,?_⟩<;>first|assumption|with_reducible exact CK.cell aG qk|exact zab Au.drew qk)))
  (first|(go_at_call 211;refine(bg _ f.drew).rtn λw5⟨aY,a4,aJ⟩=>?_;have aG:=(ar.e f.drew).W aJ)|fail)
 obtain⟨bd,aL,aX,bf⟩:=BP (show CS w5 cb nb wb (b.filter (λy=>decide (y≠Ae adr T))) (Gr (Ae adr T) (-1) i) from aY) (show BD w5 nb w.heap.size (uv (b.filter (λy=>decide (y≠Ae adr T)))) ((O.map (Ae adr)).filter (λy=>decide (y≠Ae adr T))) from a4) aJ ((CK.u f.drew).c aG);go_wp2_with fail;have bu:=zqh J bh;have aZ:(O.map (Ae adr)).filter (λy=>decide (y≠Ae adr T))=O.map (Ae adr):=Yp.2 λy hy=>by
  simp only[ne_eq,decide_eq_true_eq];rintro rfl;have d:=(yL.1 (J.nodup_iff.1 bh)).2.1;rw[Yo]at d;exact d.1 hy
 refine⟨⟨⟨done++[T],O,_,_,aI,?_,N.bk (J.mem_iff.2 qf),bd,?_⟩,bo.c bf,(aN.new a6 Bg).c ((AM.u f.drew).c aX)⟩,?_⟩
 .rw[yV,yT (by rw[I];decide),Yu,yO,yz];exact bu
 .have h:=aL.o;rw[aZ]at h;exact h
 have h:=aL.o;rw[aZ]at h;rw[h.left,au,yu,yu];exact am
section
open Go.Maps
def zoO{α:Type}{l O:List α}{k c}(h:l.drop k=c::O):l[k]?=some c/\l.drop (k+1)=O:=by
 constructor
 .have:=congrArg (λx=>x[0]?) h;simpa using this
 rw[<-List.drop_drop,h];rfl
def XO(k):((k+1:Nat):Int)=(k:Int)+1:=qf
def xM(Z o J r N)(C:∀s W d,J s W->Bw W d->J s d)(R:∀(mm:Nat)(pre:List (E6 Z))(x:E6 Z)(A:Aa),J pre A->pre.length<N->YieldAt Fence.wide mm prog Z.l #[LT x] A λe d=>(e=.returned (.bool true)/\J (pre++[x]) d/\De o A d)∨(e=.returned (.bool false)/\r (pre++[x]) d)) :
  ∀ (b:Ak) (k:Nat) (T:Ab) (i m g:Af) (pre:List (E6 Z)) (W:Aa),Z.X.drop k=b->k<=Z.X.length->H4 Z o W->NU Z i m g T->Lh Z k b T->J pre W->pre.length+(Ed Z k b T).length<=N ->
   Ca 109 #[I6 (k:Int),.agg #[.pointer i,.pointer m,.pointer g],Pn Z.pb,Pn Z.yb,Pn Z.sb,Pn Z.xb] W (OZ Z o J r pre (Ed Z k b T) W):=by
 intro b
 induction b with
 |nil=>
  intro k T i m g pre W w aw u p H t n;have U:k=Z.X.length:=by
   have E:=congrArg List.length w;rw[List.length_drop]at E;simp at E;omega
  subst U;exact v_ Z o J r N C R T i m g p pre W u t (by simp[Ed]at n;omega)
 |cons c b ih=>
  intro k T i m g pre W w aw u p H t n;obtain⟨z,G⟩:=zoO w;have aA:k<Z.X.length:=(yf.1 z).1;obtain⟨K,hlt,j,I,O⟩:=H;cases a:c.cp.neg with
  |true=>
   rw[if_pos a]at O;have e:Ed Z k (c::b) T=if GI Z k c T=true/\(Z.vw c.node).2.2.any (λf=>c.cp.y.all (AA T f))=false then Ed Z (k+1) b T else []:=by
    rw[Ed,if_pos a]
   rw[e]at n⊢;refine xj Z o J r C c k z T i m g pre W u p j I t a (Ed Z (k+1) b T) _ (λh=>?_) (λh=>?_) (λh d B v=>?_)
   .rw[if_neg h]
   .rw[if_pos h]
   .rw[if_pos h]at n;have q:=ih (k+1) T i m g pre d G qd B p O v n;rw[XO]at q;exact q
  |false=>
   rw[if_neg (by rw[a];simp)]at O;have e:Ed Z k (c::b) T=(Fm Z k c).flatMap (λf=>if c.cp.y.all (AA T f)=true then Ed Z (k+1) b (T++[f]) else []):=by
    rw[Ed,if_neg (by rw[a];simp)]
   rw[e]at n⊢;refine xf Z o J r C c k z T i m g pre W u p j I t a K (hlt a) N _ (λf=>if c.cp.y.all (AA T f)=true then Ed Z (k+1) b (T++[f]) else []) rfl n (λf _ h=>?_) (λf hf h Y d L M q2 B v D az=>?_)
   .simp[h]
   simp only[if_pos h]at D⊢;have q:=ih (k+1) (T++[f]) L M q2 Y d G qd B az (O f hf h) v D;rw[XO]at q;exact q
def zjz{P}(w a m fn x y):(store a (.func fn x y) m).run P w=stored P w a (.func fn x y) m:=run_store P w a _ m rfl
def zsY{P:Aa->Prop}{w b t x0 O}(h0:Bk w b #[x0] t)(h:∀wt,Bk wt b #[O] t->Turned w wt b->P wt):P (w.setCell ⟨b,0,none⟩ O):=by
 exact tE
def YieldAt.dY{m}(m'){P l args W R}(h:YieldAt Fence.wide m P l args W R):YieldAt Fence.wide m' P l args W R:=by
 obtain⟨fn,tmps,assign,body,b,a⟩:=h;exact⟨fn,tmps,assign,body,b,a.1,λc cs _=>a.2 c cs (room_wide _)⟩
def zmt{α}{J:List α->Aa->Prop}{B}(h:AbidesFrom B J):∀s W b,J s W->Bw W b->J s b:=λs W b c a=>
 h s W b none c ⟨a.os,a.tape,a.output,a.size,λk d _=>a.block k d⟩ (λr e=>qo)
structure SY(Z:SN) (Bz W:Aa):Prop where
 pl:Bk W (Z.pb) #[.slice Z.ca Z.X.length Z.cc,Z.vv] 102
 sd:Bk W (Z.sb) #[.int .i64 Z.sa,.pointer (Z.sf.map Z.adr)] 108
 kb:De Bz Bz W
 dj:∀(k:Nat)(c:Cx),Z.X[k]?=some c->Eb Z.adr Z.vw Z.ca Bz k c
 dE:JB Z.adr Z.U Bz
theorem SY.W{Z a W d}(h:SY Z a W)(b:De a W d):SY Z a d:=⟨b _ _ _ _ h.pl (λ_=>qi) OE,b _ _ _ _ h.sd (λ_=>qi) OE,h.kb.c b,h.dj,h.dE⟩
def Ld(Z b)(J g:List (E6 Z)->Aa->Prop)(w:∀s W a,J s W->Bw W a->J s a)(W)(hS:SY Z b W)(t:Z.yb=W.heap.size)(n:Z.xb=W.heap.size+1)(G:Lh Z 0 Z.X [])(B:∀(I:Nat)(pre:List (E6 Z))(x:E6 Z)(i:Aa),J pre i->pre.length<(Ed Z 0 Z.X []).length->YieldAt Fence.wide I prog Z.l #[LT x] i λe a=>(e=.returned (.bool true)/\J (pre++[x]) a/\De b i a)∨(e=.returned (.bool false)/\g (pre++[x]) a))(K:J [] W) :
  Ca 108 #[.func (.yield Z.l) #[] #[],Pn Z.pb,Pn Z.sb] W λe a=>(∃v,e=.returned v)/\((∃xs:List (E6 Z),xs.map (λy=>y.1)=Ed Z 0 Z.X []/\J xs a)∨(∃pre,True/\g pre a)):=by
 have N:=Le;go_enter func108,ntmps108;go_upto_region 2 with fail;refine Ce ?_;intro E o d O;rw[<-t]at d⊢;rw[<-n]at O;rw[show Z.yb+1=Z.xb by omega];have U:Z.yb<Z.xb:=qd;have R:W.heap.size<=Z.yb:=qd;clear t n;have C:=@zjz prog;have D:=A8 O;have A:E.frozen? ⟨Z.xb,0,none⟩=false:=Ub;go_upto_region 3 with fail
 refine zsY O ?_;intro k r m;have p:Bw W k:=o.c (m.e qd);have H:=(m.block Z.yb qd).c d;clear D A d O m o C;have hS2:=hS.W (De.u p);have L:=Ad (show H4 Z b k from⟨hS2.pl,H,hS2.sd,r,hS2.kb,hS2.dj,hS2.dE⟩);have x0:=A8 r;have M:=Ad (xM Z b J g _ w B Z.X 0 [] none none none [] k qf (yn _) L ⟨rfl,qf,λf hf=>Qh⟩ G (w _ _ _ K p) qf);go_wp2_with fail;refine M.j ?_;rintro e T (⟨rfl,ys,hl,hj,_⟩|⟨rfl,q,z⟩)
 .go_wp2_with fail;go_end0;exact⟨⟨_,rfl⟩,.inl ⟨ys,hl,TW⟩⟩
 go_wp2_with fail;go_end0;exact⟨⟨_,rfl⟩,.inr ⟨q,trivial,z⟩⟩
def mu(a v1 sa b q n i d m o)(f:a=.slice q i d)(g:v1=.slice n m o)(w) :
  Ca 57 #[.agg #[a,v1],.agg #[I6 sa,.pointer b]] w λe w'=>e=.returned (.func (.func 108) #[] #[Pn w.heap.size,Pn (w.heap.size+1)])/\Hid (Bk w' (w.heap.size) #[a,v1] 102)/\Hid (Bk w' (w.heap.size+1) #[I6 sa,.pointer b] 108)/\Bw w w':=by
 subst f g;have s:=Le;go_enter func57,ntmps57;go_upto_region 1 with fail;refine Ce ?_;intro r O k c;obtain⟨j,l,p⟩:=AK O k c;go_wp2;go_ret;exact⟨rfl,l,p,j⟩
def lH(w):Ca 58 #[] w λe w'=>e=.returned (.agg #[I6 (-1),.pointer none])/\Bw w w':=by
 go_enter func58,ntmps58;go_wp2;refine bodyPost_ret (v:=.agg #[I6 (-1),.pointer none]) (by simp[results,results58,go_sem]) rfl ⟨rfl,?_⟩
 first
 |exact Ar
 |exact(Ar.setCell qf _).setCell qf _
section
variable {Z Z' : SN} (h1 : Z'.vw = Z.vw) (h2 : Z'.sa = Z.sa) (h3 : Z'.sf = Z.sf)
def ztF(k:Nat)(c:Cx)(T:Ab):GI Z' k c T=GI Z k c T:=by
 unfold GI;rw[h2,h3]
def mh(k:Nat)(c:Cx):Fm Z' k c=Fm Z k c:=by
 unfold Fm;rw[h1,h2,h3]
def Z1:∀(cs:Ak)(k:Nat)(T:Ab),Ed Z' k cs T=Ed Z k cs T
 |[],_,_=>rfl
 |c::cs,k,T=>by
  have O:=Z1 cs
  unfold Ed
  rw[mh h1 h2 h3,ztF h2 h3,h1]
  simp only[O]
def Z0:∀(cs:Ak)(k:Nat)(T:Ab),Lh Z' k cs T↔Lh Z k cs T
 |[],_,_=>Iff.rfl
 |c::cs,k,T=>by
  have O:=Z0 cs
  unfold Lh
  rw[mh h1 h2 h3,h1,h2,h3]
  simp only[O]
end
def TU(Z a n w)(hS:SY Z a w)(b:Lh Z 0 Z.X []) :
  SeqStopsK Fence.wide n prog 108 #[Pn Z.pb,Pn Z.sb] (λx:E6 Z=>#[LT x]) (De a) (λys=>ys.map (λy=>y.1)=Ed Z 0 Z.X []) (λ_=>True) (Ed Z 0 Z.X []).length w:=by
 intro l J f W c k _ g d;refine callsIn_wide.2 ?_;have O:=hS.W (De.u c);have e:=Z1 (Z:=Z) (Z':={ Z with l:=l,yb:=W.heap.size,xb:=W.heap.size+1 }) rfl rfl rfl Z.X 0 [];have h:=Ld { Z with l:=l,yb:=W.heap.size,xb:=W.heap.size+1 } a J f (zmt k) W ⟨O.pl,O.sd,O.kb,O.dj,O.dE⟩ rfl rfl ((Z0 (Z:=Z) (Z':={ Z with l:=l,yb:=W.heap.size,xb:=W.heap.size+1 }) rfl rfl rfl Z.X 0 []).2 b) (λj pre x i hj hl=>YieldAt.dY j (g pre x i hj (by rw[<-e];exact hl))) d
 grind[Ed,E6,LT,Lh]
end
section
open Go.Maps
attribute [local go_sem] Oper.semAt_some
def kj(Ds:A5):List Deferred:=Ds.map (λD=>{ target:=.collected D,args:=#[] })
structure Lm(B:Nat) (Ds:A5) (W:Aa):Prop where
 nodup:Ds.Nodup
 V:∀D∈Ds,B<=D/\W.heap[D]?=some (.deferred (some []))
structure UB(B:Nat) (W W':Aa):Prop where
 C:Below B W W'
 bW:CK W W'
def UZ{n fn tmps R B}:∀(b:A5)(W:Aa),Lm B b W->(∀a,UB B W a->∃v,(results fn tmps).run prog a=.ok v a/\R (.returned v) a)->LeavesInM Fence.wide n prog fn tmps R (kj b) .returning W
 |[],W,_,h=>h W ⟨Au,λ_ _ _ _ h=>h⟩
 |D::b,W,hd,h=>by
  obtain⟨m,l⟩:=hd.V D qf
  have j:=Yo.1 hd.nodup
  have g:UB B W (W.putObj D (.deferred none)):=⟨⟨rfl,rfl,rfl,qf,λk d=>Yr qd⟩,λk c t o d=>by
   rw[Yr (λe=>by subst e;rw[l]at d;cases d)]
   exact d⟩
  refine⟨qf,.inl ⟨D,_,rfl,run_takeDeferred l,UZ b _ ⟨j.2,λf O=>⟨(hd.V f Qk).1,?_⟩⟩ (λa i=>h a ⟨g.C.c i.C,g.bW.c i.bW⟩)⟩⟩
  rw[Yr (λe=>j.1 (by rw[<-e];exact O))]
  exact(hd.V f Qk).2
def CK.dO{W l o o'}(hl:W.heap[l]?=some o)(b:o.isCells=false):CK W (W.putObj l o'):=λg c t d a=>by
 rw[Yr (λe=>by subst e;rw[hl]at a;cases a;simp[Obj.isCells]at b)];exact a
structure Of{Z:SN} (old:Av) (cb nb wb B:Nat) (K0:Av) (w:Aa) (pre:List (E6 Z)) (Y:Aa):Prop where
 ex:∃K M,(∀x,x∈K↔x∈K0∨x∈(pre.map (λy=>y.1)).map (Ae Z.adr))/\CP old K M/\CS Y cb nb wb K M
 W:CK w Y
 mp:AM (λg=>g=nb∨g=wb) w Y
 low:nb<B/\wb<B/\w.heap.size<=B
def Of.aa{Z old cb nb wb B K0 w}:OwnFrom B (Of (Z:=Z) old cb nb wb B K0 w):=by
 intro pre W l row h d u;have key:∀k,k<W.heap.size->(k<B∨∃c t i,W.heap[k]?=some (.cells c t i))->l.heap[k]?=W.heap[k]?:=λk j b=>d.block k j (λe=>by
  obtain⟨v,o,p,m⟩:=u k e.z;rcases b with b|⟨c,t,i,b⟩
  .omega
  rw[p]at b;cases b;simp[Obj.isCells]at m)
 have f:CK W l:=λg c t i O=>(key g (Ap O) (.inr ⟨_,_,_,O⟩)).c O;obtain⟨K,M,n,r,a⟩:=h.ex;refine⟨⟨K,M,n,r,f _ _ _ _ a.q,a.now.same (key nb a.now.lt (.inl h.low.1)) f,a.ak.same (key wb a.ak.lt (.inl h.low.2.1)) f,a.ne⟩,h.W.c f,⟨?_,λg O s=>(key g (yg O h.mp.rest.size) (.inl (yg O h.low.2.2))).c (h.mp.block g O s)⟩,h.low⟩;exact h.mp.rest.c ⟨d.os,d.tape,d.output,d.size,λk j=>qd⟩
def Of.C{Z old cb nb wb B K0 w}{pre:List (E6 Z)}{W b}(h:Of old cb nb wb B K0 w pre W)(a:Bw W b):Of old cb nb wb B K0 w pre b:=by
 obtain⟨K,M,f,g,d⟩:=h.ex;exact⟨⟨K,M,f,g,d.e a⟩,h.W.c (CK.u a),h.mp.c (AM.u a),h.low⟩
def vU{B W a S}(b:AM S W a)(e:∀g,S g->g<B):KeepsFrom B W a:=by
 refine⟨b.rest.size,λk o f d _=>?_⟩;exact(b.block k (yk.1 d).1 (λq=>by have:=e k q;omega)).c d
def p_{W b}(d:Bw W b):KeepsOthers W b:=⟨d.size,λk _ a _=>(d.block k (yk.1 a).1).c a⟩
def Sr(Z:SN)(A:Value->Value->Act)(x:E6 Z)(a:Act)(W:Aa):Prop:=∃tb,W.heap[tb]?=some (.cells #[.pointer (Ae Z.adr x.1).1,.pointer (Ae Z.adr x.1).2.1,.pointer (Ae Z.adr x.1).2.2] 111 (0,0))/\a=A (.pointer (some ⟨tb,0,none⟩)) (LT x)
def Sr.aa{Z B A}(x a):OwnFrom B (λ(_:Unit)W=>Sr Z A x a W):=by
 intro _ W l row h k j;obtain⟨d,b,g⟩:=h;refine⟨d,(k.block d (Ap b) (λe=>?_)).c b,g⟩;obtain⟨_,o,i,f⟩:=j d e.z;rw[i]at b;cases b;simp[Obj.isCells]at f
def nV(Z old K M mb cb nb wb va n vc w)(hv:Z.vv=.slice va n vc)(ar:QJ w mb (.slice Z.ca Z.X.length Z.cc) Z.vv cb)(aZ:∀(k:Nat)(c:Cx),Z.X[k]?=some c->Eb Z.adr Z.vw Z.ca w k c)(aY:Ch Z.adr Z.U w)(hC:CS w cb nb wb K M)(hN:CP old K M)(aS:Lh Z 0 Z.X []) :
  Ca 156 #[Pn mb,.agg #[I6 Z.sa,.pointer (Z.sf.map Z.adr)]] w λe w'=>e=.returned (.tuple #[])/\(∃K' M',(∀x,x∈K'↔x∈K∨x∈(Ed Z 0 Z.X []).map (Ae Z.adr))/\CP old K' M'/\CS w' cb nb wb K' M')/\CK w w'/\AM (λg=>g=nb∨g=wb) w w':=by
 obtain⟨aB,HC,HN,HCX,HUS,aU,HV⟩:=LG ar hC hN aZ aY aS hv;clear ar hC hN aZ aY aS hv;refine(callsIn_wide (n:=9)).1 ?_;refine callsIn_of_wp_marks func156 rfl trivial ?_ rfl;simp only[ntmps156,K7,Ya,YU,Nat.reduceAdd,Nat.reduceSub,KH,KI,K8,KT,Yg,Yz];refine wpIn_wide.2 ?_;go_upto_region 1 with fail;refine Ce ?_;intro b aI aH aJ;obtain⟨Q1,Q2⟩:=An aH aJ;have m0:=A8 aH;obtain⟨s0,s1⟩:=AE aJ;have aL:=Ad aI;have aA:=(aI.block mb (Ap aB)).c aB;have v0:=Bf (L:=[_,_,_]) aA (j:=0) rfl;have v1:=Bf (L:=[_,_,_]) aA (j:=1) rfl;have v2:=Bf (L:=[_,_,_]) aA (j:=2) rfl;clear aI aH aJ aA;go_wp2_with fail;refine wp_region_noPanic ?_;refine wp_region_held_drew (S:=(λu=>At u w.heap.size 0 (Pn mb)/\At u (w.heap.size+1) 0 (I6 Z.sa)/\At u (w.heap.size+1) 1 (.pointer (Z.sf.map Z.adr))/\At u mb 0 (.slice Z.ca Z.X.length Z.cc)/\At u mb 1 Z.vv)) qg ?_ (λhHeld=>?_)
 ·(try dsimp only);exact⟨m0,s0,s1,v0,v1⟩
 refine sr 0 5 ?_;refine wpAnyH_ready (rs:=[5]) qg qf ?_;refine y9 (yj.c rfl) (λK m=>?_) Yd;go_simp;(go_at_call 57;refine(mu _ _ Z.sa (Z.sf.map Z.adr) Z.ca va Z.X.length Z.cc n vc rfl HV _).j ?_;rintro e' f ⟨rfl,aT,aK,A⟩);(try go_wp2_with fail);refine m _ _ ?hS2 (λhHeld=>?_)
 case hS2=>((try dsimp only);exact⟨zab A m0,zab A s0,zab A s1,zab A v0,zab A v1⟩)
 clear m K;(try simp only[pQ]);refine wpAnyH_done qg ?_ _;refine Yb ?_;have bg:b.heap.size+1<f.heap.size:=Ap aK;obtain ⟨ah,aG,aE,a9⟩:=BP (show Bw w f from aL.drew.c (A.j (show w.heap.size<=b.drew.heap.size from aL.size))) (show Bk f (b.heap.size) #[.slice Z.ca Z.X.length Z.cc,Z.vv] 102 from aT) (show Bk f (b.heap.size+1) #[I6 Z.sa,.pointer (Z.sf.map Z.adr)] 108 from aK) ((A.block w.heap.size (Ap Q1)).c Q1);have a8:=Ad (show QJ f mb (.slice Z.ca Z.X.length Z.cc) Z.vv cb from (ah.block mb (Ap aB)).c aB);have bh:=HC.now.lt;have bj:=HC.ak.lt;have aF:=ah.size;obtain ⟨EX,bc,bf⟩:=AK (Z1 (Z:=Z) (Z':={ Z with pb:=b.heap.size,sb:=b.heap.size+1 }) rfl rfl rfl Z.X 0 []) (show Of (Z:={ Z with pb:=b.heap.size,sb:=b.heap.size+1 }) old cb nb wb f.heap.size K f [] f from ⟨⟨K,M,λx=>qf,HN,HC.e ah⟩,λ_ _ _ _ h=>h,AM.refl _ _,qd,qd,yA _⟩) (TU { Z with pb:=b.heap.size,sb:=b.heap.size+1 } f 8 f ⟨aG,aE,De.u Au,λk c hc=>(HCX k c hc).W (CK.u ah),(HUS.W (CK.u ah)).a⟩ ((Z0 (Z:=Z) (Z':={ Z with pb:=b.heap.size,sb:=b.heap.size+1 }) rfl rfl rfl Z.X 0 []).2 aU));clear hHeld m0 s0 s1 v0 v1 v2 A aT aK aG aE HCX aU HC HN aL Q1 Q2;go_wp2_with fail;refine (wpIn_wide (n:=9)).1 ?_;refine wpIn_rangeFunc_ownH (α:=E6 { Z with pb:=b.heap.size,sb:=b.heap.size+1 }) rfl qi (gf:=108) (lb:=#[Pn b.heap.size,Pn (b.heap.size+1)]) rfl trivial (enters_of func108 qg rfl)
  bf (λh k=>De.c h k) (λW l o o' _ h2 h3 _=>(CK.dO h2 h3).i) Au (λ_=>rfl)
  (Of old cb nb wb f.heap.size K f) (λ_ _ _=>False) Of.aa (λ_ _ _ _ _ hs _ _=>hs) bc
  (Sr { Z with pb:=b.heap.size,sb:=b.heap.size+1 } (λpv tv=>{ tmps:=#[Pn mb,.agg #[I6 Z.sa,.pointer (Z.sf.map Z.adr)],Pn w.heap.size,Pn (w.heap.size+1),pv,Pn mb,Pn mb,Pn mb,.agg #[.slice Z.ca Z.X.length Z.cc,Z.vv],.agg #[I6 Z.sa,.pointer (Z.sf.map Z.adr)],.func (.func 108) #[] #[Pn b.heap.size,Pn (b.heap.size+1)],tv,undef,undef,undef,undef,undef,undef,undef,undef,undef,undef,undef,undef,undef],defers:=[] })) (λx a=>Sr.aa x a) ?assign ?body ?done ?stop
 case assign=>
  rintro l pre x p Kc t m;simp only[LT,Bh];obtain⟨H,a7⟩:=An t m;clear t m;gi_wp2;exact a7 _ _ ((KeepsOthers.alloc _ _).from _) (De.u Ar) (H.C Ar) ⟨p.heap.size,heap_alloc_new _ _,rfl⟩
 case body=>
  rintro l pre x a' p bi _ t ⟨r,ar,rfl⟩ ab;obtain⟨R,M1,aC,au,s⟩:=t.ex;have ax:=t.W;have m0:=A8 (ax _ _ _ _ a9);have v2:=Bf (L:=[_,_,_]) (ax _ _ _ _ a8) (j:=2) rfl;obtain⟨I,T,t2⟩:=Ax ar;obtain⟨Y,az⟩:=AF (Ae Z.adr x.1);have bd:=I;have aR:=Ad (show A_ p Y by rw[az];exact Rk (HUS.W ((CK.u ah).c ax)) x.2.2);obtain⟨aj,aD,J,a5,aM,G,aW⟩:=LG (λ(u:Aa)(hu:Bw p u)=>zrj cb nb wb R M1 Y u (s.e hu) (aR.e hu)) (λ(u:Aa)(hu:Bw p u)(hx:Y ∉ R)=>lz cb nb wb R M1 Y u (s.e hu) (aR.e hu) hx (au.cl _)) s au aC t az;simp only[show Ae ({ Z with pb:=b.heap.size,sb:=b.heap.size+1 }:SN).adr x.1=Y from az.z]at I T t2;obtain⟨x0,x1,N⟩:=Y;simp only[Bh]at I T t2 aj aD;clear t ar ab aC au s ax az bd;by_cases aw:(x0,x1,N)∈R
  .have ay:=Ad aw;rw[decide_eq_true aw]at aj;clear aw;gi_wp2;refine VE (S:=(λu=>At u w.heap.size 0 (Pn mb)/\At u mb 2 (Pn cb)/\At u r 0 (.pointer x0)/\At u r 1 (.pointer x1)/\At u r 2 (.pointer N))) XA qJ qg ?_ (λhHeld=>?_)
   ·(try dsimp only);exact⟨m0,v2,I,T,t2⟩
   refine sr 0 5 ?_;refine wpAnyH_ready (rs:=[5]) qg qf ?_;refine y9 (yj.c rfl) (λK m=>?_) Yd;go_simp;(go_at_call 212;refine(aj _ Au.drew).j ?_;rintro e' w3 ⟨rfl,O⟩);(try go_wp2_with fail);refine m _ _ ?hS4 (λhHeld=>?_)
   case hS4=>((try dsimp only);exact⟨zab O m0,zab O v2,zab O I,zab O T,zab O t2⟩)
   (try simp only[pQ]);refine sr 6 7 ?_;refine wpAnyH_done qg ?_ _;refine Yb ?_;have d:=Ad (show Bw p w3 from Au.drew.c (O.j qf));gi_wp2;exact⟨(p_ d).from _,De.u d,⟨R,M1,λy=>by rw[aM.o y,yz,yz,yp];exact⟨λq=>q.elim .inl (λq=>.inr (.inl q)),λq=>q.elim .inl (λq=>q.elim .inr (λq=>by simp only[yx,YZ,yw]at q;rw[q,<-show(x0,x1,N)=Ae Z.adr x.1 from aW.o];exact(aM _).1 ay))⟩,a5,J.e d⟩,G.W.c (CK.u d),G.mp.c (AM.u d),G.low⟩
  .have ay:=Ad aw;rw[decide_eq_false aw]at aj;gi_wp2;refine VE (S:=(λu=>At u w.heap.size 0 (Pn mb)/\At u mb 2 (Pn cb)/\At u r 0 (.pointer x0)/\At u r 1 (.pointer x1)/\At u r 2 (.pointer N))) XA qJ qg ?_ (λhHeld=>?_)
   ·(try dsimp only);exact⟨m0,v2,I,T,t2⟩
   refine sr 0 5 ?_;refine wpAnyH_ready (rs:=[5]) qg qf ?_;refine y9 (yj.c rfl) (λK m=>?_) Yd;go_simp;(go_at_call 212;refine(aj _ Au.drew).j ?_;rintro e' w3 ⟨rfl,O⟩);(try go_wp2_with fail);refine m _ _ ?hS6 (λhHeld=>?_)
   case hS6=>((try dsimp only);exact⟨zab O m0,zab O v2,zab O I,zab O T,zab O t2⟩)
   (try simp only[pQ]);refine sr 6 7 ?_;refine wpAnyH_done qg ?_ _;refine Yb ?_;have d:=Ad (show Bw p w3 from Au.drew.c (O.j qf));have a4:=zab d m0;have aV:=zab d v2;have aO:=zab d I;have aQ:=zab d T;have a0:=zab d t2;gi_wp2;refine VE (S:=(λu=>At u w.heap.size 0 (Pn mb)/\At u mb 2 (Pn cb)/\At u r 0 (.pointer x0)/\At u r 1 (.pointer x1)/\At u r 2 (.pointer N))) XA (by intro i o ho c hc;rcases i with _|_|_|_|_|_|i<;>simp at ho<;>subst ho<;>cases hc) qg ?_ (λhHeld=>?_)
   ·(try dsimp only);exact⟨a4,aV,aO,aQ,a0⟩
   refine sr 0 5 ?_;refine wpAnyH_ready (rs:=[5]) qg qf ?_;refine y9 (yj.c rfl) (λK m=>?_) Yd;go_simp;(go_at_call 210;refine(aD _ d.drew ay).j ?_;rintro e' w6 ⟨rfl,aP,af⟩);(try go_wp2_with fail);refine m _ _ ?hS8 (λhHeld=>?_)
   case hS8=>((try dsimp only);exact⟨(J.e d.drew).W af |>.cell a4,(J.e d.drew).W af |>.cell aV,(J.e d.drew).W af |>.cell aO,(J.e d.drew).W af |>.cell aQ,(J.e d.drew).W af |>.cell a0⟩)
   (try simp only[pQ]);refine wpAnyH_done qg ?_ _;refine Yb ?_;have aN:AM (λg=>g=nb∨g=wb) p w6:=(AM.u d).c ((AM.u Au.drew).c af);have aX:CK p w6:=J.W aN;exact⟨vU aN (λg hg=>by rcases hg with rfl|rfl;exact G.low.1;exact G.low.2.1),aX.i,⟨_,_,λy=>by rw[yp,aM.o y,yz,yz,yp,or_assoc,show [(x0,x1,N)]=(List.map (λy:E6 { Z with pb:=b.heap.size,sb:=b.heap.size+1 }=>y.1) [x]).map (Ae Z.adr) by rw[yx,YZ,yx,YZ,show(x0,x1,N)=Ae Z.adr x.1 from aW.o]],a5.bS ay,aP⟩,G.W.c aX,G.mp.c aN,G.low⟩
 case done=>
  rintro D ys p hD hS t m;obtain⟨H,HK,HS⟩:=AK t m hS;go_wp2_with fail;refine UZ (B:=f.heap.size) [D] _ ⟨qf,λD' a6=>by rw[yw.1 a6];exact⟨hD,HK⟩⟩ ?_;intro W2 E;obtain⟨R,M1,aC,au,s⟩:=H.ex;refine⟨_,results_none rfl _ _ _,rfl,⟨R,M1,λy=>?_,au,E.bW _ _ _ _ s.q,s.now.same (E.C.block nb H.low.1) E.bW,s.ak.same (E.C.block wb H.low.2.1) E.bW,s.ne⟩,(CK.u ah).c (H.W.c E.bW),⟨((ah.j (yn _)).c H.mp.rest).c (E.C.j (yn _)),λg hg hn=>(E.C.block g (yg hg aF)).c ((H.mp.block g (yg hg aF) hn).c (ah.block g hg))⟩⟩;rw[aC y];have e:List.map (λy=>y.1) ys=Ed Z 0 Z.X []:=HS.c EX;rw[e]
 case stop=>
  rintro D c pre W _ _ h _;exact h.elim
end
def mE{w p q}(a:BB w p)(b:BB w q):(binOp .eql 106 (.pointer p) (.pointer q)).run prog w=.ok (.bool (decide (p=q))) w:=by
 have h:=UK tys 9999 a b;simp[binOp,Op.equal,Op.maxDepth,h]
def zF(b c)(a:List (Af))(v w)(l:∀(i:Nat)p,a[i]?=some p->At w b i (.pointer p))(j:∀p∈a,BB w p)(hv:BB w v)(hl:a.length<=1000) :
  Ca 315 #[.slice (some ⟨b,0,none⟩) a.length c,.pointer v] w λe w'=>∃r:Int,e=.returned (I6 r)/\(0<=r↔v∈a)/\w'=w:=by
 obtain⟨s,t,y⟩:=AK l j hv;clear l j hv;go_enter func315,ntmps315;go_wp2
 go_loopw [8] (λiv wr=>∃k:Nat,iv=I6 (k:Int)/\k<=a.length/\v ∉ a.take k/\wr=w) (mz a.length)
 .exact⟨0,rfl,yn _,qf,rfl⟩
 obtain⟨k,rfl,A,g,u⟩:=hrel;subst u;by_cases n:k<a.length
 .obtain⟨p,O⟩:=Bq n;have z:=s k p O;obtain⟨B,x⟩:=CZ n;obtain⟨d,q⟩:=An g O;have m:=mE y (t p (yd O));clear g O;by_cases e:v=p
  .have f:=Ad e;rw[decide_eq_true e]at m;clear e;go_wp2;refine bodyPost_ret (v:=I6 (k:Int)) (by simp[results,results315,go_sem]) rfl ⟨_,rfl,⟨λ_=>by rw[f.o];exact yd q,λ_=>qd⟩,rfl⟩
  have f:=Ad e;rw[decide_eq_false e]at m;go_wp2;go_roundw
  case rel=>
   refine⟨k+1,qm,qd,?_,trivial⟩;rw[Yc,q.o];simp only[Option.toList_some,yp,yw,not_or];exact⟨d,f⟩
  case measure=>(simp;omega)
 obtain rfl:k=a.length:=qd;have x:¬(a.length:Int)<(a.length:Int):=qd;have d:=Ad g;go_wp2;refine bodyPost_ret (v:=I6 (-1)) (by simp[results,results315,go_sem]) rfl ⟨_,rfl,⟨λh=>qd,λh=>?_⟩,rfl⟩;have:=d.o;rw[yZ]at this;exact absurd h this
def zkk(b c)(a:List (Af))(v w)(g:∀(i:Nat)p,a[i]?=some p->At w b i (.pointer p))(f:∀p∈a,BB w p)(hv:BB w v)(hl:a.length<=1000) :
  Ca 314 #[.slice (some ⟨b,0,none⟩) a.length c,.pointer v] w λe w'=>e=.returned (.bool (decide (v∈a)))/\w'=w:=by
 have m:=Ad (zF b c a v w g f hv hl);obtain⟨d,hd⟩:=AF (decide (v∈a));rw[<-hd];have l:=Ad hd;clear g f hv hd;go_enter func314,ntmps314;go_wp2_with fail;refine m.j ?_;rintro e q ⟨r,rfl,k,rfl⟩;have n:decide (0<=r)=d:=by
  rw[l.o,iW,decide_eq_true_eq,decide_eq_true_eq];exact k
 clear k;exact RZ
def zpo(f k b v w)(n:A_ w (f,k,b))(hv:BB w v) :
  Ca 313 #[.agg #[.pointer f,.pointer k,.pointer b],.pointer v] w λe w'=>e=.returned (.bool (decide (v∈[f,k,b])))/\Bw w w':=by
 obtain⟨y,D⟩:=An n hv;clear n hv;obtain⟨d,hd⟩:=AF (decide (v∈[f,k,b]));rw[<-hd];have x:=Ad hd;clear hd;go_enter func313,ntmps313;go_upto_region 1 with fail;refine BF ?_;intro s O q;obtain⟨z,B,t2⟩:=Ea q rfl;have A:=Ad O;have l:=y.e O;have u:=Ad (zkk w.heap.size 3 [f,k,b] v s (λi p a=>by
  match i,a with
  |0,a=>cases a;exact z
  |1,a=>cases a;exact B
  |2,a=>cases a;exact t2
  |i+3,a=>simp at a) (λp m=>by
   simp only[yW,Yw,or_false]at m;rcases m with rfl|rfl|rfl
   .exact l.1
   .exact l.2.1
   exact l.2.2) (D.iter λg c t r=>(O.block g (Ap r)).c r) qf)
 rw[<-x.o]at u;have C:w.heap.size<s.heap.size:=Ap q;go_wp2_with fail;refine u.j ?_;rintro e E ⟨rfl,rfl⟩;go_wp2;go_ret;exact⟨rfl,A⟩
def EC(gO gN:Cx->Ab)(f:F)(X:Ak)(k:Nat)(T:Ab):Prop:=
 (Cu gO X [] T/\∀(j:Nat)(c:Cx),j<k->X[j]?=some c->c.cp.neg=true->Ah c.cp.H f=true->¬Oc f j X [] T)∨∃(j:Nat)(c:Cx),j<k/\X[j]?=some c/\c.cp.neg=false/\Ah c.cp.H f=true/\QM gN f j X [] T
def G9(gO gN:Cx->Ab)(f:F)(X:Ak)(k:Nat)(T:Ab):Prop:=
 (Cu gO X [] T/\f ∉ T)∨∃(j:Nat)(c:Cx),j<k/\X[j]?=some c/\c.cp.neg=true/\Ah c.cp.H f=true/\QM gN f j X [] T
section
variable {gO gN : Cx -> Ab} {f : F} {X : Ak} {k : Nat} {T : Ab} {c : Cx}
def zrR:EC gO gN f X 0 T↔Cu gO X [] T:=by simp[Cu,EC]
def TN(h:P:=by exact .inr ⟨j,d,by omega,h⟩):=h
def zqs(g:X[k]?=some c)(e:Ah c.cp.H f=false):EC gO gN f X (k+1) T↔EC gO gN f X k T:=by
 constructor
 .rintro(⟨b,a⟩|⟨j,d,hj,hd,b,a,l⟩)
  .exact .inl ⟨b,λj d hj=>a j d qd⟩
  refine .inr ⟨j,d,?_,hd,b,a,l⟩;rcases Wg j k with h|h
  .exact h
  obtain rfl:j=k:=qd;rw[g]at hd;cases hd;rw[e]at a;cases a
 rintro(⟨b,a⟩|⟨j,d,hj,h⟩)
 .refine .inl ⟨b,λj d hj hd i O=>?_⟩;rcases Wg j k with h|h
  .exact a j d h hd i O
  obtain rfl:j=k:=qd;rw[g]at hd;cases hd;rw[e]at O;cases O
 exact TN
def se(h:P:=by
 rcases Wg j k with h|h
 .exact .inl (.inr ⟨j,d,h,hd,h1,h2,h3⟩)
 obtain rfl:j=k:=by omega
 exact .inr h3
 ):=h
def zta(b:X[k]?=some c)(a:c.cp.neg=false)(e:Ah c.cp.H f=true):EC gO gN f X (k+1) T↔EC gO gN f X k T∨QM gN f k X [] T:=by
 constructor
 .rintro(⟨h1,h2⟩|⟨j,d,hj,hd,h1,h2,h3⟩)
  .exact .inl (.inl ⟨h1,λj d hj=>h2 j d qd⟩)
  exact se
 rintro((⟨h1,h2⟩|⟨j,d,hj,h⟩)|h)
 .refine .inl ⟨h1,λj d hj hd O g=>?_⟩;rcases Wg j k with h|h
  .exact h2 j d h hd O g
  obtain rfl:j=k:=qd;rw[b]at hd;cases hd;rw[a]at O;cases O
 .exact TN
 exact .inr ⟨k,c,qd,b,a,e,h⟩
def zse(o:∀c∈X,∀x,x∈gN c↔x∈gO c∨(Ah c.cp.H f=true/\x=f))(g:X[k]?=some c)(m:c.cp.neg=true)(i:Ah c.cp.H f=true):EC gO gN f X (k+1) T↔EC gO gN f X k T/\¬Oc f k X [] T:=by
 have s:∀d,X[k]?=some d->CT d=true->f∈gN d:=λd hd _=>by
  rw[g]at hd;cases hd;exact(o c (yd g) f).2 (.inr ⟨i,rfl⟩)
 constructor
 .rintro(⟨a,b⟩|⟨j,d,hj,hd,a,b,n⟩)
  .exact⟨.inl ⟨a,λj d hj=>b j d qd⟩,b k c qd g m i⟩
  have r:Cu gN X [] T:=Sd.cC (λe l _=>by
   rw[hd]at l;cases l;exact(o d (yd hd) f).2 (.inr ⟨b,rfl⟩)) n
  refine⟨.inr ⟨j,d,?_,hd,a,b,n⟩,r.free s⟩;rcases Wg j k with h|h
  .exact h
  obtain rfl:j=k:=qd;rw[g]at hd;cases hd;rw[m]at a;cases a
 rintro⟨⟨a,b⟩|⟨j,d,hj,h⟩,q⟩
 .refine .inl ⟨a,λj d hj hd O p=>?_⟩;rcases Wg j k with h|h
  .exact b j d h hd O p
  obtain rfl:j=k:=qd;exact q
 exact TN
def zsS(l:∀c∈X,∀x,x∈gN c↔x∈gO c∨(Ah c.cp.H f=true/\x=f)):EC gO gN f X X.length T↔Cu gN X [] T:=by
 rw[show Cu gN X [] T↔_ from mT (p:=λc=>Ah c.cp.H f) (λc k x=>l c k x)];constructor
 .rintro(⟨a,b⟩|⟨j,d,_,hd,a,b,i⟩)
  .exact .inl ⟨a,λj d hd g e=>b j d (yf.1 hd).1 hd g e⟩
  exact .inr ⟨j,d,hd,a,b,i⟩
 rintro(⟨a,b⟩|⟨j,d,hd,a,b,i⟩)
 .exact .inl ⟨a,λj d _ hd g e=>b j d hd g e⟩
 exact .inr ⟨j,d,(yf.1 hd).1,hd,a,b,i⟩
def EC.cC(i:∀c∈X,∀x,x∈gN c↔x∈gO c∨(Ah c.cp.H f=true/\x=f))(h:EC gO gN f X k T):Cu gO X [] T∨Cu gN X [] T:=by
 rcases h with h|⟨j,d,_,hd,l,b,g⟩
 .exact .inl h.1
 exact .inr (Sd.cC (λe a _=>by
  rw[hd]at a;cases a;exact(i d (yd hd) f).2 (.inr ⟨b,rfl⟩)) g)
def zpB:G9 gO gN f X 0 T↔Cu gO X [] T/\f ∉ T:=by simp[G9,Cu]
def o8(g:X[k]?=some c)(e:¬(c.cp.neg=true/\Ah c.cp.H f=true)):G9 gO gN f X (k+1) T↔G9 gO gN f X k T:=by
 constructor
 .rintro(h|⟨j,d,hj,hd,a,b,i⟩)
  .exact .inl h
  refine .inr ⟨j,d,?_,hd,a,b,i⟩;rcases Wg j k with h|h
  .exact h
  obtain rfl:j=k:=qd;rw[g]at hd;cases hd;exact absurd ⟨a,b⟩ e
 rintro(h|⟨j,d,hj,h⟩)
 .exact .inl h
 exact TN
def ztk(e:X[k]?=some c)(b:c.cp.neg=true)(a:Ah c.cp.H f=true):G9 gO gN f X (k+1) T↔G9 gO gN f X k T∨QM gN f k X [] T:=by
 constructor
 .rintro(h|⟨j,d,hj,hd,h1,h2,h3⟩)
  .exact .inl (.inl h)
  exact se
 rintro((h|⟨j,d,hj,h⟩)|h)
 .exact .inl h
 .exact TN
 exact .inr ⟨k,c,qd,e,b,a,h⟩
def zsk(k:∀c∈X,∀x,x∈gN c↔x∈gO c/\x≠f)(g:∀c∈X,f∈gO c->Ah c.cp.H f=true):G9 gO gN f X X.length T↔Cu gN X [] T:=by
 rw[show Cu gN X [] T↔_ from m8 (p:=λc=>Ah c.cp.H f) (λc i x=>k c i x) g];constructor
 .rintro(h|⟨j,d,_,hd,a,b,e⟩)
  .exact .inl h
  exact .inr ⟨j,d,hd,a,b,e⟩
 rintro(h|⟨j,d,hd,a,b,e⟩)
 .exact .inl h
 exact .inr ⟨j,d,(yf.1 hd).1,hd,a,b,e⟩
end
def Jp(adr:F->Addr)(S:Ab->Prop)(K:Av):Prop:=∀x,x∈K↔∃T,S T/\x=Ae adr T
def Jp.congr{adr S O K}(h:Jp adr S K)(a:∀T,S T↔O T):Jp adr O K:=λx=>by
 rw[h x];simp only[a]
def Jp.dP{adr}{S:Ab->Prop}:∀{K:Av},(∀x∈K,∃T,S T/\x=Ae adr T)->∃TT:Am,K=TT.map (Ae adr)/\∀T∈TT,S T
 |[],_=>⟨[],rfl,λT a=>by simp at a⟩
 |x::K,h=>by
  obtain⟨T,a,e⟩:=h x qf
  obtain⟨TT,c,d⟩:=Jp.dP (K:=K) (λy hy=>h y Ny)
  refine⟨T::TT,by rw[yx,<-e,<-c],λV b=>?_⟩
  rcases yW.1 b with rfl|b
  .exact a
  exact d V b
def ztS(i l g T c f k b j w)(m:Bk w k #[.bool c.cp.neg,I6 (c.cp.Y:Int),Pn c.node,.slice c.ta c.cp.y.length c.tc] 197)(n:Bk w b #[.pointer j] 106)(o:E_ w (.pointer i) (.pointer l) (.pointer g) T)(r:EJ w c.ta c.cp.y)(hF:DJ w (.pointer j) f)(hl:c.cp.y.length<=1048576)(a:∀t∈c.cp.y,t.ah T f) :
  Ca 311 #[.agg #[.pointer i,.pointer l,.pointer g],Pn k,Pn b] w λe w'=>e=.returned (.bool (JT c T f))/\Bw w w':=by
 have p:=Ad (λu(hu:Bw w u)=>PQ (.bool c.cp.neg) (I6 (c.cp.Y:Int)) (Pn c.node) (.pointer i) (.pointer l) (.pointer g) (.pointer j) c.cp.y c.ta c.tc T f u (r.e hu) (o.e hu) (hF.e hu) hl a);obtain⟨d,hd⟩:=AF (JT c T f);rw[show c.cp.y.all (AA T f)=d from hd.z]at p;rw[<-hd];clear hd a o r hF;go_enter func311,ntmps311;go_upto_region 1 with fail;refine BF ?_;intro s O v;obtain⟨H,D,t2⟩:=Ea v rfl;obtain⟨B,I,E,C⟩:=AX ((O.block k (Ap m)).c m);have A:=A8 ((O.block b (Ap n)).c n);have q:=Ad O;go_wp2_with fail;refine(p s q).rtn λG x=>?_;go_wp2;go_ret;exact⟨rfl,q.thn x⟩
def zs7(f g b O a w)(m:Bk w O #[.pointer a] 106)(j:A_ w (f,g,b))(hv:BB w a) :
  Ca 312 #[.agg #[.pointer f,.pointer g,.pointer b],Pn O] w λe w'=>e=.returned (.bool (decide (a∈[f,g,b])))/\Bw w w':=by
 have k:=Ad (λu(hu:Bw w u)=>zpo f g b a u (j.e hu) (hv.W (CK.u hu)));obtain⟨d,hd⟩:=AF (decide (a∈[f,g,b]));rw[<-hd]at k⊢;clear hd j hv;go_enter func312,ntmps312;go_upto_region 1 with fail;refine BF ?_;intro o i p;obtain⟨s,t,t2⟩:=Ea p rfl;have q:=A8 ((i.block O (Ap m)).c m);have l:=Ad i;go_wp2_with fail;refine(k o l).rtn λr n=>?_;go_wp2;go_ret;exact⟨rfl,l.thn n⟩
structure TD where
 adr:F->Addr
 U:Ab
 X:Ak
 vw:Nat->Af × Nat × Ab
 ca:Af
 cc:Nat
 va:Af
 n:Nat
 vc:Nat
 mb:Nat
 cb:Nat
 nb:Nat
 wb:Nat
def TD.g(D:TD)(c:Cx):Ab:=(D.vw c.node).2.2
structure Gz(D:TD):Prop where
 small:∀c∈D.X,c.cp.y.length<=6/\c.cp.H.y.length<=1048576
 X6:D.X.length<=6
 few:∀c∈D.X,(D.g c).length<=1000
 sub:∀c∈D.X,∀x∈D.g c,x∈D.U/\Ah c.cp.H x=true
 sr:Ff (D.X.map (CB D.U)) []
 inj:BV D.adr D.U
structure G8(D:TD) (w:Aa):Prop where
 tb:QJ w D.mb (.slice D.ca D.X.length D.cc) (.slice D.va D.n D.vc) D.cb
 cx:∀(k:Nat)(c:Cx),D.X[k]?=some c->Eb D.adr D.vw D.ca w k c
 nd:∀c∈D.X,∃a n,DG w c.node c.cp.H a n
 us:Ch D.adr D.U w
theorem G8.W{D u w}(h:G8 D u)(b:CK u w):G8 D w:=⟨b _ _ _ _ h.tb,λk c d=>(h.cx k c d).W b,λc d=>by
 obtain⟨a,n,e⟩:=h.nd c d;exact⟨a,n,e.W b⟩,h.us.W b⟩
def TD.Z(D:TD)(h:Gz D)(sa:Int)(sf:Option F)(hs:∀f,sf=some f->f∈D.U):SN:={ adr:=D.adr,U:=D.U,l:=0,pb:=0,yb:=0,sb:=0,xb:=0,ca:=D.ca,cc:=D.cc,vv:=.slice D.va D.n D.vc,X:=D.X,vw:=D.vw,sa:=sa,sf:=sf,small:=λc hc=>(h.small c hc).1,X6:=h.X6,few:=h.few,sub:=λc hc f hf=>(h.sub c hc f hf).1,sfU:=hs }
structure Be(D:TD) (old:Av) (S:Ab->Prop) (w:Aa):Prop where
 ex:∃K M,Jp D.adr S K/\CP old K M/\CS w D.cb D.nb D.wb K M
def Be.C{D old S u w}(h:Be D old S u)(a:Bw u w):Be D old S w:=by
 obtain⟨K,M,b,c,d⟩:=h.ex;exact⟨K,M,b,c,d.e a⟩
def Be.congr{D old S O w}(h:Be D old S w)(a:∀T,S T↔O T):Be D old O w:=by
 obtain⟨K,M,b,c,d⟩:=h.ex;exact⟨K,M,b.congr a,c,d⟩
def Be.S(D:TD)(g:Nat):Prop:=g=D.nb∨g=D.wb
def tM(h:P:=by simp only[Yg];exact⟨λ⟨W,e,h⟩=>by rw[e];exact h,λh=>⟨V,rfl,h⟩⟩):=h
def uN(h:P:=by
 constructor
 .rintro(⟨T,hT,rfl⟩|hx)
  .exact⟨T,.inl hT,rfl⟩
  obtain⟨T,hT,rfl⟩:=yv.1 hx;exact⟨T,.inr ((hm T).1 hT),rfl⟩
 rintro⟨T,hT|hT,rfl⟩
 .exact .inl ⟨T,hT,rfl⟩
 exact .inr (yv.2 ⟨T,(hm T).2 hT,rfl⟩)
 ):=h
def jy(D)(O:Gz D)(old S)(k:Nat)(c f w)(m:G8 D w)(hS:Be D old S w)(b:D.X[k]?=some c)(af:f∈D.U)(p:Ah c.cp.H f=true) :
  Ca 156 #[Pn D.mb,.agg #[I6 (k:Int),.pointer (some (D.adr f))]] w λe w'=>e=.returned (.tuple #[])/\Be D old (λT=>S T∨QM D.g f k D.X [] T) w'/\CK w w'/\AM (Be.S D) w w':=by
 obtain⟨K,M,G,z,t⟩:=hS.ex;have hs:∀g,some f=some g->g∈D.U:=λg e=>by cases e;exact af
 have ah:Lh (D.Z O (k:Int) (some f) hs) 0 D.X []:=UR _ D.X 0 [] O.sr (λc b x hx=>O.sub c b x hx) (λi d hd e=>by
  have:i=k:=by
   have I:(k:Int)=((0+i:Nat):Int):=e;omega
  subst this;rw[b]at hd;cases hd;exact⟨f,rfl,af,p⟩)
 refine(nV (D.Z O (k:Int) (some f) hs) old K M D.mb D.cb D.nb D.wb D.va D.n D.vc w rfl m.tb m.cx m.us t z ah).j λe w' q=>?_;obtain⟨s,⟨E,r,y,u,B⟩,C,A⟩:=q;refine⟨s,⟨E,r,λx=>?_,u,B⟩,C,A⟩;rw[y x,G x];have hm:∀V,V∈Ed (D.Z O (k:Int) (some f) hs) 0 D.X []↔QM D.g f k D.X [] V:=λV=>by
  rw[m9 _ f rfl D.X 0 k [] V (yf.1 b).1 (by simp[TD.Z])];exact tM
 exact uN
def kA(D)(H:Gz D)(old S)(p:Ab->Bool)(fn:Nat)(d w)(k:G8 D w)(hS:Be D old S w)(c:∀T,S T->T.length<=3/\∀f∈T,f∈D.U)(v:∀args w,(callFunc fn args).run prog w=.ok (.enter fn args) w)(J:∀T,S T->∀u,CK w u->Ca fn (#[Bh (Ae D.adr T)]++d) u λe I=>e=.returned (.bool (p T))/\Bw u I) :
  Ca 310 #[Pn D.mb,.func (.func fn) #[] d] w λe w'=>e=.returned (.tuple #[])/\Be D old (λT=>S T/\p T=false) w'/\CK w w'/\AM (Be.S D) w w':=by
 obtain⟨K,M,l,A,t⟩:=hS.ex;obtain⟨TT,i,b⟩:=Jp.dP (adr:=D.adr) (S:=S) (K:=K) (λx a=>(l x).1 a);refine(zsE D.adr p old TT K M D.mb D.cb D.nb D.wb fn _ _ d w k.tb t (by rw[i]) A v (λT O u hu=>⟨Rk k.us (c T (b T O)).2,J T (b T O) u hu⟩)).j λe w' q=>?_;obtain⟨r,⟨G,o,z,y,C⟩,E,B⟩:=q;refine⟨r,⟨G,o,λx=>?_,y,C⟩,E,B⟩;rw[z.mem_iff];constructor
 .intro a;obtain⟨T,O,rfl⟩:=yv.1 a;obtain⟨m,s⟩:=yh.1 O;exact⟨T,⟨b T m,by simpa using s⟩,rfl⟩
 rintro⟨T,⟨O,n⟩,rfl⟩;have a:Ae D.adr T∈K:=(l _).2 ⟨T,O,rfl⟩;rw[i]at a;obtain⟨V,g,e⟩:=yv.1 a;have:=LC H.inj (c V (b V g)).2 (c T O).2 (c V (b V g)).1 (c T O).1 e;subst this;exact yS (yh.2 ⟨g,by rw[n];rfl⟩)
theorem EC.len{D}(O:Gz D){gO f k T}(d:∀c∈D.X,∀x,x∈D.g c↔x∈gO c∨(Ah c.cp.H f=true/\x=f))(h:EC gO D.g f D.X k T):T.length<=3/\∀f∈T,f∈D.U:=by
 have af:∀c∈D.X,∀x∈gO c,x∈D.U/\Ah c.cp.H x=true:=λc b x e=>O.sub c b x ((d c b x).2 (.inl e));rcases h.cC d with h|h
 .have:=On O.sr af h qf qf;simpa using this
 have:=On O.sr O.sub h qf qf;simpa using this
def EC.eF{D}(d:Gz D){gO f k c T}(n:∀c∈D.X,∀x,x∈D.g c↔x∈gO c∨(Ah c.cp.H f=true/\x=f))(O:f∈D.U)(b:D.X[k]?=some c)(m:c.cp.neg=true)(e:Ah c.cp.H f=true)(h:EC gO D.g f D.X k T):(Oc f k D.X [] T↔JT c T f=true)/\∀t∈c.cp.y,t.ah T f:=by
 have af:∀c∈D.X,∀x∈gO c,x∈D.U/\Ah c.cp.H x=true:=λc b x p=>d.sub c b x ((n c b x).2 (.inl p));rcases h.cC n with h|h
 .have:=Vq b d.sr af O e m h;simpa using this
 have:=Vq b d.sr d.sub O e m h;simpa using this
def zmp:∀args w,(callFunc 311 args).run prog w=.ok (.enter 311 args) w:=enters_of func311 qg rfl
def zsM(D)(hD:Gz D)(old gO f w)(hW:G8 D w)(hS:Be D old (Cu gO D.X []) w)(hg:∀c∈D.X,∀x,x∈D.g c↔x∈gO c∨(Ah c.cp.H f=true/\x=f))(p:f∈D.U) :
  Ca 306 #[.pointer (some ⟨D.mb,0,none⟩),.pointer (some (D.adr f))] w λe w'=>e=.returned (.tuple #[])/\Be D old (Cu D.g D.X []) w'/\CK w w'/\AM (Be.S D) w w':=by
 obtain⟨HW,HS,l,b⟩:=BP hW hS hg hD;have a4:=hD.X6;have a0:=Le;go_enter func306,ntmps306;go_upto_region 1 with fail;refine BF ?_;intro w1 Y aM;obtain⟨Q1,aG,aI⟩:=AK aM Y (HW.W (CK.u Y));have v0:=Bf (L:=[_,_,_]) aI.tb (j:=0) rfl;have aX:=Ad ((HS.C Y).congr (λT=>(zrR (gO:=gO) (gN:=D.g) (f:=f) (X:=D.X) (T:=T)).z));go_wp2_with fail
 go_loopw [12] (λiv wr=>∃k:Nat,iv=.int .i64 (k:Int)/\k<=D.X.length/\Be D old (EC gO D.g f D.X k) wr/\CK w1 wr/\AM (Be.S D) w1 wr) (mz D.X.length)
 .exact⟨0,rfl,yn _,aX,λ_ _ _ _ h=>h,AM.refl _ _⟩
 obtain⟨k,rfl,hk,aW,aU,aV⟩:=hrel;obtain⟨t,m,v⟩:=AK aW aU aV;by_cases aJ:k<D.X.length
 .obtain⟨c,K⟩:=Bq aJ;have M:=yd K;have B:=aI.W m;obtain⟨gb,aP,⟨c0,c1,c2,c3⟩,aN,_⟩:=B.cx k c K;rw[aP];obtain⟨na,nn,aQ⟩:=B.nd c M;obtain⟨z0,z1⟩:=CZ aJ;obtain⟨i,a5,HWR⟩:=AK K aN B;have fq:=m _ _ _ _ Q1;have aO:=Ad (λ(u:Aa)(hu:Bw wr u)=>RX c.node c.cp.H na nn (.pointer (some (D.adr f))) f u (aQ.e hu) ((B.us f p).1.e hu) (b.small c M).2);go_upto_region 5 with fail;refine BF ?_;intro w2 I aF;obtain⟨R,Q2⟩:=An I aF;obtain⟨A,d1,d2,d3⟩:=AX aF;have aK:=(I.block _ (Ap fq)).c fq;have f0:=A8 aK;obtain⟨aH,r⟩:=An aK (aO w2 I)
  cases s:Ah c.cp.H f
  .rw[s]at r;have d:=Ad s;go_wp2_with fail;refine r.rtn λy a=>?_;have O:=Ad (R.thn a);go_wp2;exact⟨⟨k+1,qm,qd,(t.C O).congr (λT=>(zqs i d).z),m.c (CK.u O),v.c (AM.u O)⟩,qe⟩
  rw[s]at r;have d:=Ad s;cases E:c.cp.neg
  .rw[E]at A;have q:=Ad E;go_wp2_with fail;refine r.rtn λy a=>?_;have O:=Ad (R.thn a);have aY:=zab a A;have aZ:=zab a f0;have aT:=Ad (jy D b old (EC gO D.g f D.X k) k c f y (HWR.W (CK.u O)) (t.C O) i p d);go_wp2_with fail;refine aT.rtn λw4⟨G,Z,N⟩=>?_;obtain⟨J,aE,az⟩:=AK G Z N;go_wp2;exact⟨⟨k+1,qm,qd,J.congr (λT=>(zta i q d).z),m.c ((CK.u O).c aE),v.c ((AM.u O).c az)⟩,qe⟩
  rw[E]at A;have q:=Ad E;go_wp2_with fail;refine r.rtn λy a=>?_;have O:=Ad (R.thn a);have aY:=zab a A;have aL:=(a.block _ (Ap Q2)).c Q2;have aS:=(a.block _ (Ap aH)).c aH;have aR:=Ad (kA D b old (EC gO D.g f D.X k) (λT=>JT c T f) 311 #[.pointer (some ⟨wr.heap.size,0,none⟩),.pointer (some ⟨w.heap.size,0,none⟩)] y (HWR.W (CK.u O)) (t.C O) (λT n=>n.len b l) zmp (λT n u hu=>by
   have hl:=n.len b l;have aD:=HWR.W ((CK.u O).c hu);obtain⟨_,_,_,hj,_⟩:=aD.cx k c i;exact ztS (T[0]?.map D.adr) (T[1]?.map D.adr) (T[2]?.map D.adr) T c f wr.heap.size w.heap.size (some (D.adr f)) u (hu _ _ _ _ aL) (hu _ _ _ _ aS) (Td aD.us hl.2 hl.1) hj (aD.us f p).1 (yi (b.small c M).1 qi) (n.eF b l p i q d).2))
  go_wp2_with fail;refine aR.rtn λw4⟨G,Z,N⟩=>?_;obtain⟨J,aE,az⟩:=AK G Z N;go_wp2;go_roundw
  case rel=>
   refine⟨k+1,qm,qd,J.congr (λT=>?_),m.c ((CK.u O).c aE),v.c ((AM.u O).c az)⟩;rw[zse l.o i.o q.o d.o];refine and_congr_right λn=>?_;rw[(n.eF b.o l.o p i.o q.o d.o).1];simp
  case measure=>(simp;omega)
 obtain rfl:k=D.X.length:=qd;have z1:¬(D.X.length:Int)<(D.X.length:Int):=qd;go_wp2_with fail;refine bodyPost_end (results_none rfl _ _ _) rfl ⟨rfl,t.congr (λT=>zsS l),(CK.u aG).c m,(AM.u aG).c v⟩
def ze{adr}{U T:Ab}{f}(c:BV adr U)(d:T.length<=3/\∀f∈T,f∈U)(j:f∈U):some (adr f)∈[T[0]?.map adr,T[1]?.map adr,T[2]?.map adr]↔f∈T:=by
 have key:∀i:Nat,T[i]?.map adr=some (adr f)->f∈T:=λi a=>by
  obtain⟨g,l,e⟩:=Ye.1 a;have b:=yd l;rw[<-c g (d.2 g b) f j e];exact b
 constructor
 .intro h;simp only[yW,Yw,or_false]at h;rcases h with h|h|h
  .exact key 0 h.z
  .exact key 1 h.z
  exact key 2 h.z
 intro h;obtain⟨i,a⟩:=YQ h;have O:=(yf.1 a).1
 match i,a,O with
 |0,a,_=>simp[a]
 |1,a,_=>simp[a]
 |2,a,_=>simp[a]
 |k+3,_,O=>omega
def zmg:∀args w,(callFunc 312 args).run prog w=.ok (.enter 312 args) w:=enters_of func312 qg rfl
def ztc(D)(hD:Gz D)(old gO f w)(hW:G8 D w)(hS:Be D old (Cu gO D.X []) w)(hg:∀c∈D.X,∀x,x∈D.g c↔x∈gO c/\x≠f)(aJ:∀c∈D.X,∀x∈gO c,x∈D.U/\Ah c.cp.H x=true)(I:f∈D.U) :
  Ca 308 #[Pn D.mb,.pointer (some (D.adr f))] w λe w'=>e=.returned (.tuple #[])/\Be D old (Cu D.g D.X []) w'/\CK w w'/\AM (Be.S D) w w':=by
 obtain⟨HW,HS,HG,aL,E⟩:=Ei hW hS hg aJ hD;have a8:=hD.X6;have n:∀T,Cu gO D.X [] T->T.length<=3/\∀f∈T,f∈D.U:=λT b=>by
  have:=On hD.sr aJ b qf qf;simpa using this
 have N:=Ad n;have a7:=Le;go_enter func308,ntmps308;go_upto_region 1 with fail;refine BF ?_;intro w0 M aB;have Q0:=Ad aB;have aA:=Ad M;have K:=Ad (HW.W (CK.u M));have aQ:=Ad (kA D E old (Cu gO D.X []) (λT=>decide (some (D.adr f)∈[T[0]?.map D.adr,T[1]?.map D.adr,T[2]?.map D.adr])) 312 #[Pn w.heap.size] w0 K (HS.C M) (λT b=>N T b) zmg (λT b u hu=>by
  have hl:=N T b;have aE:=K.W hu;exact zs7 (T[0]?.map D.adr) (T[1]?.map D.adr) (T[2]?.map D.adr) w.heap.size (some (D.adr f)) u (hu _ _ _ _ aB) (Rk aE.us hl.2) (aE.us f I).2))
 go_wp2_with fail;refine aQ.rtn λw1⟨R,J,aG⟩=>?_;have aS:=Ad J;have a0:=Ad aG;have aF:=Ad (K.W J);have v0:=Bf (L:=[_,_,_]) aF.tb (j:=0) rfl;have Q1:=Ad (J _ _ _ _ Q0);have a4:=Ad (R.congr (λT=>show(Cu gO D.X [] T/\decide (some (D.adr f)∈[T[0]?.map D.adr,T[1]?.map D.adr,T[2]?.map D.adr])=false)↔G9 gO D.g f D.X 0 T by
  rw[zpB];refine and_congr_right λb=>?_;rw[decide_eq_false_iff_not,ze E.o.inj (N.o T b) I]))
 go_wp2_with fail
 go_loopw [15] (λiv wr=>∃k:Nat,iv=I6 (k:Int)/\k<=D.X.length/\Be D old (G9 gO D.g f D.X k) wr/\CK w1 wr/\AM (Be.S D) w1 wr) (mz D.X.length)
 .exact⟨0,rfl,yn _,a4,λ_ _ _ _ h=>h,AM.refl _ _⟩
 obtain⟨k,rfl,hk,aY,aV,aW⟩:=hrel;obtain⟨A,ah,t⟩:=AK aY aV aW;by_cases aH:k<D.X.length
 .obtain⟨c,m⟩:=Bq aH;have aC:=yd m;have p:=aF.W ah;obtain⟨gb,aN,⟨c0,c1,c2,c3⟩,a6,_⟩:=p.cx k c m;rw[aN];obtain⟨na,nn,aO⟩:=p.nd c aC;obtain⟨z0,z1⟩:=CZ aH;obtain⟨s,HWR⟩:=An m p;have fq:=ah _ _ _ _ Q1;have aK:=Ad (λ(u:Aa)(hu:Bw wr u)=>RX c.node c.cp.H na nn (.pointer (some (D.adr f))) f u (aO.e hu) ((p.us f I).1.e hu) (E.small c aC).2);go_upto_region 5 with fail;refine BF ?_;intro w2 Z aM;have d:=Ad Z;obtain⟨d0,d1,d2,d3⟩:=AX aM;have aX:=(Z.block _ (Ap fq)).c fq;have f0:=A8 aX;have af:=Ad (aK w2 Z)
  cases B:c.cp.neg
  .rw[B]at d0;have Y:=Ad B;go_wp2;exact⟨⟨k+1,qm,qd,(A.C d).congr (λT=>(o8 s (λq=>by rw[Y.o]at q;cases q.1)).z),ah.c (CK.u d),t.c (AM.u d)⟩,qe⟩
  rw[B]at d0;have Y:=Ad B;cases G:Ah c.cp.H f
  .rw[G]at af;have r:=Ad G;go_wp2_with fail;refine af.rtn λw3 y=>?_;have O:=Ad (d.thn y);go_wp2;exact⟨⟨k+1,qm,qd,(A.C O).congr (λT=>(o8 s (λq=>by rw[r.o]at q;cases q.2)).z),ah.c (CK.u O),t.c (AM.u O)⟩,qe⟩
  rw[G]at af;have r:=Ad G;go_wp2_with fail;refine af.rtn λw3 y=>?_;have O:=Ad (d.thn y);have a5:=zab y f0;have aU:=Ad (jy D E old (G9 gO D.g f D.X k) k c f w3 (HWR.W (CK.u O)) (A.C O) s I r);go_wp2_with fail;refine aU.rtn λw4⟨aT,aI,aD⟩=>?_;obtain⟨aP,aZ,aR⟩:=AK aT aI aD;go_wp2;exact⟨⟨k+1,qm,qd,aP.congr (λT=>(ztk s Y r).z),ah.c ((CK.u O).c aZ),t.c ((AM.u O).c aR)⟩,qe⟩
 obtain rfl:k=D.X.length:=qd;have z1:¬(D.X.length:Int)<(D.X.length:Int):=qd;go_wp2_with fail;refine bodyPost_end (results_none rfl _ _ _) rfl ⟨rfl,A.congr (λT=>zsk HG (λc m hf=>(aL c m f hf).2)),(CK.u aA).c (aS.c ah),(AM.u aA).c (a0.c t)⟩
def zrG(mb cb a v1 w)(h:QJ w mb a v1 cb):Ca 307 #[Pn mb] w λe w'=>e=.returned (Pn cb)/\w'=w:=by
 have b:=Bf (L:=[_,_,_]) h (j:=2) rfl;go_enter func307,ntmps307;go_wp2;exact bodyPost_ret (by simp[results,results307,go_sem]) rfl ⟨rfl,rfl⟩
def zqf(mb cb nb wb b v1 K M w)(h:QJ w mb b v1 cb)(O:CS w cb nb wb K M):Ca 309 #[Pn mb] w λe w'=>e=.returned (I6 (K.length:Int))/\w'=w:=by
 have d:=Bf (L:=[_,_,_]) h (j:=2) rfl;have f:=Bf (L:=[_,_]) O.q (j:=0) rfl;have a:=Zn (P:=prog) (ty:=3) Gc O.now;have c:(uv K).length=K.length:=by simp[uv]
 rw[c]at a;simp only[goInt]at a;go_enter func309,ntmps309;go_wp2;exact bodyPost_ret (by simp[results,results309,go_sem]) rfl ⟨rfl,rfl⟩
def CS.aD{S w w' cb nb wb T M}(h:CS w cb nb wb T M)(b:AM S w w')(a:CK w w')(c:¬S nb)(d:¬S wb):CS w' cb nb wb T M:=⟨a _ _ _ _ h.q,h.now.aD b a c,h.ak.aD b a d,h.ne⟩
def ZF{adr U cb nb wb S w w'}(b:CK w w')(c:AM S w w'):∀{l:Aw}{a:DK l},(∀g,Gn nb wb l g->¬S g)->FV adr U cb nb wb l w a->FV adr U cb nb wb l w' a
 |[],_,hs,h=>CS.aD h c b (hs _ (.inl rfl)) (hs _ (.inr rfl))
 |(.inl _,_)::_,_,hs,h=>⟨h.1.W b,h.2.1.aD c b (hs _ (.inl rfl)),ZF b c (λg d=>hs g (.inr d)) h.2.2⟩
 |(.inr _,_)::_,_,hs,h=>⟨h.1.W b,h.2.1.aD c b (hs _ (.inl rfl)),h.2.2.1.aD c b (hs _ (.inr (.inl rfl))),ZF b c (λg d=>hs g (.inr (.inr d))) h.2.2.2⟩
def MZ:(l:Aw)->DK l->Av × B_
 |[],a=>a
 |(.inl _,_)::r,a=>MZ r a.2
 |(.inr _,_)::r,a=>MZ r a.2.2
def UI:(l:Aw)->DK l->DK l
 |[],a=>(a.1,[])
 |(.inl _,_)::r,a=>(a.1,UI r a.2)
 |(.inr _,_)::r,a=>(a.1,a.2.1,UI r a.2.2)
def SW{adr U cb nb wb w}:∀{l:Aw}{a:DK l},FV adr U cb nb wb l w a->CS w cb nb wb (MZ l a).1 (MZ l a).2
 |[],_,h=>h
 |(.inl _,_)::r,a,h=>SW (l:=r) (a:=a.2) h.2.2
 |(.inr _,_)::r,a,h=>SW (l:=r) (a:=a.2.2) h.2.2.2
def JU{nb wb}:∀{l:Aw},Gn nb wb l nb/\Gn nb wb l wb
 |[]=>⟨.inl rfl,.inr rfl⟩
 |(.inl _,_)::r=>⟨.inr (JU (l:=r)).1,.inr (JU (l:=r)).2⟩
 |(.inr _,_)::r=>⟨.inr (.inr (JU (l:=r)).1),.inr (.inr (JU (l:=r)).2)⟩
def tT(h:P:=by
 rintro(e|e)
 .exact hw.2.2.2.2.1 (by rw[e];exact JU.1)
 exact hw.2.2.2.2.1 (by rw[e];exact JU.2)
 ):=h
def Zk{adr U cb nb wb w w'}(b:CK w w')(c:AM (λg=>g=nb∨g=wb) w w'):∀{l:Aw}{a:DK l},Lo cb nb wb l->FV adr U cb nb wb l w a->CS w' cb nb wb (MZ l a).1 []->FV adr U cb nb wb l w' (UI l a)
 |[],_,_,_,hc=>hc
 |(.inl d,_)::r,_,hw,h,hc=>by
  have f:¬(d.tb=nb∨d.tb=wb):=by
   exact tT
  exact⟨h.1.W b,h.2.1.aD c b f,Zk b c hw.2.2.2.2.2 h.2.2 hc⟩
 |(.inr d,_)::r,_,hw,h,hc=>by
  have f:¬(d.tb=nb∨d.tb=wb):=by
   exact tT
  have i:¬(d.bb=nb∨d.bb=wb):=by
   rintro(e|e)
   .exact hw.2.2.2.2.2.1 (by rw[e];exact JU.1)
   exact hw.2.2.2.2.2.1 (by rw[e];exact JU.2)
  exact⟨h.1.W b,h.2.1.aD c b f,h.2.2.1.aD c b i,Zk b c hw.2.2.2.2.2.2 h.2.2.2 hc⟩
def ni(K):CP K K []:=⟨λ_ h=>absurd h qf,λx=>(Int.sub_self _).z⟩
def Zm{adr old}:∀{l:Aw}{G TT:Am}{a:DK l},H_ adr old l G TT a->H_ adr (MZ l a).1 l G TT (UI l a)
 |[],_,_,_,h=>⟨h.1,ni _⟩
 |(.inl _,_)::_,_,_,_,h=>⟨h.1,Zm h.2⟩
 |(.inr _,_)::_,_,_,_,h=>⟨h.1,h.2.1,Zm h.2.2⟩
def Lv.cH{adr old vw hl}:∀{up:Value}{cs:Ak}{xs:AS}{TT:Am}{a:DK (AJ vw hl up cs xs)},xs.length=cs.length->Lv adr old (AJ vw hl up cs xs) TT a->(MZ _ a).1.Perm ((TT.flatMap (DD (cs.map (DV vw)))).map (Ae adr))/\CP old (MZ _ a).1 (MZ _ a).2
 |_,[],[],TT,a,_,h=>by
  have:TT.flatMap (DD (List.map (DV vw) []))=TT:=by
   exact ig
  rw[this];exact h
 |up,c::cs,x::xs,TT,a,hlen,h=>by
  revert a;rw[AJ,<-gD];cases b:c.cp.neg
  .rw[J5 b,if_neg qi];intro a h;exact Lv.cH Qn h.2
  .rw[J1 b,if_pos rfl];intro a h;exact Lv.cH Qn h.2.2
 |_,[],_::_,_,_,h,_=>by simp at h
 |_,_::_,[],_,_,h,_=>by simp at h
def zH(D)(O:Gz D)(old S w)(b:G8 D w)(hS:Be D old S w) :
  Ca 156 #[Pn D.mb,.agg #[I6 (-1),.pointer none]] w λe w'=>e=.returned (.tuple #[])/\Be D old (λT=>S T∨Cu D.g D.X [] T) w'/\CK w w'/\AM (Be.S D) w w':=by
 obtain⟨K,M,E,u,p⟩:=hS.ex;have hs:∀g,(none:Option F)=some g->g∈D.U:=λg e=>by cases e
 have af:Lh (D.Z O (-1) none hs) 0 D.X []:=UR _ D.X 0 [] O.sr (λc r x hx=>O.sub c r x hx) (λi d hd e=>by
  have A:(-1:Int)=((0+i:Nat):Int):=e;omega)
 refine(nV (D.Z O (-1) none hs) old K M D.mb D.cb D.nb D.wb D.va D.n D.vc w rfl b.tb b.cx b.us p u af).j λe w' q=>?_;obtain⟨m,⟨C,f,t,s,z⟩,B,y⟩:=q;refine⟨m,⟨C,f,λx=>?_,s,z⟩,B,y⟩;rw[t x,E x];have hm:∀V,V∈Ed (D.Z O (-1) none hs) 0 D.X []↔Cu D.g D.X [] V:=λV=>by
  rw[ZO _ D.X 0 [] V (λi _ e=>by
   have A:(-1:Int)=((0+i:Nat):Int):=e;omega)]
  exact tM
 exact uN
structure NV(D:TD) (w:Aa):Prop where
 cx:∀(k:Nat)(c:Cx),D.X[k]?=some c->Eb D.adr D.vw D.ca w k c
 nd:∀c∈D.X,∃a n,DG w c.node c.cp.H a n
 us:Ch D.adr D.U w
theorem NV.W{D u w}(h:NV D u)(d:CK u w):NV D w:=⟨λk c b=>(h.cx k c b).W d,λc b=>by
 obtain⟨a,n,e⟩:=h.nd c b;exact⟨a,n,e.W d⟩,h.us.W d⟩
def nN:CP [] [] []:=⟨λy a=>by simp at a,λx=>rfl⟩
def AM.aU{S w u v}(h:Bw w u)(k:AM S u v)(b:∀g,S g->w.heap.size<=g):Bw w v:=
 ⟨k.rest.os.c h.os,k.rest.tape.c h.tape,k.rest.output.c h.output,yi h.size k.rest.size,λg a=>(k.block g (yg a h.size) (λq=>by have:=b g q;omega)).c (h.block g a)⟩
def zkK(D)(M:Gz D)(w)(U:NV D w) :
  Ca 93 #[.agg #[.slice D.ca D.X.length D.cc,.slice D.va D.n D.vc]] w λe w'=>∃mb cb nb wb,e=.returned (.iface 256 (Pn mb))/\(w.heap.size<=mb/\w.heap.size<=cb/\w.heap.size<=nb/\w.heap.size<=wb)/\G8 { D with mb:=mb,cb:=cb,nb:=nb,wb:=wb } w'/\Be { D with mb:=mb,cb:=cb,nb:=nb,wb:=wb } [] (Cu D.g D.X []) w'/\Bw w w':=by
 obtain⟨HW,b⟩:=An U M;go_enter func93,ntmps93;go_upto_region 1 with fail;refine BF ?_;intro f J E;obtain⟨I,p1⟩:=AE E;have m:=Ad J
 go_region_held3 (λu=>At u w.heap.size 0 (.slice D.ca D.X.length D.cc)/\At u w.heap.size 1 (.slice D.va D.n D.vc))
  ((go_split_ands;first|done|(refine⟨?_,?_⟩<;>first|assumption|with_reducible exact zab ah qk|exact zab Ar aJ|exact zab Ar aF|exact zab Au.drew qk)))
  (first|(go_at_call 153;refine(sU _).j ?_;rintro e d ⟨cb,nb,wb,rfl,b1,b2,A,Y,G,Z,b7,ah⟩;have aJ:=zab ah I;have aF:=zab ah p1)|fail)
 rename_i aE;have aM:f.heap.size<=cb:=b1;have aN:f.heap.size<=nb:=b2;have aO:f.heap.size<=wb:=A;have y:=Ad (show Bw w d from m.drew.c (ah.j (show w.heap.size<=f.drew.heap.size from m.size)));have aa:=m.size;have aD:=y.size;have ar:=Ad (show CS d cb nb wb [] [] from⟨G,Z,b7,Y⟩);go_upto_region 2 with fail;refine BF ?_;intro p t H;obtain⟨z,q,K⟩:=AK (y.thn t) (show QJ p d.heap.size (.slice D.ca D.X.length D.cc) (.slice D.va D.n D.vc) cb from H) (ar.e t);have af:=Ad (HW.W (CK.u z));have aG:=Ad (λ(u:Aa)(hu:Bw p u)=>zH { D with mb:=d.heap.size,cb:=cb,nb:=nb,wb:=wb } ⟨b.small,b.X6,b.few,b.sub,b.sr,b.inj⟩ [] (λ_=>False) u ⟨(hu.block _ (Ap q)).c q,(af.W (CK.u hu)).cx,(af.W (CK.u hu)).nd,(af.W (CK.u hu)).us⟩ ⟨[],[],λx=>qf,nN,K.e hu⟩);go_wp2_with fail;refine(lH p).rtn λw4 r=>?_;obtain⟨aH,s⟩:=An (aG w4 r) r;go_wp2_with fail;refine aH.rtn λw5⟨L,R,N⟩=>?_;obtain⟨B,aK,az⟩:=AK L R N;go_wp2;go_ret;have O:=(CK.u s).c aK;refine⟨d.heap.size,cb,nb,wb,rfl,⟨aD,qd,qd,qd⟩,⟨O _ _ _ _ q,(af.W O).cx,(af.W O).nd,(af.W O).us⟩,B.congr (λT=>by simp;rfl),?_⟩;refine AM.aU (z.thn s) az (λg C=>?_);rcases C with e|e
 .have e:g=nb:=e;omega
 have e:g=wb:=e;omega
structure TC where
 X:Ak
 ca:Af
 cc:Nat
 va:Af
 n:Nat
 vc:Nat
 mb:Nat
 cb:Nat
 nb:Nat
 wb:Nat
def TC.D(t:TC)(adr:F->Addr)(U:Ab)(vw:Vw):TD:=⟨adr,U,t.X,vw,t.ca,t.cc,t.va,t.n,t.vc,t.mb,t.cb,t.nb,t.wb⟩
abbrev MK:=(RD × Af) ⊕ TC
namespace MK
def X:MK->Ak
 |.inl (R,_)=>R.X
 |.inr t=>t.X
def ca:MK->Af
 |.inl (_,c)=>c
 |.inr t=>t.ca
def cb:MK->Nat
 |.inl (R,_)=>R.cb
 |.inr t=>t.cb
def nb:MK->Nat
 |.inl (R,_)=>R.nb
 |.inr t=>t.nb
def wb:MK->Nat
 |.inl (R,_)=>R.wb
 |.inr t=>t.wb
def S:MK->Nat->Prop
 |.inl (R,_),g=>R.S g
 |.inr t,g=>g=t.nb∨g=t.wb
def val:MK->Value
 |.inl (R,_)=>.iface 248 (.pointer (some ⟨R.rb,0,none⟩))
 |.inr t=>.iface 256 (.pointer (some ⟨t.mb,0,none⟩))
def Ok:MK->Prop
 |.inl (R,_)=>∀U,Ml R U
 |.inr t=>(∀c∈t.X,c.cp.y.length<=6/\c.cp.H.y.length<=1048576)/\t.X.length<=6/\∀U,Ff (t.X.map (CB U)) []
def St(adr:F->Addr)(U:Ab)(vw:Vw)(g:Cx->Ab)(old:Av)(w:Aa):MK->Prop
 |.inl (R,_)=>FW R adr U vw g old w
 |.inr t=>G8 (t.D adr U vw) w/\Be (t.D adr U vw) old (Cu g t.X []) w
end MK
structure IR(m:MK) (adr:F->Addr) (U:Ab) (vw:Vw) (w:Aa):Prop where
 cx:∀(k:Nat)(c:Cx),m.X[k]?=some c->Eb adr vw m.ca w k c
 nd:∀c∈m.X,∃a n,DG w c.node c.cp.H a n
 us:Ch adr U w
theorem IR.W{m adr U vw u w}(h:IR m adr U vw u)(d:CK u w):IR m adr U vw w:=⟨λk c b=>(h.cx k c b).W d,λc b=>by
 obtain⟨a,n,e⟩:=h.nd c b;exact⟨a,n,e.W d⟩,h.us.W d⟩
def mH{t adr U vw}(h:MK.Ok (.inr t))(b:BV adr U)(hv:FL U t.X (gV vw)):Gz (t.D adr U vw):=
 ⟨h.1,h.2.1,λc a=>yi (hv c a).2.2 qd,λc a x d=>yh.1 ((hv c a).1 x d),h.2.2 U,b⟩
def MK.St.keep{m:MK}{adr U vw g old S w w'}(h:m.St adr U vw g old w)(b:CK w w')(i:AM S w w')(d:∀x,m.S x->¬S x):m.St adr U vw g old w':=by
 cases m with
 |inl O=>
  obtain⟨R,c⟩:=O;obtain⟨⟨a,e,f⟩,n⟩:=h;exact⟨⟨a,ZF b i (λg o=>d g (Ji.1 o)) e,f⟩,b _ _ _ _ n⟩
 |inr t=>
  obtain⟨e,f⟩:=h;obtain⟨K,M,l,j,k⟩:=f.ex;exact⟨e.W b,⟨K,M,l,j,k.aD i b (d _ (.inl rfl)) (d _ (.inr rfl))⟩⟩
def Zv{adr U cb nb wb w}:∀{l:Aw}{a:DK l},FV adr U cb nb wb l w a->∀n∈l,ST adr U w n
 |[],_,_,n,b=>absurd b (by simp)
 |(.inl d,fs)::r,a,h,n,b=>by
  rcases yW.1 b with rfl|b
  .exact h.1
  .exact Zv (l:=r) (a:=a.2) h.2.2 n b
 |(.inr d,fs)::r,a,h,n,b=>by
  rcases yW.1 b with rfl|b
  .exact h.1
  exact Zv (l:=r) (a:=a.2.2) h.2.2.2 n b
structure Sy(S:Nat->Prop) (w w':Aa):Prop where
 kept:∀(k:Nat)(c:Bl)(t:TypeId)(fr:Nat × Nat),w.heap[k]?=some (.cells c t fr)->(t=145∨t=263∨t=339∨t=336∨t=252∨t=258)->w'.heap[k]?=some (.cells c t fr)
 ao:∀(k:Nat)es cl,S k->w.heap[k]?=some (.map es cl)->w'.heap[k]?=some (.map es cl)
def EB.k{base S w w'}(h:EB base w w'):Sy S w w':=⟨λk c t b a ht=>h.kept k c t b a qy qy,λk _ _ _ a=>h.ao k _ a (λ_ _ _ e=>qo)⟩
def Ao.fk{S w w' b L}(h:Ao w b L)(d:Sy S w w')(hS:S b):Ao w' b L:=by
 obtain⟨es,a,j,f⟩:=h.Y;exact⟨⟨es,a,d.ao b _ _ hS j,f⟩,h.nd,λy e=>(h.ok y e).bc λg c i=>d.kept g c _ _ i (.inl rfl)⟩
def CS.fk{S w w' cb nb wb T M}(h:CS w cb nb wb T M)(a:Sy S w w')(b:S nb)(c:S wb):CS w' cb nb wb T M:=⟨a.kept _ _ _ _ h.q (.inr (.inl rfl)),h.now.fk a b,h.ak.fk a c,h.ne⟩
def nX{S adr adr' U k vw vw' w w' hl}(f:Sy S w w')(b:Ch adr' k w'):∀{up:Value}{cs:Ak}{xs:AS},(∀c∈cs,EJ w' c.ta c.cp.y/\At w' c.node 4 (.slice (vw' c.node).1 (vw' c.node).2.2.length (vw' c.node).2.1)/\Jq w' (vw' c.node).1 (vw' c.node).2.2 adr')->(∀n∈AJ vw hl up cs xs,ST adr U w n)->∀n∈AJ vw' hl up cs xs,ST adr' k w' n
 |_,[],[],_,_,n,a=>by simp[AJ]at a
 |_,[],_::_,_,_,n,a=>by simp[AJ]at a
 |_,_::_,[],_,_,n,a=>by simp[AJ]at a
 |up,c::cs,x::xs,hc,h,n,a=>by
  rw[AJ]at h a
  obtain⟨i,j,g⟩:=hc c qf
  rcases yW.1 a with rfl|a
  .have O:=h _ Wm
   cases e:c.cp.neg
   .rw[J5 e]at O⊢
    exact⟨f.kept _ _ _ _ O.q qf,j,g,i,b⟩
   rw[J1 e]at O⊢
   exact⟨f.kept _ _ _ _ O.q qf,j,g,i,b⟩
  exact nX f b (λd hd=>hc d LE) (λn a=>h n (YP _ a)) n a
def MK.St.bF{m adr adr' U C vw vw' g old w w'}(h:m.St adr U vw g old w)(E:m.Ok)(O:∀f∈U,adr' f=adr f)(q:FL U m.X g)(p:IR m adr' C vw' w')(hf:Sy m.S w w'):m.St adr' C vw' g old w':=by
 cases m with
 |inl J=>
  obtain⟨R,c⟩:=J;obtain⟨⟨a,r,B⟩,u⟩:=h;have y:Ml R U:=E U;have af:∀n∈R.l vw',ST adr' C w' n:=nX hf p.us (λc A=>by
   obtain⟨k,hk⟩:=YQ A;obtain⟨g,_,_,Y,q5,W⟩:=p.cx k c hk;exact⟨Y,q5,W⟩) (Zv r)
  obtain⟨a',s,D⟩:=Hs (Sx:=R.S) O (λb L hS Z=>Ao.fk Z hf hS) (λK M N=>CS.fk N hf (Ji.1 (JU (l:=R.l vw)).1) (Ji.1 (JU (l:=R.l vw)).2)) (R.l vw) (R.l vw') (R.X.map g) (R.X.map (λc:Cx=>U.filter (Ah c.cp.H))) [[]] a (λg q=>Ji.1 q) oP r B af (λT d=>by
   rw[yw.1 d];exact SP y.len y.sr qf qf) (FL.sub q) (by rw[yu];exact(ZK y.len).z)
  exact⟨⟨a',s,D⟩,u.same ((hf.kept _ _ _ _ u qf).c u.z)⟩
 |inr t=>
  obtain⟨r,B⟩:=h;obtain⟨K,M,s,D,I⟩:=B.ex;refine⟨⟨hf.kept _ _ _ _ r.tb qf,p.cx,p.nd,p.us⟩,⟨K,M,λx=>?_,D,I.fk hf (.inl rfl) (.inr rfl)⟩⟩;have key:∀T,Cu g t.X [] T->Ae adr' T=Ae adr T:=λT d=>RU λf hf=>O f ((On (E.2.2 U) (λc A x G=>yh.1 ((q c A).1 x G)) d qf qf).2 f (by simpa using hf));rw[s x];constructor
  .rintro⟨T,d,e⟩;exact⟨T,d,e.c (key T d).z⟩
  rintro⟨T,d,e⟩;exact⟨T,d,e.c (key T d)⟩
def CK.aF{nb wb w w' cb T M}(h:CS w cb nb wb T M)(d:AM (λg=>g=nb∨g=wb) w w'):CK w w':=λg c t b a=>by
 refine(d.block g (Ap a) ?_).c a;rintro(e|e)
 .exact h.now.aN c t b (e▸a)
 exact h.ak.aN c t b (e▸a)
def MK.dl:MK->Nat
 |.inl _=>301
 |.inr _=>306
def MK.dm:MK->Nat
 |.inl _=>303
 |.inr _=>308
def MK.dn:MK->Nat
 |.inl _=>304
 |.inr _=>309
def MK.dG:MK->Nat
 |.inl _=>302
 |.inr _=>307
def MK.bv:MK->Value
 |.inl (R,_)=>.pointer (some ⟨R.rb,0,none⟩)
 |.inr t=>.pointer (some ⟨t.mb,0,none⟩)
def zsZ{p f g v}(h:Hp 1 p f g v)(x):x∈v↔x∈g∨(p=true/\x=f):=by grind[Hp]
def zsH{p f g v}(h:Hp (-1) p f g v)(b:g.Nodup)(a:∀x∈g,x=f->p=true)(x):x∈v↔x∈g/\x≠f:=by grind[Hp]
def zsf(m)(b:m.Ok)(adr U)(d:BV adr U)(vw)(O:FL U m.X (gV vw))(g)(o:FL U m.X g)(old f)(i:f∈U)(w)(hS:m.St adr U vw g old w)(l:IR m adr U vw w)(k:∀c∈m.X,Hp 1 (Ah c.cp.H f) f (g c) (gV vw c)) :
  Ca m.dl #[m.bv,.pointer (some (adr f))] w λe w'=>e=.returned (.tuple #[])/\m.St adr U vw (gV vw) old w'/\CK w w'/\AM m.S w w':=by
 cases m with
 |inl n=>
  obtain⟨R,c⟩:=n;exact ztt R.rb _ (λw w'=>FW R adr U vw (gV vw) old w'/\CK w w'/\AM R.S w w') w (oS R adr U (b U) d vw O g o old 1 (.inl rfl) f i w hS (λc a=>⟨l.nd c a,k c a⟩))
 |inr t=>
  refine(zsM (t.D adr U vw) (mH b d O) old g f w hS.1 hS.2 (λc a x=>zsZ (k c a) x) i).j λe w' q=>?_;exact⟨q.1,⟨hS.1.W q.2.2.1,q.2.1⟩,q.2.2.1,q.2.2.2⟩
def zsJ(m)(i:m.Ok)(adr U)(k:BV adr U)(vw)(O:FL U m.X (gV vw))(g)(b:FL U m.X g)(old f)(l:f∈U)(w)(hS:m.St adr U vw g old w)(o:IR m adr U vw w)(n:∀c∈m.X,Hp (-1) (Ah c.cp.H f) f (g c) (gV vw c)) :
  Ca m.dm #[m.bv,.pointer (some (adr f))] w λe w'=>e=.returned (.tuple #[])/\m.St adr U vw (gV vw) old w'/\CK w w'/\AM m.S w w':=by
 cases m with
 |inl p=>
  obtain⟨R,c⟩:=p;exact ztP R.rb _ (λw w'=>FW R adr U vw (gV vw) old w'/\CK w w'/\AM R.S w w') w (oS R adr U (i U) k vw O g b old (-1) (.inr rfl) f l w hS (λc a=>⟨o.nd c a,n c a⟩))
 |inr t=>
  have d:∀c∈t.X,∀x∈g c,x∈U/\Ah c.cp.H x=true:=λc a x r=>yh.1 ((b c a).1 x r);refine(ztc (t.D adr U vw) (mH i k O) old g f w hS.1 hS.2 (λc a x=>zsH (n c a) (b c a).2.1 (λy s e=>e▸(d c a y s).2) x) d l).j λe w' q=>?_;exact⟨q.1,⟨hS.1.W q.2.2.1,q.2.1⟩,q.2.2.1,q.2.2.2⟩
def gh(m:MK){adr U vw g old w}(hS:m.St adr U vw g old w):Ca m.dG #[m.bv] w λe w'=>e=.returned (Pn m.cb)/\w'=w:=by
 cases m with
 |inl O=>
  obtain⟨R,c⟩:=O;exact vy R vw w hS.2
 |inr t=>exact zrG t.mb t.cb _ _ w hS.1.tb
def zo7{α β:Type}(h:α->List β):∀l:List α,l.Nodup->(∀x∈l,(h x).Nodup)->(∀x∈l,∀y∈l,∀z,z∈h x->z∈h y->x=y)->(l.flatMap h).Nodup:=by intro l;induction l<;>grind
def Nr{vw}:∀(cs:Ak)(T V:Ab),V∈DD (cs.map (DV vw)) T↔∃W,V=T++W/\Cu (gV vw) cs T W
 |[],T,V=>by
  simp only[YZ,DD,yw,Cu,Gq]
  exact⟨λh=>⟨[],by simp[h],rfl⟩,λ⟨W,h,e⟩=>by rw[h,e,yO]⟩
 |c::cs,T,V=>by
  have ih:=λT=>Nr (vw:=vw) cs T V
  rw[yx]
  cases d:c.cp.neg
  .rw[d_ (show(DV vw c).neg=false from d),Yq]
   constructor
   .rintro⟨f,i,b⟩
    split at b
    .rename_i g
     obtain⟨W,rfl,a⟩:=(ih _).1 b
     exact⟨f::W,qf,(Jh (show CT c=false from d)).2 ⟨f,W,rfl,i,g,a⟩⟩
    simp at b
   rintro⟨W,rfl,a⟩
   obtain⟨f,j,rfl,i,g,O⟩:=(Jh (show CT c=false from d)).1 a
   exact⟨f,i,by rw[if_pos (show(DV vw c).y.all (AA T f)=true from g)];exact(ih _).2 ⟨j,qf,O⟩⟩
  rw[Z7 (show(DV vw c).neg=true from d)]
  constructor
  .intro b
   split at b
   .simp at b
   rename_i g
   obtain⟨W,rfl,a⟩:=(ih _).1 b
   exact⟨W,rfl,(I_ (show CT c=true from d)).2 ⟨Ov.1 (Bool.eq_false_iff.2 g),a⟩⟩
  rintro⟨W,rfl,a⟩
  obtain⟨l,O⟩:=(I_ (show CT c=true from d)).1 a
  have k:(DV vw c).J.any (λf=>(DV vw c).y.all (AA T f))=false:=Ov.2 l
  rw[if_neg (by rw[k];decide)]
  exact(ih _).2 ⟨W,rfl,O⟩
def pj{vw}:∀{cs:Ak}{T:Ab},(∀c∈cs,(gV vw c).Nodup)->(DD (cs.map (DV vw)) T).Nodup
 |[],T,_=>by simp[DD]
 |c::cs,T,h=>by
  have O:=λT=>pj (vw:=vw) (cs:=cs) (T:=T) (λd hd=>h d LE)
  rw[yx]
  cases g:c.cp.neg
  .rw[d_ (show(DV vw c).neg=false from g)]
   refine zo7 _ _ (h c qf) (λf _=>?_) (λx _ y _ z a b=>?_)
   .split
    .exact O _
    exact Y4
   split at a
   .split at b
    .obtain⟨W,i,_⟩:=(Nr _ _ _).1 a
     obtain⟨j,e,_⟩:=(Nr _ _ _).1 b
     rw[i]at e
     simp only[yY,List.append_cancel_left_eq,WT,Yv]at e
     exact e.1
    simp at b
   simp at a
  rw[Z7 (show(DV vw c).neg=true from g)]
  split
  .exact Y4
  exact O _
def s_(h:P:=by rintro⟨T,hT,e⟩;obtain⟨W,e1,q1⟩:=(Nr _ _ _).1 hT;rw[Yg]at e1;subst e1;exact⟨_,q1,e.z⟩):=h
def MK.St.now{m:MK}{adr U vw old w}(h:m.St adr U vw (gV vw) old w)(p:m.Ok)(A:BV adr U)(O:FL U m.X (gV vw)):∃K M,CS w m.cb m.nb m.wb K M/\CP old K M/\K.Perm ((DD (m.X.map (DV vw)) []).map (Ae adr)):=by
 cases m with
 |inl y=>
  obtain⟨R,c⟩:=y;obtain⟨⟨a,B,r⟩,G⟩:=h;have o:Ml R U:=p U;have s:(R.l vw).map Prod.snd=R.X.map (gV vw):=Py o.len;rw[<-s]at r;obtain⟨d,j⟩:=Lv.cH o.len (JJ.1 r);simp only[yX,YY,yO]at d;exact⟨_,_,SW B,j,d⟩
 |inr t=>
  obtain⟨K,M,d,j,k⟩:=h.2.ex;refine⟨K,M,k,j,?_⟩;have b:∀T,Cu (gV vw) t.X [] T->T.length<=3/\∀f∈T,f∈U:=λT hT=>On (p.2.2 U) (λc i x u=>yh.1 ((O c i).1 x u)) hT qf qf;have v:K.Nodup:=by
   have:=k.now.nd;rwa [S1]at this
  have D:((DD (t.X.map (DV vw)) []).map (Ae adr)).Nodup:=by
   refine Wc.2 ((pj (λc i=>(O c i).2.1)).imp_of_mem ?_);intro T E hT C g e;obtain⟨W,e1,q1⟩:=(Nr _ _ _).1 hT;obtain⟨H,n,q⟩:=(Nr _ _ _).1 C;rw[Yg]at e1 n;subst e1;subst n;exact g (LC A (b _ q1).2 (b _ q).2 (b _ q1).1 (b _ q).1 e)
  refine(Wn v D).2 λx=>?_;rw[d x,yv];constructor
  .rintro⟨T,hT,e⟩;exact⟨T,(Nr _ _ _).2 ⟨T,rfl,hT⟩,e.z⟩
  exact s_
def sD(m:MK)(adr U vw old w)(h:m.St adr U vw (gV vw) old w)(r:m.Ok)(C:BV adr U)(O:FL U m.X (gV vw)) :
  Ca 94 #[Pn m.cb] w λe w'=>e=.returned (.tuple #[])/\(∃K,K.Perm ((DD (m.X.map (DV vw)) []).map (Ae adr))/\m.St adr U vw (gV vw) K w')/\CK w w'/\AM m.S w w':=by
 obtain⟨K0,H,s,_,v⟩:=h.now r C O;cases m with
 |inl B=>
  obtain⟨R,c⟩:=B;obtain⟨⟨a,o,u⟩,y⟩:=h;have f:Ml R U:=r U;have E:(R.l vw).map Prod.snd=R.X.map (gV vw):=Py f.len;have p:=u;rw[<-E]at p;obtain⟨i,D⟩:=Lv.cH f.len (JJ.1 p);simp only[yX,YY,yO]at i;refine(pO R.cb R.nb R.wb _ _ w (SW o)).j λe w' q=>?_;obtain⟨q1,n,b⟩:=q;have d:=CK.aF (SW o) b;refine⟨q1,⟨_,i,⟨_,Zk d b (UO f.ao (λc k=>⟨(f.small c k).1,(O c k).2.2,(f.small c k).2.2⟩)) o n,Zm u⟩,d _ _ _ _ y⟩,d,b.j λg A=>?_⟩;rcases A with rfl|rfl
  .exact Ji.1 (JU (l:=R.l vw)).1
  .exact Ji.1 (JU (l:=R.l vw)).2
 |inr t=>
  obtain⟨K,M,i,D,G⟩:=h.2.ex;refine(pO t.cb t.nb t.wb _ _ w s).j λe w' q=>?_;obtain⟨q1,n,b⟩:=q;have d:=CK.aF s b;refine⟨q1,⟨K0,v,h.1.W d,⟨K0,[],λx=>?_,ni _,n⟩⟩,d,b⟩;rw[v.mem_iff,yv];constructor
  .exact s_
  rintro⟨T,hT,e⟩;exact⟨T,(Nr _ _ _).2 ⟨T,rfl,hT⟩,e.z⟩
def zqv(m:MK)(adr U vw old w)(h:m.St adr U vw (gV vw) old w)(a:m.Ok)(g:BV adr U)(O:FL U m.X (gV vw)) :
  Ca m.dn #[m.bv] w λe w'=>(∃z,e=.returned (I6 z))/\w'=w:=by
 obtain⟨K0,d,f,_,i⟩:=h.now a g O;cases m with
 |inl b=>
  obtain⟨R,c⟩:=b;exact xp R adr U (a U) vw old w h
 |inr t=>exact(zqf t.mb t.cb t.nb t.wb _ _ K0 d w h.1.tb f).j λe w' q=>⟨⟨_,q.1⟩,q.2⟩
def A2(w:Aa)(c:Cx)(x:N5)(up hv:Value):Prop:=
 match c.cp.neg with
 |true=>NN w x.nb (.bool true) (.int .i64 (c.cp.Y:Int)) (.pointer (some ⟨c.node,0,none⟩)) up hv c.ta c.cp.y.length c.tc x.tb x.bb/\Ao w x.tb []/\Ao w x.bb []
 |false=>JN w x.nb (.bool false) (.pointer (some ⟨c.node,0,none⟩)) up hv c.cp.Y c.ta c.cp.y.length c.tc x.tb/\Ao w x.tb []
def Ao.af{w w' b}(h:Ao w b [])(d:w'.heap[b]?=w.heap[b]?):Ao w' b []:=by
 obtain⟨es,a,e,f⟩:=h.Y;exact⟨⟨es,a,d.c e,f⟩,h.nd,λy g=>by simp at g⟩
def FU(c:Cx)(x:N5):A5:=match c.cp.neg with|true=>[x.tb,x.bb]|false=>[x.tb]
def ZX{nb wb c x}:∀{cs:Ak}{xs:AS},xs.length=cs.length->(Dh nb wb (cs++[c]) (xs++[x])).Perm (FU c x++Dh nb wb cs xs)
 |[],[],_=>by
  show List.Perm (FU c x++[nb,wb]) _
  exact .refl _
 |d::cs,y::xs,h=>by
  have O:=ZX (nb:=nb) (wb:=wb) (c:=c) (x:=x) (cs:=cs) (xs:=xs) qu
  show List.Perm (FU d y++Dh nb wb (cs++[c]) (xs++[x])) (FU c x++(FU d y++Dh nb wb cs xs))
  refine((Y2 _).append O).c ?_
  rw[<-yY,<-yY]
  exact Kv.append (.refl _)
 |[],_::_,h=>by simp at h
 |_::_,[],h=>by simp at h
def Zz{nb wb}:∀{cs:Ak}{ys:AS},nb∈Dh nb wb cs ys/\wb∈Dh nb wb cs ys
 |[],_=>by simp[Dh]
 |_::_,[]=>by simp[Dh]
 |d::cs,y::ys=>⟨YD _ (Zz (cs:=cs) (ys:=ys)).1,YD _ (Zz (cs:=cs) (ys:=ys)).2⟩
def kQ{nb wb}:∀{cs:Ak}{ys:AS},(Dh nb wb cs ys).Nodup->nb≠wb
 |[],_,h=>by simpa[Dh] using h
 |_::_,[],h=>by simpa[Dh] using h
 |d::cs,y::ys,h=>kQ (cs:=cs) (ys:=ys) (yL.1 h).2.1
theorem A2.same{w w' c x up hv}(h:A2 w c x up hv)(b:w'.heap[x.nb]?=w.heap[x.nb]?)(a:∀g∈FU c x,w'.heap[g]?=w.heap[g]?):A2 w' c x up hv:=by
 unfold A2 FU at *
 cases d:c.cp.neg
 .rw[d]at h a;exact⟨b.c h.1,h.2.af (a _ qf)⟩
 rw[d]at h a;exact⟨b.c h.1,h.2.1.af (a _ qf),h.2.2.af (a _ qf)⟩
def A2.pos{w c x up hv}(a:c.cp.neg=false):A2 w c x up hv↔JN w x.nb (.bool false) (Pn c.node) up hv c.cp.Y c.ta c.cp.y.length c.tc x.tb/\Ao w x.tb []:=by
 unfold A2;rw[a]
def A2.neg{w c x up hv}(a:c.cp.neg=true):A2 w c x up hv↔NN w x.nb (.bool true) (I6 (c.cp.Y:Int)) (Pn c.node) up hv c.ta c.cp.y.length c.tc x.tb x.bb/\Ao w x.tb []/\Ao w x.bb []:=by
 unfold A2;rw[a]
def Gi(w:Aa)(hl:Value):Value->Ak->AS->Prop
 |up,c::cs,x::xs=>A2 w c x up (MU hl cs xs)/\Gi w hl (Fo c x) cs xs
 |_,[],[]=>True
 |_,_,_=>False
def Ig:Value->Ak->AS->Value
 |_,c::cs,x::xs=>Ig (Fo c x) cs xs
 |up,_,_=>up
theorem Gi.len{w hl}:∀{up:Value}{cs:Ak}{xs:AS},Gi w hl up cs xs->xs.length=cs.length
 |_,[],[],_=>rfl
 |_,_::_,_::_,h=>by rw[Ya,Ya,h.2.len]
 |_,[],_::_,h=>h.elim
 |_,_::_,[],h=>h.elim
theorem Gi.same{w w' hl}:∀{up:Value}{cs:Ak}{xs:AS}{nb wb:Nat},Gi w hl up cs xs->(∀x∈xs,w'.heap[x.nb]?=w.heap[x.nb]?)->(∀g∈Dh nb wb cs xs,w'.heap[g]?=w.heap[g]?)->Gi w' hl up cs xs
 |_,[],[],_,_,_,_,_=>trivial
 |_,c::cs,x::xs,nb,wb,h,h1,h2=>⟨h.1.same (h1 x (by simp)) (λg a=>h2 g (by show g∈FU c x++Dh nb wb cs xs;simp[a])),h.2.same (nb:=nb) (wb:=wb) (λy b=>h1 y (by simp[b])) (λg a=>h2 g (by show g∈FU c x++Dh nb wb cs xs;simp[a]))⟩
 |_,[],_::_,_,_,h,_,_=>h.elim
 |_,_::_,[],_,_,h,_,_=>h.elim
def Gi.cd{w hl}:∀{up:Value}{cs:Ak}{xs:AS},Gi w hl up cs xs->cs≠[]->∃O c a x b,cs=O++[c]/\xs=a++[x]/\a.length=O.length/\Ig up cs xs=Fo c x/\A2 w c x b hl
 |up,[c],[x],h,_=>⟨[],c,[],x,up,rfl,rfl,rfl,rfl,h.1⟩
 |up,c::d::cs,x::y::xs,h,_=>by
  obtain⟨O,i,a,l,b,f,k,g,e,j⟩:=h.2.cd qf
  exact⟨c::O,i,x::a,l,b,by rw[f];rfl,by rw[k];rfl,by simp[g],e,j⟩
 |_,[_],_::_::_,h,_=>h.2.elim
 |_,_::_::_,[_],h,_=>h.2.elim
 |_,_::_,[],h,_=>h.elim
 |_,[],_,_,hne=>(hne rfl).elim
def Gi.bK{w w' b a nb wb}:∀{up:Value}{cs:Ak}{xs:AS}{c:Cx}{x:N5},Gi w b up (cs++[c]) (xs++[x])->xs.length=cs.length->(∀y∈xs,w'.heap[y.nb]?=w.heap[y.nb]?)->(∀g∈Dh nb wb (cs++[c]) (xs++[x]),w'.heap[g]?=w.heap[g]?)->(∀O,A2 w c x O b->A2 w' c x O a)->Gi w' a up (cs++[c]) (xs++[x])
 |up,[],[],c,x,h,_,_,_,hl=>⟨hl up h.1,trivial⟩
 |up,d::cs,y::xs,c,x,h,hlen,hx,hm,hl=>by
  refine⟨?_,h.2.bK (nb:=nb) (wb:=wb) (by simpa using hlen) (λz i=>hx z (by simp[i])) (λg f=>hm g (by show g∈FU d y++Dh nb wb (cs++[c]) (xs++[x]);simp[f])) hl⟩
  have e:MU a (cs++[c]) (xs++[x])=MU b (cs++[c]) (xs++[x]):=by
   match cs,xs,hlen with
   |[],[],_=>rfl
   |_::_,_::_,_=>rfl
   |[],_::_,h=>simp at h
   |_::_,[],h=>simp at h
  show A2 w' d y up (MU a (cs++[c]) (xs++[x]));rw[e];exact h.1.same (hx y qf) (λg f=>hm g (by show g∈FU d y++Dh nb wb (cs++[c]) (xs++[x]);simp[f]))
 |_,[],_::_,_,_,_,h,_,_,_=>by simp at h
 |_,_::_,[],_,_,_,h,_,_,_=>by simp at h
def Gi.snoc{w hl c x}:∀{up:Value}{cs:Ak}{xs:AS},Gi w (OU c x) up cs xs->A2 w c x (Ig up cs xs) hl->Gi w hl up (cs++[c]) (xs++[x])
 |up,[],[],_,hn=>⟨hn,trivial⟩
 |up,d::cs,y::xs,h,hn=>by
  refine⟨?_,h.2.snoc hn⟩
  have e:MU hl (cs++[c]) (xs++[x])=MU (OU c x) cs xs:=by
   match cs,xs,h.2.len with
   |[],[],_=>rfl
   |_::_,_::_,_=>rfl
   |[],_::_,h=>simp at h
   |_::_,[],h=>simp at h
  show A2 w d y up (MU hl (cs++[c]) (xs++[x]));rw[e];exact h.1
 |_,[],_::_,h,_=>h.elim
 |_,_::_,[],h,_=>h.elim
def pu{c x}:∀{up:Value}{cs:Ak}{xs:AS},xs.length=cs.length->Ig up (cs++[c]) (xs++[x])=Fo c x
 |_,[],[],_=>rfl
 |_,d::cs,y::xs,h=>pu (up:=Fo d y) (cs:=cs) (xs:=xs) (by simpa using h)
 |_,[],_::_,h=>by simp at h
 |_,_::_,[],h=>by simp at h
def zqd:∀{up:Value}{xs:AS},Ig up [] xs=up
 |_,[]=>rfl
 |_,_::_=>rfl
def py:∀{up:Value}{cs:Ak}{xs:AS},(up=.nilIface∨∃t v,up=.iface t v)->(Ig up cs xs=.nilIface∨∃t v,Ig up cs xs=.iface t v)
 |_,[],[],h=>h
 |_,[],_::_,h=>h
 |_,_::_,[],h=>h
 | _,c::cs,x::xs,_=>py (up:=Fo c x) (cs:=cs) (xs:=xs) (.inr (by
  unfold Fo IY
  split
  .exact⟨_,_,rfl⟩
  exact⟨_,_,rfl⟩))
structure GJ(X:Ak) (w:Aa) (rb cb nb wb k:Nat) (xs:AS) (wr:Aa):Prop where
 le:k<=X.length
 bE:Gi wr .nilFunc .nilIface (X.take k) xs
 box:Bk wr rb #[Ig .nilIface (X.take k) xs,.pointer (some ⟨cb,0,none⟩)] 252
 cs:Bk wr cb #[.map (some nb),.map (some wb)] 263/\Ao wr nb []/\Ao wr wb []
 ao:(Dh nb wb (X.take k) xs).Nodup
 cR:(xs.map (·.nb)).Nodup
 ax:w.heap.size<=rb/\w.heap.size<=cb/\(∀x∈xs,w.heap.size<=x.nb/\x.nb≠rb/\x.nb<wr.heap.size)/\∀g∈Dh nb wb (X.take k) xs,w.heap.size<=g/\g<wr.heap.size
 C:Bw w wr
def GJ.bw{X w e cb nb wb k xs wr O}(h:GJ X w e cb nb wb k xs wr)(a:Bw wr O):GJ X w e cb nb wb k xs O:=
 ⟨h.le,h.bE.same (nb:=nb) (wb:=wb) (λx b=>a.block _ (h.ax.2.2.1 x b).2.2) (λg d=>a.block _ (h.ax.2.2.2 g d).2),(a.block _ (Ap h.box)).c h.box,⟨(a.block _ (Ap h.cs.1)).c h.cs.1,h.cs.2.1.af (a.block _ h.cs.2.1.lt),h.cs.2.2.af (a.block _ h.cs.2.2.lt)⟩,h.ao,h.cR,⟨h.ax.1,h.ax.2.1,λx b=>⟨(h.ax.2.2.1 x b).1,(h.ax.2.2.1 x b).2.1,yg (h.ax.2.2.1 x b).2.2 a.size⟩,λg d=>⟨(h.ax.2.2.2 g d).1,yg (h.ax.2.2.2 g d).2 a.size⟩⟩,h.C.thn a⟩
def Gi.ao{w hl nb wb g}(b:Ao w nb [])(c:Ao w wb []):∀{up:Value}{cs:Ak}{xs:AS},Gi w hl up cs xs->g∈Dh nb wb cs xs->Ao w g []
 |_,[],[],_,a=>by
  simp only[Dh,yW,Yw,or_false]at a
  rcases a with rfl|rfl
  .exact b
  .exact c
 |_,d::cs,y::ys,hN,a=>by
  have a:g∈FU d y++Dh nb wb cs ys:=a
  rcases yp.1 a with a|a
  .have b:=hN.1
   unfold FU at a
   cases hd:d.cp.neg
   .rw[hd]at a
    simp at a
    rw[a]
    exact((A2.pos hd).1 b).2
   rw[hd]at a
   simp at a
   rcases a with a|a
   .rw[a]
    exact((A2.neg hd).1 b).2.1
   rw[a]
   exact((A2.neg hd).1 b).2.2
  .exact hN.2.ao b c a
 |_,[],_::_,h,_=>h.elim
 |_,_::_,[],h,_=>h.elim
theorem GJ.aK{X w a cb nb wb k xs wr}(h:GJ X w a cb nb wb k xs wr){g}(d:g∈Dh nb wb (X.take k) xs):∀c t b,wr.heap[g]?≠some (.cells c t b):=(h.bE.ao h.cs.2.1 h.cs.2.2 d).aN
def MD:Ak->AS->Value
 |c::_,x::_=>Fo c x
 |_,_=>.nilIface
def rR{c x}:∀{cs:Ak}{xs:AS},xs.length=cs.length->MD (cs++[c]) (xs++[x])=(if cs=[] then Fo c x else MD cs xs)
 |[],[],_=>rfl
 |_::_,_::_,_=>by simp[MD]
 |[],_::_,h=>by simp at h
 |_::_,[],h=>by simp at h
def PJ{X:Ak}{k c}(h:X[k]?=some c):X.take (k+1)=X.take k++[c]:=by
 rw[Yc,h];rfl
def GJ.step{X w p O l m cb nb wb k lb xs c x}(h:GJ X w m cb nb wb k xs p)(q:X[k]?=some c)(H:Bw p O)(U:A2 O c x (Ig .nilIface (X.take k) xs) .nilFunc)(Z:p.heap.size<=x.nb)(r:∀g∈FU c x,p.heap.size<=g/\g<O.heap.size)(I:(FU c x).Nodup)(J:x.nb<O.heap.size)(s:∀g,g<O.heap.size->g≠m->g≠lb->l.heap[g]?=O.heap[g]?)(R:O.heap.size<=l.heap.size)(L:Bw w l)(W:Bk l m #[Fo c x,Pn cb] 252)(T:lb=m∨lb<p.heap.size)(E:Gi l (OU c x) .nilIface (X.take k) xs)(u:∀g,(g∈FU c x∨g∈Dh nb wb (X.take k) xs∨g=cb)->g≠lb):GJ X w m cb nb wb (k+1) (xs++[x]) l:=by
 have i:=h.bw H;have G:=(yf.1 q).1;have ax:m<p.heap.size:=Ap h.box;have j:=h.bE.len;have K:x.nb≠lb:=by rcases T with h|h<;>omega
 have M:l.heap[cb]?=O.heap[cb]?:=s cb (Ap i.cs.1) (λe=>by
  have D:=i.box;rw[<-e,Bk,i.cs.1]at D;simp at D) (u cb (.inr (.inr rfl)))
 have N:∀g,g∈Dh nb wb (X.take k) xs->g≠m:=λg f e=>by
  exact i.aK f _ _ _ (by rw[e];exact i.box)
 have B:∀g,g∈Dh nb wb (X.take k) xs->l.heap[g]?=O.heap[g]?:=λg f=>s g (i.ax.2.2.2 g f).2 (N g f) (u g (.inr (.inl f)));have z:nb∈Dh nb wb (X.take k) xs/\wb∈Dh nb wb (X.take k) xs:=by
  have:∀{cs:Ak}{ys:AS},nb∈Dh nb wb cs ys/\wb∈Dh nb wb cs ys:=by
   intro cs
   induction cs with
   |nil=>intro ys;simp[Dh]
   |cons d cs ih=>
    intro ys
    match ys with
    |[]=>simp[Dh]
    |y::ys=>exact⟨YD _ ih.1,YD _ ih.2⟩
  exact this
 refine⟨G,?_,?_,⟨M.c i.cs.1,i.cs.2.1.af (B _ z.1),i.cs.2.2.af (B _ z.2)⟩,?_,?_,⟨h.ax.1,h.ax.2.1,?_,?_⟩,L⟩
 .rw[PJ q];refine E.snoc (U.same (s x.nb J qd K) (λg f=>s g (r g f).2 ?_ (u g (.inl f))));have:=(r g f).1;omega
 .rw[PJ q,pu j];exact W
 .rw[PJ q];refine(ZX j).nodup_iff.2 (yL.2 ⟨I,h.ao,λa t b n e=>?_⟩);have Y:=(r a t).1;have h2:=(h.ax.2.2.2 b n).2;omega
 .rw[yz,yL];refine⟨h.cR,qf,λa t b n e=>?_⟩;obtain⟨y,o,rfl⟩:=yv.1 t;have:=(h.ax.2.2.1 y o).2.2;simp at n;omega
 .intro y o;rcases yp.1 o with o|o
  .obtain⟨v,A,a3⟩:=i.ax.2.2.1 y o;exact⟨v,A,qd⟩
  rw[yw.1 o];have:=h.C.size;exact⟨qd,qd,qd⟩
 intro g f;rw[PJ q,(ZX j).mem_iff]at f;rcases yp.1 f with f|f
 .have:=r g f;have:=h.C.size;exact⟨qd,qd⟩
 obtain⟨v,A⟩:=i.ax.2.2.2 g f;exact⟨v,qd⟩
def Pc:(l:Aw)->DK l
 |[]=>([],[])
 |(.inl _,_)::r=>([],Pc r)
 |(.inr _,_)::r=>([],[],Pc r)
def Zy{adr}:∀(l:Aw),Lv adr [] l [] (Pc l)
 |[]=>⟨.refl _,nN⟩
 |(.inl _,_)::r=>⟨.refl _,Zy r⟩
 |(.inr _,_)::r=>⟨.refl _,λT a=>(by simp at a),Zy r⟩
def mS{adr U vw cb nb wb w}(i:CS w cb nb wb [] [])(O:Ch adr U w):∀{up:Value}{cs:Ak}{xs:AS},Gi w (Fd cb) up cs xs->(∀c∈cs,EJ w c.ta c.cp.y/\At w c.node 4 (.slice (vw c.node).1 (vw c.node).2.2.length (vw c.node).2.1)/\Jq w (vw c.node).1 (vw c.node).2.2 adr)->FV adr U cb nb wb (AJ vw (Fd cb) up cs xs) w (Pc _)
 |_,[],[],_,_=>i
 |_,c::cs,x::xs,h,hc=>by
  have ih:=mS i O (vw:=vw) h.2 (λd hd=>hc d LE)
  obtain⟨f,j,g⟩:=hc c qf
  rw[AJ]
  cases a:c.cp.neg
  .rw[J5 a]
   obtain⟨e,b⟩:=(A2.pos a).1 h.1
   exact⟨⟨e,j,g,f,O⟩,b,ih⟩
  .rw[J1 a]
   obtain⟨e,b,k⟩:=(A2.neg a).1 h.1
   exact⟨⟨e,j,g,f,O⟩,b,k,ih⟩
 |_,[],_::_,h,_=>h.elim
 |_,_::_,[],h,_=>h.elim
def zjf{P:Program}(w:Aa)(a:Addr)(m:Mode)(t:TypeId)(v:Value):(store a (.iface t v) m).run P w=stored P w a (.iface t v) m:=run_store P w a _ m rfl
attribute [local go_sem] zjf
def ZA{P:Aa->Prop}{w b t x0 x1 O}(h0:Bk w b #[x0,x1] t)(h:∀wt,Bk wt b #[O,x1] t->Turned w wt b->P wt):P (w.setCell ⟨b,0,none⟩ O):=by
 exact tE
structure QO(X:Ak) (adr:F->Addr) (U:Ab) (vw:Vw) (ca:Af):Prop where
 small:∀c∈X,c.cp.y.length<=6/\c.cp.H.y.length<=1048576/\(c.cp.neg=false->c.cp.Y<3)
 sr:Ff (X.map (CB U)) []
 ne:X≠[]
 X6:X.length<=6
 eG:FL U X (gV vw)
 inj:BV adr U
def ki{c x}(h:c.cp.neg=false):FU c x=[x.tb]:=by
 unfold FU;rw[h]
def kM{c x}(h:c.cp.neg=true):FU c x=[x.tb,x.bb]:=by
 unfold FU;rw[h]
def Oq{c x}(h:c.cp.neg=false):Fo c x=.iface 337 (Pn x.nb):=by
 unfold Fo IY;rw[h];rfl
def Ot{c x}(h:c.cp.neg=true):Fo c x=.iface 334 (Pn x.nb):=by
 unfold Fo IY;rw[h];rfl
def GJ.dp{X w a cb nb wb k xs wr}(h:GJ X w a cb nb wb k xs wr){g b c t d}(f:g∈Dh nb wb (X.take k) xs)(e:wr.heap[b]?=some (.cells c t d)):g≠b:=by grind[Dh,GJ.aK]
def Ao.cS{w b g L c t a}(h:Ao w b L)(d:w.heap[g]?=some (.cells c t a)):b≠g:=by
 rintro rfl;exact h.aN _ _ _ d
def oO{vw hl}:∀{up:Value}{cs:Ak}{xs:AS},xs.length=cs.length->cs≠[]->Ig up cs xs=CV (Dt (AJ vw hl up cs xs)) 0
 |_,[c],[x],_,_=>by
  show Fo c x=_
  simp only[AJ,Dt,CV,yx,YZ,List.reverse_cons,List.reverse_nil,Yg,yy,Ws,YE,Rd]
  rfl
 |up,c::d::cs,x::y::xs,h,_=>by
  have O:=oO (vw:=vw) (hl:=hl) (up:=Fo c x) (cs:=d::cs) (xs:=y::xs) qu qf
  show Ig (Fo c x) (d::cs) (y::xs)=_
  rw[O]
  have e:Dt (AJ vw hl up (c::d::cs) (x::y::xs))=Dt (AJ vw hl (Fo c x) (d::cs) (y::xs))++[(c.cp.neg,x.nb)]:=by
   rw[AJ];unfold Dt;rw[yx,List.reverse_cons,Rd]
  rw[e];unfold CV;rw[yr];rw[AJ];simp[Dt]
 |_,[],_,_,h=>(h rfl).elim
 |_,[_],[],h,_=>by simp at h
 |_,[_],_::_::_,h,_=>by simp at h
 |_,_::_::_,[],h,_=>by simp at h
 |_,_::_::_,[_],h,_=>by simp at h
def xy{X w wr O f cb nb wb lb xs}(h:GJ X w f cb nb wb X.length xs wr)(l:BU (some lb) wr O)(i:cb≠lb)(d:∀g,g∈Dh nb wb (X.take X.length) xs->g≠lb):CS O cb nb wb [] []:=by
 have b:nb∈Dh nb wb (X.take X.length) xs/\wb∈Dh nb wb (X.take X.length) xs:=Zz;have a:nb≠wb:=by
  have:=h.ao;intro e;exact kQ this e
 have k:∀g,g<wr.heap.size->g≠lb->O.heap[g]?=wr.heap[g]?:=λg j m=>l.block g j (λe=>m Xw);exact⟨(k cb (Ap h.cs.1) i).c h.cs.1,h.cs.2.1.af (k nb h.cs.2.1.lt (d nb b.1)),h.cs.2.2.af (k wb h.cs.2.2.lt (d wb b.2)),a⟩
def lx{X w wr m C cb nb wb xs a s c x hv}(h:GJ X w C cb nb wb X.length xs wr)(n:X=s++[c])(j:xs=a++[x])(D:a.length=s.length)(o:BU (some x.nb) wr m)(hl:∀q,A2 wr c x q .nilFunc->A2 m c x q hv):Gi m hv .nilIface X xs:=by
 have b:=h.bE;have l:=λg f=>h.aK (g:=g) f;have i:=h.cR;have O:=h.ax;rw[yZ]at b l O;have k:∃c t v,wr.heap[x.nb]?=some (.cells c t v):=by
  rw[n,j]at b;obtain⟨_,d,_,y,up,u,A,_,_,p⟩:=b.cd qf;obtain⟨_,e⟩:=List.append_inj' u rfl;obtain⟨_,B⟩:=List.append_inj' A rfl;cases e;cases B;cases r:c.cp.neg
  .exact⟨_,_,_,((A2.pos r).1 p).1⟩
  exact⟨_,_,_,((A2.neg r).1 p).1⟩
 obtain⟨E,H,G,k⟩:=k;rw[n,j]at b l O⊢;rw[j]at i;refine Gi.bK (nb:=nb) (wb:=wb) b D (λy hy=>?_) (λg f=>?_) hl
 .refine o.block _ (O.2.2.1 y Ny).2.2 (λe=>?_);injection e with e;rw[yz,yL]at i;exact i.2.2 y.nb (yS hy) x.nb qf e.z
 refine o.block _ (O.2.2.2 g f).2 (λe=>?_);injection e with e;exact l g f _ _ _ (by rw[<-e];exact k)
def zox(X xs)(_rb cb nb wb:Nat)(adr U vw ca)(n:QO X adr U vw ca)(w)(r:(Dh nb wb (X.take X.length) xs).Nodup)(z:Gi w (Fd cb) .nilIface X xs)(K:CS w cb nb wb [] [])(ai:∀(k:Nat)(c:Cx),X[k]?=some c->Eb adr vw ca w k c)(ah:Ch adr U w) :
  Ca (Jn (AJ vw (Fd cb) .nilIface X xs)) #[Pn (Qv cb (AJ vw (Fd cb) .nilIface X xs)),.agg #[.pointer none,.pointer none,.pointer none],I6 1] w λe w'=>e=.returned (.tuple #[])/\(∃a:DK (AJ vw (Fd cb) .nilIface X xs),FV adr U cb nb wb _ w' a/\Lv adr [] _ [[]] a)/\CK w w'/\AM (Gn nb wb (AJ vw (Fd cb) .nilIface X xs)) w w':=by
 rw[yZ]at r;have b:=z.len;obtain⟨l,hl⟩:=AF (AJ vw (Fd cb) .nilIface X xs);have t:FV adr U cb nb wb (AJ vw (Fd cb) .nilIface X xs) w (Pc _):=mS K ah z (λc d=>by
  obtain⟨k,Y⟩:=YQ d;obtain⟨_,_,_,h4,A,C⟩:=ai k c Y;exact⟨h4,A,C⟩)
 have af:(AJ vw (Fd cb) .nilIface X xs).map Prod.snd=X.map (gV vw):=Py b;have p:Hg U (AJ vw (Fd cb) .nilIface X xs) (X.map (λc=>U.filter (Ah c.cp.H))) []:=SP b n.sr qf qf;have u:Lo cb nb wb (AJ vw (Fd cb) .nilIface X xs):=UO r (λc d=>⟨(n.small c d).1,(n.eG c d).2.2,(n.small c d).2.2⟩);have hu:∀m∈AJ vw (Fd cb) .nilIface X xs,∀f∈m.2,f∈U:=λm r f hf=>by
  have x:m.2∈(AJ vw (Fd cb) .nilIface X xs).map Prod.snd:=yS r;rw[af]at x;obtain⟨c,d,e⟩:=yv.1 x;rw[<-e]at hf;exact(yh.1 ((n.eG c d).1 f hf)).1
 have O:Da ((AJ vw (Fd cb) .nilIface X xs).map Prod.snd) (X.map (λc:Cx=>U.filter (Ah c.cp.H))):=by
  rw[af];exact n.eG.sub
 have y:=Zy (adr:=adr) (AJ vw (Fd cb) .nilIface X xs);rw[<-hl]at t p u hu O y⊢;obtain⟨D,R⟩:=Tk (old:=[]) (cb:=cb) (nb:=nb) (wb:=wb) n.inj l _ [] (Pc l) [] y (λT W=>by simp at W) qf (p.dF O) qf;have Z:=Rv adr 1 (.inl rfl) U cb nb wb l (u.ok hu);obtain⟨I,E⟩:=Rw adr 1 U cb nb wb l;have h:=Z.2 w (Pc l) [] ((Lx adr 1 U cb nb wb l w _).2 t) D (Rk ah qf);rw[I,E]at h;refine h.j λe w' q=>?_;obtain⟨B,s,L,J,M,N⟩:=q;exact⟨B,⟨s,(Lx adr 1 U cb nb wb l w' s).1 J,R s L⟩,M,N.j λg G=>(I0 adr 1 U cb nb wb l g).1 G⟩
def vT{X w O b cb nb wb k B xs c x}(h:GJ X w b cb nb wb k xs O)(f:∀g∈FU c x,B<=g/\g<O.heap.size)(i:b<B){g}(a:g∈FU c x∨g∈Dh nb wb (X.take k) xs∨g=cb)(e:g=b):False:=by
 subst e;rcases a with a|a|a
 .have:=(f g a).1;omega
 .exact h.aK a _ _ _ h.box
 subst a;have d:=h.box;rw[Bk,h.cs.1]at d;simp at d
def ij(h:P:=by
 first
  | (have _:=tP1
     rw[Oq HN.o])
  |(rw[Ot HN.o])
 exact aG.o
 ):=h
def ss(h:P:=by exact(O.o.C.c (ah.o.e O.o.C.size (λg e=>by injection e with e;rw[<-e];exact am.1))).c (af.o.e O.o.ax.1)):=h
def uD(h:P:=by refine(af.o.block _ (λe=>hM g hg _ _ _ (by rw[e];exact O.o.box))).c (ah.o.block _ (aq.2.2.2 g hg).2 (λe=>?_));injection e with e;exact hM g hg _ _ _ (by rw[<-e];exact L1.o)):=h
def uF(h:P:=by
 intro g hg e;rcases hg with hg|hg|hg
 .have:=(ak.o g hg).1;omega
 .exact O.o.aK hg _ _ _ (by rw[e];exact L1.o)
 .have b1:=O.o.cs.1;rw[Bk,<-hg,e,show w5.heap[x'.nb]?=_ from L1.o]at b1;simp at b1
 ):=h
def uL(h:P:=by refine(af.o.block _ (aq.2.2.1 y (by simp[hy])).2.1).c (ah.o.block _ (aq.2.2.1 y (by simp[hy])).2.2 (λe=>?_));injection e with e;rw[yz,yL]at az;exact az.2.2 y.nb (yS hy) x'.nb (by simp) e.z):=h
def lB(h:P:=by
 rw[hn]at d0;have HN:=Ad hn;clear hn
 first
  | (have _:=tP1
     go_region_held3 (λu=>At u wr.heap.size 0 (.bool false)/\At u wr.heap.size 1 (I6 (c.cp.Y:Int))/\At u wr.heap.size 2 (Pn c.node)/\At u wr.heap.size 3 (.slice c.ta c.cp.y.length c.tc)/\At u rb 0 lv)
       ((go_split_ands;first|done|(refine⟨?_,?_,?_,?_,?_⟩<;>first|assumption|with_reducible exact zab ar (by assumption)|exact zab Au.drew (by assumption))))
       (first|(go_at_call 154;refine(zlC lv (Pn c.node) c.cp.Y c.ta c.cp.y.length c.tc HLK.o ⟨_,rfl⟩ _).j ?_;rintro e w5 ⟨jb,tb,rfl,q1,q2,q5,q6,ar⟩)|fail))
  | (go_region_held3 (λu=>At u wr.heap.size 0 (.bool true)/\At u wr.heap.size 1 (I6 (c.cp.Y:Int))/\At u wr.heap.size 2 (Pn c.node)/\At u wr.heap.size 3 (.slice c.ta c.cp.y.length c.tc)/\At u rb 0 lv)
       ((go_split_ands;first|done|(refine⟨?_,?_,?_,?_,?_⟩<;>first|assumption|with_reducible exact zab ar (by assumption)|exact zab Au.drew (by assumption))))
       (first|(go_at_call 154;refine(zlk lv (Pn c.node) c.cp.Y c.ta c.cp.y.length c.tc HLK.o ⟨_,rfl⟩ _).j ?_;rintro e w5 ⟨jb,tb,bb,rfl,q1,q2,q3,q4,q5,q6,q7,ar⟩)|fail))
 obtain⟨ai,aE⟩:=An (HI4.o.bw Au.drew) ar;have aU:w4.drew.heap.size=w4.heap.size:=rfl;have O:=Ad (ai.o.bw ar)
 first
  | (have _:=tP1
     have aA:=Ad (show A2 w5 c ⟨jb,tb,0⟩ (Ig .nilIface (X.take k) xs) .nilFunc from(A2.pos HN.o).2 ⟨by rw[<-HLV.o];exact q5,q6⟩);have ak:=Ad (show∀g∈FU c ⟨jb,tb,0⟩,w4.drew.heap.size<=g/\g<w5.heap.size fromλg hg=>by rw[ki HN.o]at hg;simp only[yW,Yw,or_false]at hg;rcases hg with rfl;exact⟨q2,q6.lt⟩);have ay:=Ad (show(FU c ⟨jb,tb,0⟩).Nodup from by rw[ki HN.o];simp))
  | (have aA:=Ad (show A2 w5 c ⟨jb,tb,bb⟩ (Ig .nilIface (X.take k) xs) .nilFunc from (A2.neg HN.o).2 ⟨by rw[<- HLV.o];exact q5,q6,q7⟩)
     have ak:=Ad (show∀g∈FU c ⟨jb,tb,bb⟩,w4.drew.heap.size<=g/\g<w5.heap.size fromλg hg=>by rw[kM HN.o]at hg;simp only[yW,Yw,or_false]at hg;rcases hg with rfl|rfl;exact⟨q2,q6.lt⟩;exact⟨q3,q7.lt⟩);have ay:=Ad (show(FU c ⟨jb,tb,bb⟩).Nodup from by rw[kM HN.o];simp[q4]))
 have aD:jb<w5.heap.size:=Ap q5;have aC:=Ad q1;have s0:=zab ar r0
 first
  | (have _:=tP1
     clear ar d0 d1 d2 d3 r0 q1 q2 q5 q6)
  |(clear ar d0 d1 d2 d3 r0 q1 q2 q5 q6 q3 q4 q7)
 obtain⟨_,fr⟩:True/\w5.frozen? ⟨rb,0,none⟩=false:=⟨trivial,by simp[World.frozen?,O.o.box]⟩
 rcases Nat.eq_zero_or_pos k with aF|aF
 .have aQ:lv=.nilIface:=by rw[HLV.o,aF,Wk,zqd]
  obtain⟨aP,aO⟩:=An (show xs=[] from by have:=O.o.bE.len;rw[aF]at this;simpa using this) aF;subst aQ;clear aF;go_upto_region 11 with fail;refine ZA (x0:=Ig .nilIface (X.take k) xs) (x1:=Pn cb) O.o.box ?_;intro w7 aw au;obtain⟨aG,af⟩:=An aw au;clear aw au s0 fr;go_wp2;go_roundw
  case rel=>
   first
    | (have _:=tP1
       refine⟨k+1,xs++[⟨jb,tb,0⟩],by go_num,?_,GJ.step (lb:=rb) ai.o HC.o aE.o aA.o aC.o ak.o ay.o aD (λg _ h1 _=>af.o.block g h1) (WP af.o.size.z) (O.o.C.c (af.o.e O.o.ax.1)) ?_ (.inl rfl) ?_ ?_⟩)
    |(refine⟨k+1,xs++[⟨jb,tb,bb⟩],by go_num,?_,GJ.step (lb:=rb) ai.o HC.o aE.o aA.o aC.o ak.o ay.o aD (λg _ h1 _=>af.o.block g h1) (WP af.o.size.z) (O.o.C.c (af.o.e O.o.ax.1)) ?_ (.inl rfl) ?_ ?_⟩)
   .rw[PJ HC.o,aP.o,aO.o]
    first
     | (have _:=tP1
        exact(Oq (x:=⟨jb,tb,0⟩) HN.o).z)
     |(exact(Ot (x:=⟨jb,tb,bb⟩) HN.o).z)
   .exact ij
   .rw[aP.o,aO.o];trivial
   .intro g hg e;exact vT O.o ak.o (Ap ai.o.box) hg e
  case measure=>(simp[intOf];omega)
 .obtain⟨aT,c',xs',x',aS,e1,e2,e3,e4,e5⟩:=O.o.bE.cd (λe=>by have h:=congrArg List.length e;rw[YL]at h;simp only[YU]at h;omega);obtain⟨HE1,HE2,HE3,HE5⟩:=BP e1 e2 e3 e5
  first
   | (have _:=tP1
      have aM:=Ad (show MD (X.take k++[c]) (xs++[⟨jb,tb,0⟩])=MD (X.take k) xs from by rw[rR O.o.bE.len,if_neg (λe=>by have h:=congrArg List.length e;rw[YL]at h;simp only[YU]at h;omega)]))
   |(have aM:=Ad (show MD (X.take k++[c]) (xs++[⟨jb,tb,bb⟩])=MD (X.take k) xs from by rw[rR O.o.bE.len,if_neg (λe=>by have h:=congrArg List.length e;rw[YL]at h;simp only[YU]at h;omega)]))
  have aB:lv=Fo c' x':=HLV.o.c e4;have am:=O.o.ax.2.2.1 x' (by rw[e2];simp);have aI:=(ai.o.ax.2.2.1 x' (by rw[e2];simp)).2.2;clear e1 e2 e3 e4 e5 aF;cases hm:c'.cp.neg
  .rw[Oq hm]at aB;have HM:=Ad hm;subst aB;obtain⟨l1,l2⟩:=(A2.pos hm).1 HE5.o;have L1:=Ad l1
   first
    | (have _:=tP1
       have ax:=Ad (λ(u:Aa) (hu:u.heap[x'.nb]?=w5.heap[x'.nb]?)=>Tv x'.nb (.func (.method "loop.example/s01311/impl.take") #[.iface 337 (Pn jb)] #[]) _ _ u (hu.c l1) (by simp) ⟨_,_,_,rfl⟩))
    | (have ax:=Ad (λ(u:Aa) (hu:u.heap[x'.nb]?=w5.heap[x'.nb]?)=>Tv x'.nb (.func (.method "loop.example/s01311/impl.take") #[.iface 334 (Pn jb)] #[]) _ _ u (hu.c l1) (by simp) ⟨_,_,_,rfl⟩))
   have aK:=λu=>rY x'.nb u;clear hm l1 l2;go_wp2_with fail
   go_region_held3 (λu=>At u rb 0 (.iface 337 (Pn x'.nb)))
    (first|assumption|(with_reducible exact(yP (w:=w5) ((aj.block rb (Ap O.o.box) (λe=>am.2.1 (by injection e))))).c s0)|exact zab Au.drew (by assumption))
    (first|(go_at_call 317;refine(ax.o w5.drew rfl).rtn λw6⟨aH,aj⟩=>?_;have s6:=(AE ((aj.block rb (Ap O.o.box) (λe=>am.2.1 (by injection e))).c O.o.box)).1;rw[<-HLV.o]at s6)|fail)
   obtain⟨aJ,ah⟩:=An aH (show BU (some x'.nb) w5 w6 from(BU.u Au.drew).c aj);have ao:=(aj.block rb (Ap O.o.box) (λe=>am.2.1 (by injection e))).c O.o.box;have aN:=Ad ao;have t0:=(AE ao).1;have aL:w6.frozen? ⟨rb,0,none⟩=false:=by simp[World.frozen?,ao]
   clear aH aj ao s0 s6 fr ax aK;go_upto_region 11 with fail;refine ZA (x0:=Ig .nilIface (X.take k) xs) (x1:=Pn cb) aN.o ?_;intro w7 aw au;obtain⟨aG,af⟩:=An aw au;clear aw au t0 aL;go_wp2;go_roundw
   case rel=>
    first
     | (have _:=tP1
        refine⟨k+1,xs++[⟨jb,tb,0⟩],by go_num,?_,GJ.step (lb:=x'.nb) ai.o HC.o aE.o aA.o aC.o ak.o ay.o aD (λg h0 h1 h2=>(af.o.block g h1).c (ah.o.block g h0 (λe=>h2 (by injection e with e;exact e.z)))) (by rw[af.o.size];exact ah.o.rest.size) ?_ ?_ (.inr aI) ?_ ?_⟩)
     |(refine⟨k+1,xs++[⟨jb,tb,bb⟩],by go_num,?_,GJ.step (lb:=x'.nb) ai.o HC.o aE.o aA.o aC.o ak.o ay.o aD (λg h0 h1 h2=>(af.o.block g h1).c (ah.o.block g h0 (λe=>h2 (by injection e with e;exact e.z)))) (by rw[af.o.size];exact ah.o.rest.size) ?_ ?_ (.inr aI) ?_ ?_⟩)
    .rw[PJ HC.o,aM.o];exact HFV.o
    .exact ss
    .exact ij
    .have hN:=O.o.bE;have hM:=λg hg=>O.o.aK (g:=g) hg;have az:=O.o.cR;have aq:=O.o.ax;rw[HE1.o,HE2.o]at hN hM aq;rw[HE2.o]at az;rw[HE1.o,HE2.o];refine Gi.bK (nb:=nb) (wb:=wb) hN HE3.o (λy hy=>?_) (λg hg=>?_) (λaR h2=>?_)
     .exact uL
     .exact uD
     obtain⟨j1,j2⟩:=(A2.pos HM.o).1 h2;have e:=L1.o;unfold JN Bk at e j1;rw[e]at j1;simp at j1;subst j1;have eb:=(af.o.block _ am.2.1).c aJ.o;have em:∀g,Ao w5 g []->w7.heap[g]?=w5.heap[g]?:=λg hg=>(af.o.block g (hg.cS O.o.box)).c (ah.o.block g hg.lt (λe=>hg.cS L1.o (by injection e with e;exact e.z)));refine(A2.pos HM.o).2 ⟨?_,j2.af (em _ j2)⟩;unfold OU
     first
      | (have _:=tP1
         rw[Oq HN.o])
      |(rw[Ot HN.o])
     unfold JN;simpa using eb
    .exact uF
   case measure=>(simp[intOf];omega)
  rw[Ot hm]at aB;have HM:=Ad hm;subst aB;obtain⟨l1,l2,l3⟩:=(A2.neg hm).1 HE5.o;have L1:=Ad l1
  first
   | (have _:=tP1
      have ax:=Ad (λ(u:Aa) (hu:u.heap[x'.nb]?=w5.heap[x'.nb]?)=>Tv x'.nb (.func (.method "loop.example/s01311/impl.take") #[.iface 337 (Pn jb)] #[]) _ _ u (hu.c l1) (by simp) ⟨_,_,_,rfl⟩))
   | (have ax:=Ad (λ(u:Aa) (hu:u.heap[x'.nb]?=w5.heap[x'.nb]?)=>Tv x'.nb (.func (.method "loop.example/s01311/impl.take") #[.iface 334 (Pn jb)] #[]) _ _ u (hu.c l1) (by simp) ⟨_,_,_,rfl⟩))
  have aK:=λu=>rL x'.nb u;clear hm l1 l2 l3;go_wp2_with fail
  go_region_held3 (λu=>At u rb 0 (.iface 334 (Pn x'.nb)))
   (first|assumption|(with_reducible exact(yP (w:=w5) ((aj.block rb (Ap O.o.box) (λe=>am.2.1 (by injection e))))).c s0)|exact zab Au.drew (by assumption))
   (first|(go_at_call 317;refine(ax.o w5.drew rfl).rtn λw6⟨aH,aj⟩=>?_;have s6:=(AE ((aj.block rb (Ap O.o.box) (λe=>am.2.1 (by injection e))).c O.o.box)).1;rw[<-HLV.o]at s6)|fail)
  obtain⟨aJ,ah⟩:=An aH (show BU (some x'.nb) w5 w6 from(BU.u Au.drew).c aj);have ao:=(aj.block rb (Ap O.o.box) (λe=>am.2.1 (by injection e))).c O.o.box;have aN:=Ad ao;have t0:=(AE ao).1;have aL:w6.frozen? ⟨rb,0,none⟩=false:=by simp[World.frozen?,ao]
  clear aH aj ao s0 s6 fr ax aK;go_upto_region 11 with fail;refine ZA (x0:=Ig .nilIface (X.take k) xs) (x1:=Pn cb) aN.o ?_;intro w7 aw au;obtain⟨aG,af⟩:=An aw au;clear aw au t0 aL;go_wp2;go_roundw
  case rel=>
   first
    | (have _:=tP1
       refine⟨k+1,xs++[⟨jb,tb,0⟩],by go_num,?_,GJ.step (lb:=x'.nb) ai.o HC.o aE.o aA.o aC.o ak.o ay.o aD (λg h0 h1 h2=>(af.o.block g h1).c (ah.o.block g h0 (λe=>h2 (by injection e with e;exact e.z)))) (by rw[af.o.size];exact ah.o.rest.size) ?_ ?_ (.inr aI) ?_ ?_⟩)
    |(refine⟨k+1,xs++[⟨jb,tb,bb⟩],by go_num,?_,GJ.step (lb:=x'.nb) ai.o HC.o aE.o aA.o aC.o ak.o ay.o aD (λg h0 h1 h2=>(af.o.block g h1).c (ah.o.block g h0 (λe=>h2 (by injection e with e;exact e.z)))) (by rw[af.o.size];exact ah.o.rest.size) ?_ ?_ (.inr aI) ?_ ?_⟩)
   .rw[PJ HC.o,aM.o];exact HFV.o
   .exact ss
   .exact ij
   .have hN:=O.o.bE;have hM:=λg hg=>O.o.aK (g:=g) hg;have az:=O.o.cR;have aq:=O.o.ax;rw[HE1.o,HE2.o]at hN hM aq;rw[HE2.o]at az;rw[HE1.o,HE2.o];refine Gi.bK (nb:=nb) (wb:=wb) hN HE3.o (λy hy=>?_) (λg hg=>?_) (λaR h2=>?_)
    .exact uL
    .exact uD
    obtain⟨j1,j2⟩:=(A2.neg HM.o).1 h2;have e:=L1.o;unfold NN Bk at e j1;rw[e]at j1;simp at j1;subst j1;have eb:=(af.o.block _ am.2.1).c aJ.o;have em:∀g,Ao w5 g []->w7.heap[g]?=w5.heap[g]?:=λg hg=>(af.o.block g (hg.cS O.o.box)).c (ah.o.block g hg.lt (λe=>hg.cS L1.o (by injection e with e;exact e.z)));refine(A2.neg HM.o).2 ⟨?_,j2.1.af (em _ j2.1),j2.2.af (em _ j2.2)⟩;unfold OU
    first
     | (have _:=tP1
        rw[Oq HN.o])
     |(rw[Ot HN.o])
    unfold NN;simpa using eb
   .exact uF
  case measure=>(simp[intOf];omega)
 ):=h
def tp(h:P:=by
 clear e1 hf;go_wp2_with fail;refine ao.o.rtn λw8⟨⟨a8,hi8,ak⟩,af,ah⟩=>?_;have ax:=Ad (show FW ⟨X,xs,rb,cb,nb,wb⟩ adr U vw (gV vw) [] w8 from⟨⟨a8,hi8,by rw[<-show(AJ vw (Fd cb) .nilIface X xs).map Prod.snd=X.map (gV vw) from Py aj.o.len];exact JJ.2 ak⟩,by
  have hb:=af _ _ _ _ ar.o;rw[yZ,au.o]at hb;exact hb⟩)
 have ay:=Ad (AM.aU am.o ah (λg hg=>ai.o.2.2 g (Ji.1 hg)));clear hi8 ak af ah;go_wp2;go_ret;exact⟨⟨X,xs,rb,cb,nb,wb⟩,rfl,rfl,aj.o,ax.o,ai.o,ay.o⟩
 ):=h
def kk(h:P:=by
 first
  | (have _:=tP2
     rw[Oq hm]at r0)
  |(rw[Ot hm]at r0)
 have HM:=Ad hm
 first
  | (have _:=tP2
     obtain⟨l1,l2⟩:=(A2.pos hm).1 HE5.o)
  |(obtain⟨l1,l2,l3⟩:=(A2.neg hm).1 HE5.o)
 obtain⟨L1,aw⟩:=An l1 (λ(u:Aa)(hu:u.heap[x.nb]?=wr.heap[x.nb]?)=>Tv x.nb (.func (.func 155) #[Pn cb] #[]) _ _ u (hu.c l1) (by simp) ⟨_,_,_,rfl⟩)
 first
  | (have _:=tP2
     have az:=λu=>rY x.nb u;clear hm l1 l2)
  | (have az:=λu=>rL x.nb u
     clear hm l1 l2 l3)
 go_wp2_with fail
 first
  | (have _:=tP2
     go_region_held3 (λu=>At u rb 0 (.iface 337 (Pn x.nb))/\At u rb 1 (Pn cb))
       ((go_split_ands;first|done|(refine⟨?_,?_⟩<;>first|assumption|exact zab Au.drew (by assumption))))
       (first|(go_at_call 317;refine(aw.o wr.drew rfl).rtn λw6⟨aq,O⟩=>?_;obtain⟨s6,s7⟩:=AE ((O.block rb (Ap HI.o.box) (λe=>hxrb.2.1 (by injection e))).c HI.o.box);rw[yZ,HE4.o,Oq HM.o]at s6)|fail)
     have aA:=Ad (lx (hv:=Fd cb) HI.o HE1.o HE2.o HE3.o ((BU.u Au.drew).c O) (λaC h2=>by
       obtain⟨j1,j2⟩:=(A2.pos HM.o).1 h2;have e:=L1.o;unfold JN Bk at e j1;rw[e]at j1;simp at j1;subst j1;have em:∀g,Ao wr g []->w6.heap[g]?=wr.heap[g]?:=λg hg=>O.block g hg.lt (λe=>hg.cS L1.o (by injection e with e;exact e.z));refine(A2.pos HM.o).2 ⟨?_,j2.af (em _ j2)⟩;unfold JN Fd;simpa using aq)))
  | (go_region_held3 (λu=>At u rb 0 (.iface 334 (Pn x.nb))/\At u rb 1 (Pn cb))
       ((go_split_ands;first|done|(refine⟨?_,?_⟩<;>first|assumption|exact zab Au.drew (by assumption))))
       (first|(go_at_call 317;refine(aw.o wr.drew rfl).rtn λw6⟨aq,O⟩=>?_;obtain⟨s6,s7⟩:=AE ((O.block rb (Ap HI.o.box) (λe=>hxrb.2.1 (by injection e))).c HI.o.box);rw[yZ,HE4.o,Ot HM.o]at s6)|fail)
     have aA:=Ad (lx (hv:=Fd cb) HI.o HE1.o HE2.o HE3.o ((BU.u Au.drew).c O) (λaC h2=>by
       obtain⟨j1,j2⟩:=(A2.neg HM.o).1 h2;have e:=L1.o;unfold NN Bk at e j1;rw[e]at j1;simp at j1;subst j1;have em:∀g,Ao wr g []->w6.heap[g]?=wr.heap[g]?:=λg hg=>O.block g hg.lt (λe=>hg.cS L1.o (by injection e with e;exact e.z));refine(A2.neg HM.o).2 ⟨?_,j2.1.af (em _ j2.1),j2.2.af (em _ j2.2)⟩;unfold NN Fd;simpa using aq)))
 have am:=Ad (show Bw w w6 from HI.o.C.c ((BU.u Au.drew).c O |>.e HI.o.C.size (λg e=>by injection e with e;rw[<-e];exact hxrb.1)));have ar:=Ad ((O.block rb (Ap HI.o.box) (λe=>hxrb.2.1 (by injection e))).c HI.o.box);have aB:=Ad (show CS w6 cb nb wb [] [] from xy HI.o ((BU.u Au.drew).c O) (λe=>by
  have b1:=HI.o.cs.1;rw[Bk,e,show wr.heap[x.nb]?=_ from L1.o]at b1;simp at b1) (λg hg=>HI.o.dp hg L1.o))
 obtain⟨ao,aj,ai,au⟩:=BP (zox X xs rb cb nb wb adr U vw ca HX.o w6 HI.o.ao aA.o aB.o (λk c hc=>(HCX.o k c hc).W (CK.u am.o)) (HUS.o.W (CK.u am.o))) (show Ml ⟨X,xs,rb,cb,nb,wb⟩ U from⟨by have:=HI.o.bE.len;rwa [yZ]at this,by have:=HI.o.ao;rwa [yZ]at this,HI.o.cR,HX.o.small,HX.o.sr⟩) (show w.heap.size<=rb/\w.heap.size<=cb/\∀g,RD.S ⟨X,xs,rb,cb,nb,wb⟩ g->w.heap.size<=g from⟨HI.o.ax.1,HI.o.ax.2.1,λg hg=>by have:=HI.o.ax.2.2.2;rw[yZ]at this;exact(this g hg).1⟩) (show Ig .nilIface X xs=CV (Dt (AJ vw (Fd cb) .nilIface X xs)) 0 from oO (by have:=HI.o.bE.len;rwa [yZ]at this) HX.o.ne);clear aq O s6 s7 r0 r1 aw az;cases hf:fc.cp.neg
 .rw[Oq hf];have e1:Jn (AJ vw (Fd cb) .nilIface X xs)=325/\Qv cb (AJ vw (Fd cb) .nilIface X xs)=fx.nb:=by
   rw[HG1.o,HG2.o,AJ];rw[J5 hf];exact⟨rfl,rfl⟩
  rw[e1.1,e1.2]at ao;have aD:=λu=>Ti fx.nb u;exact tp
 .rw[Ot hf];have e1:Jn (AJ vw (Fd cb) .nilIface X xs)=320/\Qv cb (AJ vw (Fd cb) .nilIface X xs)=fx.nb:=by
   rw[HG1.o,HG2.o,AJ];rw[J1 hf];exact⟨rfl,rfl⟩
  rw[e1.1,e1.2]at ao;have aD:=λu=>Tj fx.nb u;exact tp
 ):=h
set_option maxHeartbeats 12800000 in
def zmk(X adr U vw ca cc Z n L)(A:QO X adr U vw ca)(w)(aF:∀(k:Nat)(c:Cx),X[k]?=some c->Eb adr vw ca w k c)(aB:Ch adr U w) :
  Ca 92 #[.agg #[.slice ca X.length cc,.slice Z n L]] w λe w'=>∃R:RD,R.X=X/\e=.returned (.iface 248 (Pn R.rb))/\Ml R U/\FW R adr U vw (gV vw) [] w'/\(w.heap.size<=R.rb/\w.heap.size<=R.cb/\∀g,R.S g->w.heap.size<=g)/\Bw w w':=by
 obtain⟨HCX,HUS,HX⟩:=AK aF aB A;have aM:=A.X6;clear aF aB A;have aL:=Le;go_enter func92,ntmps92;go_upto_region 1 with fail;refine BF ?_;intro w1 aw au;obtain⟨D,p1⟩:=AE au;have am:=Ad aw;clear aw au;go_upto_region 2 with(first|(go_at_call 153;refine(sU _).j ?_;rintro e G ⟨cb,nb,wb,rfl,b1,b2,K,E,m,b,f,ao⟩)|fail);have aA:=zab ao D;have aj:=Ad (am.thn ao);have B:=am.size;have aI:=aj.size;refine BF ?_;intro M O aG;have ar:=zab O aA;have az:=Ad (aj.thn O);have aC:=(O.block cb (Ap m)).c m;have ak:=Ad (show GJ X w G.heap.size cb nb wb 0 [] M from⟨yn _,trivial,aG,⟨aC,b.af (O.block nb b.lt),f.af (O.block wb f.lt)⟩,by simp[Dh,E],qf,⟨qd,qd,λx hx=>qF,λg hg=>by
  have h1:=b.lt;have h2:=f.lt;have h3:=O.size;simp only[Wk,Dh,yW,Yw,or_false]at hg;rcases hg with rfl|rfl<;>omega⟩,az⟩)
 obtain⟨rb,aq⟩:=AF G.heap.size;rw[<-aq]at ak⊢;clear b1 b2 K E m b f ao O aG D p1 aA aC aq am aj B aI;go_wp2_with fail;clear ar
 go_loopw [4,14] (λH iv wr=>∃(k:Nat)(xs:AS),iv=I6 (k:Int)/\H=MD (X.take k) xs/\GJ X w rb cb nb wb k xs wr) (λ_ iv _=>X.length-(intOf iv).toNat)
 .exact⟨0,[],rfl,rfl,ak⟩
 obtain⟨k,xs,rfl,rfl,p⟩:=hrel;have HI:=Ad p;have hk:=p.le;clear p ak az;by_cases aD:k<X.length
 .obtain⟨c,hc⟩:=Bq aD;obtain⟨gb,ax,⟨I,T,N,J⟩,_⟩:=(HCX k c hc).W (CK.u HI.C);rw[ax];obtain⟨z0,z1⟩:=CZ aD;have HC:=Ad hc;obtain⟨H,af⟩:=AF (MD (X.take k) xs);rw[<-af];have HFV:=Ad af;clear hc ax af;go_upto_region 6 with fail;refine BF ?_;intro w4 aH aE;obtain⟨d0,d1,d2,d3⟩:=AX aE;have HI4:=Ad (HI.bw aH);have r0:=AE HI4.box;obtain⟨r0,_⟩:=r0;obtain⟨lv,ah⟩:=AF (Ig .nilIface (X.take k) xs);rw[<-ah]at r0;have ay:lv=.nilIface∨∃t v,lv=.iface t v:=by rw[ah];exact py (.inl rfl)
  have HLV:=Ad ah;have aJ:wr.heap.size≠rb:=by have:=Ap HI.box;omega
  have HLK:=Ad ay;clear aH aE I T N J ah ay HI;cases hn:c.cp.neg
  .have tP1:=trivial;exact lB
  exact lB
 obtain rfl:k=X.length:=qd;have z1:¬(X.length:Int)<(X.length:Int):=qd;obtain⟨aN,c,xs',x,aK,e1,e2,e3,e4,e5⟩:=HI.bE.cd (by rw[yZ];exact HX.ne);rw[yZ]at e1 e4;obtain⟨HE1,HE2,HE3⟩:=AK e1 e2 e3;have r:=AE HI.box;obtain⟨r0,r1⟩:=r;rw[yZ,e4]at r0;obtain⟨HE5,HE4⟩:=An e5 e4;obtain⟨fc,fx,d,ai,q,s⟩:∃fc fx d ai,X=fc::d/\xs=fx::ai:=by
  have hl:=HI.bE.len;rw[yZ]at hl
  match X,xs,HX.ne,hl with
  |fc::d,fx::ai,_,_=>exact⟨fc,fx,d,ai,rfl,rfl⟩
  |[],_,h,_=>exact(h rfl).elim
  |_::_,[],_,h=>simp at h
 obtain⟨HG1,HG2⟩:=An q s;have af:MD (X.take X.length) xs=Fo fc fx:=by
  rw[yZ,q,s];rfl
 rw[af];have hxrb:=HI.ax.2.2.1 x (by rw[e2];simp);clear e1 e2 e3 e4 e5 q s af;cases hm:c.cp.neg
 .have tP2:=trivial;exact kk
 exact kk
end Go.Proofs.YtikojfajahnhgaaGreat
