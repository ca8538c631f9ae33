import Derived.Test.YtikojfajahnhgaaGreatKbf
import Derived.Test.YtikojfajahnhgaaGreatKbi
set_option linter.all false
set_option maxHeartbeats 3200000
set_option maxRecDepth 100000
namespace Go.Proofs.YtikojfajahnhgaaGreat
attribute [local simp] At I6 Pn mzI
attribute [local go_sem] At I6 Pn
open Go.RowKit Go.Proofs.Tryz
section
attribute [local go_sem ↓] wp_at_zero wp_at_succ
def GT(n:Bool × Nat):Value:=if n.1=true then .iface 334 (.pointer (some ⟨n.2,0,none⟩)) else .iface 337 (.pointer (some ⟨n.2,0,none⟩))
def BU(ns:List (Bool × Nat))(k:Nat):Value:=(ns[k]?.map GT).getD .nilIface
def Pr(ns:List (Bool × Nat)):Value->Nat
 |.iface _ (.pointer (some a))=>ns.length-(ns.map Prod.snd).idxOf a.block
 |_=>0
def Ja(b:Bool):Nat:=if b=true then 319 else 324
def RY{a}(h:(a.map Prod.snd).Nodup){k}(d:k<=a.length):Pr a (BU a k)=a.length-k:=by
 unfold BU;rcases Wf k a.length with hl|hl
 .have b:a[k]?=some a[k]:=JZ;rw[b];have c:(a.map Prod.snd).idxOf a[k].2=k:=by
   have:=List.Nodup.idxOf_getElem h k Lu;simpa using this
  show Pr a (GT a[k])=_;unfold GT;split<;>simp only[Pr,c]
 have b:a[k]?=none:=JZ;rw[b];show 0=_;omega
def xu(p a C s)(P:Nat->World->Prop)(t:(a.map Prod.snd).Nodup)(w)(q:P 0 w)(M:w.cell? ⟨p,0,none⟩=some (BU a 0))(O:∀(k:Nat)(n:Bool × Nat)(u:World),a[k]?=some n->P k u->Ca (Ja n.1) #[.pointer (some ⟨n.2,0,none⟩),.pointer C,.int .i64 s] u λe z=>e=.returned (.tuple #[])/\P (k+1) z/\z.cell? ⟨n.2,4,none⟩=some (BU a (k+1))) :
  Ca 305 #[.pointer (some ⟨p,0,none⟩),.pointer C,.int .i64 s] w λe w'=>e=.returned (.tuple #[])/\P a.length w':=by
 obtain⟨H,G,r⟩:=AA O q t;clear O q t;go_enter func305,ntmps305;go_wp2_with fail
 go_loopw [6] (λv wr=>∃k,k<=a.length/\v=BU a k/\P k wr) (λv _=>Pr a v)
 case atStart=>exact⟨0,yk _,rfl,G.o⟩
 case round=>
  obtain⟨k,J,rfl,B⟩:=hrel;have A:=Aa B;clear B;rcases Wf k a.length with hl|hl
  .obtain⟨⟨b,nb⟩,y⟩:∃n,a[k]?=some n:=⟨a[k],JZ⟩
   have f:=RY r.o J;have g:=RY r.o (show k+1<=a.length from hl);have hS:=H.o k (b,nb) wr y A.o;have hv:BU a k=GT (b,nb):=by simp[BU,y]
   rw[hv]at f⊢;obtain⟨nx,c⟩:∃nx,nx=BU a (k+1):=⟨_,rfl⟩
   rw[<-c]at hS g;obtain⟨I,i,L⟩:=AA c f g;clear c f g hv;cases b
   focus
    have d:=Aa hS;simp only[Ja,Yn,if_false]at d;simp only[GT,Yn,if_false]at i⊢;have D:=λu=>xK nb u;have E:=λu=>lj nb u;clear hS;go_wp2_with (first|(go_at_call 324;refine d.o.rtn λl⟨x,m⟩=>?_)|(go_at_call 316;refine(VZ nb nx l m).j ?_;rintro e K ⟨rfl,rfl⟩)|fail)
   rotate_left
   focus
    have d:=Aa hS;simp only[Ja,if_true]at d;simp only[GT,if_true]at i⊢;have D:=λu=>xn nb u;have E:=λu=>l5 nb u;clear hS;go_wp2_with (first|(go_at_call 319;refine d.o.rtn λl⟨x,m⟩=>?_)|(go_at_call 316;refine(VZ nb nx l m).j ?_;rintro e K ⟨rfl,rfl⟩)|fail)
   rotate_left
   all_goals
    refine⟨⟨k+1,hl,I.o,x⟩,?_⟩;have a1:=i.o;have N:=L.o;omega
  obtain rfl:k=a.length:=qd;have hv:BU a a.length=.nilIface:=by simp[BU]
  rw[hv];go_wp2_with fail;exact bodyPost_end (results_none rfl _ _ _) rfl ⟨rfl,A.o⟩
def xR(l cb mb a T)(O:List Nat)(y:(a.map Prod.snd).Nodup)(w)(aB:w.cell? ⟨l,0,none⟩=some (BU a 0))(aE:w.cell? ⟨l,1,none⟩=some (.pointer (some ⟨cb,0,none⟩)))(aA:w.cell? ⟨cb,0,none⟩=some (.map (some mb)))(C:Ag w mb (uv T))(hb:T.length+O.sum<=1000000000)(B:O.length=a.length)(t:∀(k:Nat)(n:Bool × Nat)(m:Nat),a[k]?=some n->O[k]?=some m->∃i L,w.cell? ⟨n.2,5,none⟩=some (.map (some i))/\Ag w i (uv L)/\L.length=m/\w.cell? ⟨n.2,4,none⟩=some (BU a (k+1))) :
  Ca 304 #[.pointer (some ⟨l,0,none⟩)] w λe w'=>e=.returned (.int .i64 ((T.length:Int)-1+(O.sum:Int)))/\w'=w:=by
 obtain⟨Z,I⟩:=Ah t y;have r:=Vn (P:=prog) (ty:=3) EP C;have q:(uv T).length=T.length:=by simp[uv]
 rw[q]at r;simp only[goInt]at r;have aD:IntKind.i64.wrap ((T.length:Int)-1)=(T.length:Int)-1:=by
  exact OU
 clear t y C q;go_enter func304,ntmps304;go_wp2_with fail
 go_loopw [3,4] (λc v wr=>∃k,k<=a.length/\v=BU a k/\c=.int .i64 ((T.length:Int)-1+((O.take k).sum:Int))/\wr=w) (λ_ v _=>Pr a v)
 case atStart=>exact⟨0,yk _,rfl,qe,rfl⟩
 case round=>
  obtain⟨k,W,rfl,rfl,Y⟩:=hrel;subst Y;rcases Wf k a.length with hl|hl
  .obtain⟨⟨b,nb⟩,G⟩:∃n,a[k]?=some n:=⟨a[k],JZ⟩
   obtain⟨m,A⟩:∃m,O[k]?=some m:=⟨O[k],by simp[hl,B]⟩
   obtain⟨i,L,H,x,d,D⟩:=Z.o k (b,nb) m G A;obtain⟨g,E⟩:=Ah (RY I.o W) (RY I.o (show k+1<=a.length from hl));have hv:BU a k=GT (b,nb):=by simp[BU,G]
   have p:(O.take (k+1)).sum=(O.take k).sum+m:=by
    rw[yZ,A];simp
   have R:(O.take (k+1)).sum<=O.sum:=by
    have:=congrArg List.sum (WE (k+1) O);rw[WV]at this;omega
   have z:=Aa (zio nb i L _ H x);rw[d]at z;have s:=Aa (VZ nb (BU a (k+1)) _ D);obtain⟨nx,f⟩:∃nx,nx=BU a (k+1):=⟨_,rfl⟩
   rw[<-f]at s E;obtain⟨S,hS⟩:∃S,S=(O.take k).sum:=⟨_,rfl⟩
   rw[<-hS]at p⊢;have aC:IntKind.i64.wrap ((T.length:Int)-1+(S:Int)+(m:Int))=(T.length:Int)-1+(S:Int)+(m:Int):=by
    exact OU
   rw[hv]at g⊢;obtain⟨K,U⟩:=Ah f p;clear f hv p hS x H D d R;cases b
   focus
    simp only[GT,Yn,if_false]at g⊢;have J:=λu=>zE nb u;have M:=λu=>lj nb u
   rotate_left
   focus
    simp only[GT,if_true]at g⊢;have J:=λu=>vO nb u;have M:=λu=>l5 nb u
   rotate_left
   all_goals
    go_wp2_with (first|(go_at_call 318;refine z.o.j ?_;rintro e w2 ⟨rfl,rfl⟩)|(go_at_call 316;refine s.o.j ?_;rintro e w3 ⟨rfl,rfl⟩)|fail);refine⟨⟨k+1,hl,K.o,?_,trivial⟩,?_⟩
    .rw[U.o];congr 1;omega
    have a1:=g.o;have a2:=E.o;omega
  obtain rfl:k=a.length:=qd;have hv:BU a a.length=.nilIface:=by simp[BU]
  rw[hv];have N:O.take a.length=O:=by rw[<-B,yV]
  rw[N];go_wp2_with fail;exact bodyPost_ret (by simp[results,results304,go_sem]) rfl ⟨rfl,rfl⟩
def x8(a p w)(h:At w a 1 (.pointer p)):Ca 302 #[Pn a] w λe w'=>e=.returned (.pointer p)/\w'=w:=by
 go_enter func302,ntmps302;go_wp2_with fail;exact bodyPost_ret (by simp[results,results302,go_sem]) rfl ⟨rfl,rfl⟩
end
def Bs(adr:F->Addr)(U:List F):Prop:=∀f∈U,∀g∈U,adr f=adr g->f=g
def JO{adr U T O}(e:Bs adr U)(j:∀f∈T,f∈U)(d:∀f∈O,f∈U)(m:T.length<=3)(l:O.length<=3)(h:Ab adr T=Ab adr O):T=O:=by
 have key:∀i:Nat,T[i]?.map adr=O[i]?.map adr->T[i]?=O[i]?:=λi c=>by
  cases b:T[i]? with
  |none=>
   cases a:O[i]? with
   |none=>rfl
   |some g=>simp[b,a]at c
  |some f=>
   cases a:O[i]? with
   |none=>simp[b,a]at c
   |some g=>
    simp only[b,a,Y4,YY]at c;rw[e f (j f (yd b)) g (d g (yd a)) c]
 simp only[Ab,YO]at h;apply YA;intro i
 match i with
 |0=>exact key 0 h.1
 |1=>exact key 1 h.2.1
 |2=>exact key 2 h.2.2
 |k+3=>rw[Yi qd,Yi qd]
def C9(x:Kt)(L:List Kt):Int:=if x∈L then 1 else 0
def jD{x L}(h:x∈L):C9 x L=1:=if_pos h
def Oo{x L}(h:x ∉ L):C9 x L=0:=if_neg h
def SH(x L):C9 x L=0∨C9 x L=1:=by
 unfold C9;split
 .exact .inr rfl
 exact .inl rfl
def V8{x L a}(h:L.Perm a):C9 x L=C9 x a:=by
 unfold C9;simp only[h.mem_iff]
structure BS(old now:List Kt) (M:List (Kt × Int)):Prop where
 nz:∀y∈M,y.2≠0
 cnt:∀x,As x M=C9 x now-C9 x old
def BS.perm{old a O M}(h:BS old a M)(b:a.Perm O):BS old O M:=⟨h.nz,λx=>by rw[h.cnt x,V8 b]⟩
def BS.bR{old a M}(h:BS old a M)(x):-9<=As x M/\As x M<=9:=by
 rw[h.cnt x];rcases SH x a with c|c<;>rcases SH x old with b|b<;>rw[c,b]<;>decide
def j4(x s M):As x (E8 x s M)=As x M+s:=by
 unfold E8;split
 .rename_i h;rw[h];exact iG x M
 exact il x _ M
def nE{x y}(h:x≠y)(s M):As y (E8 x s M)=As y M:=by
 unfold E8;split
 .exact lq h M
 exact lP h _ M
def iU{x s M}(h:∀y∈M,y.2≠0):∀y∈E8 x s M,y.2≠0:=by
 intro y a;unfold E8 at a;split at a
 .exact h y (yf.1 a).1
 rename_i b;unfold Ea at a;split at a
 .obtain⟨z,O,e⟩:=yz.1 a;split at e
  .rw[<-e];exact b
  rw[<-e];exact h z O
 rcases yn.1 a with a|a
 .exact h y a
 rw[yp.1 a];exact b
def BS.bG{old a M x}(h:BS old a M)(b:x ∉ a):BS old (a++[x]) (E8 x 1 M):=by
 refine⟨iU h.nz,λy=>?_⟩;by_cases e:x=y
 .subst e;rw[j4,h.cnt,Oo b,jD (show x∈a++[x] by simp)];omega
 rw[nE e,h.cnt];have:C9 y (a++[x])=C9 y a:=by
  unfold C9;simp only[yn,yp,show¬y=x fromλh=>e h.y,or_false]
 rw[this]
def BS.be{old a M x}(h:BS old a M)(b:x∈a):BS old (a.filter (λy=>decide (y≠x))) (E8 x (-1) M):=by
 refine⟨iU h.nz,λy=>?_⟩;by_cases e:x=y
 .subst e;rw[j4,h.cnt,jD b,Oo (show x ∉ a.filter (λy=>decide (y≠x)) by simp)];omega
 rw[nE e,h.cnt];have:C9 y (a.filter (λy=>decide (y≠x)))=C9 y a:=by
  unfold C9;simp only[yf,decide_eq_true_eq,ne_eq,show¬y=x fromλh=>e h.y,not_false_eq_true,and_true]
 rw[this]
def A2:Ar->List (List F)->List (List F)
 |(.inl d,fs),TT=>TT.flatMap (λT=>(fs.filter (λf=>d.ts.all (Ap T f))).map (λf=>T++[f]))
 |(.inr d,fs),TT=>TT.filter (λT=>decide (nBar d.ts fs T=0))
def kk(n A B):A2 n (A++B)=A2 n A++A2 n B:=by
 rcases n with⟨d|d,fs⟩
 .exact Yr
 exact yM _ _
def mD(n){A B}(h:A.Perm B):(A2 n A).Perm (A2 n B):=by
 rcases n with⟨d|d,fs⟩
 .exact h.flatMap_right _
 exact h.filter _
def Lv(adr:F->Addr)(old:List Kt):(l:List Ar)->List (List F)->CQ l->Prop
 |[],TT,a=>a.1.Perm (TT.map (Ab adr))/\BS old a.1 a.2
 |(.inl d,fs)::r,TT,a=>a.1.Perm TT/\Lv adr old r (A2 (.inl d,fs) TT) a.2
 |(.inr d,fs)::r,TT,a=>a.1.Perm TT/\(∀T∈TT,As (Ab adr T) a.2.1=(nBar d.ts fs T:Int))/\Lv adr old r (A2 (.inr d,fs) TT) a.2.2
def Lv.perm{adr old}:∀{l:List Ar}{A B:List (List F)}{a:CQ l},Lv adr old l A a->A.Perm B->Lv adr old l B a
 |[],_,_,_,h,hp=>⟨h.1.c (hp.map _),h.2⟩
 |(.inl d,fs)::_,_,_,_,h,hp=>⟨h.1.c hp,Lv.perm h.2 (mD (.inl d,fs) hp)⟩
 |(.inr d,fs)::_,_,_,_,h,hp=>⟨h.1.c hp,λT b=>h.2.1 T (hp.mem_iff.2 b),Lv.perm h.2.2 (mD (.inr d,fs) hp)⟩
def Et(U:List F):List Ar->List (List F)->List F->Prop
 |[],_,T=>T.length<=3/\∀f∈T,f∈U
 |(.inl d,fs)::r,g::G,T=>(T.length=d.N/\T.length<3)/\(∀f∈T,f∈U)/\(∀f∈fs,f∈g)/\fs.Nodup/\(∀f∈g,f∈U/\∀t∈d.ts,t.V T f)/\∀f∈g,d.ts.all (Ap T f)=true->Et U r G (T++[f])
 |(.inr d,fs)::r,g::G,T=>T.length<=3/\(∀f∈T,f∈U)/\(∀f∈fs,f∈g)/\(∀f∈g,∀t∈d.ts,t.V T f)/\Et U r G T
 |_::_,[],_=>False
def Et.len{U}:∀{l:List Ar}{G:List (List F)}{T:List F},Et U l G T->T.length<=3/\∀f∈T,f∈U
 |[],_,_,h=>h
 |(.inl _,_)::_,_::_,_,h=>⟨KP h.1.2,h.2.1⟩
 |(.inr _,_)::_,_::_,_,h=>⟨h.1,h.2.1⟩
 |(.inl _,_)::_,[],_,h=>h.elim
 |(.inr _,_)::_,[],_,h=>h.elim
def Qn{T a}{f O:F}(h:T++[f]=a++[O]):T=a/\f=O:=by simp_all
def Lb{U n r g G TT}(h:∀T∈TT,Et U (n::r) (g::G) T):∀T∈A2 n TT,Et U r G T:=by
 intro T b;rcases n with⟨d|d,fs⟩
 .obtain⟨O,e,k⟩:=Yo.1 b;obtain⟨f,a,rfl⟩:=yz.1 k;obtain⟨a,j⟩:=yf.1 a;obtain⟨_,_,c,_,_,i⟩:=h O e;exact i f (c f a) j
 exact(h T (yf.1 b).1).2.2.2.2
def Lj{U n r g G TT}(h:∀T∈TT,Et U (n::r) (g::G) T)(c:TT.Nodup):(A2 n TT).Nodup:=by
 rcases n with⟨d|d,fs⟩
 .refine XI c (λT k=>?_) (λT _ l _ hne z hz O=>?_)
  .obtain⟨_,_,_,i,_⟩:=h T k;exact Ki _ (λa b j e=>j (Qn e).2) (i.filter _)
  exact oW
 exact c.filter _
def zK{n TT T U}(b:T ∉ TT)(c:U∈A2 n [T]):U ∉ A2 n TT:=by
 intro h;rcases n with⟨d|d,fs⟩
 .obtain⟨k,j,a⟩:=Yo.1 h;obtain⟨f,o,rfl⟩:=yz.1 a;obtain⟨m,g,i⟩:=Yo.1 c;obtain⟨l,O,e⟩:=yz.1 i;rw[yp.1 g]at e;exact b (by rw[(Qn e).1];exact j)
 have a:=(yf.1 c).1;rw[yp.1 a]at h;exact b (yf.1 h).1
def Lh{adr U}{TT:List (List F)}{T}(e:Bs adr U)(c:∀T∈TT,T.length<=3/\∀f∈T,f∈U)(b:T.length<=3/\∀f∈T,f∈U):Ab adr T∈TT.map (Ab adr)↔T∈TT:=by
 constructor
 .intro h;obtain⟨O,a,d⟩:=yz.1 h;rw[JO e b.2 (c O a).2 b.1 (c O a).1 d.y];exact a
 exactλh=>yU h
section
variable {adr : F -> Addr} {U : List F} {old : List Kt} {cb nb wb : Nat}
def DY(adr:F->Addr)(U:List F)(old:List Kt)(cb nb wb:Nat)(l:List Ar):Prop:=∀(G:List (List F))(TT:List (List F))(a:CQ l)(T:List F),Lv adr old l TT a->(∀T∈TT,Et U l G T)->TT.Nodup->Et U l G T->T ∉ TT->(Df adr 1 U cb nb wb l).ok T a/\∀a',(Df adr 1 U cb nb wb l).stp T a a'->Lv adr old l (TT++[T]) a'
def DY.aB{l}(h:DY adr U old cb nb wb l)(G):∀(d:List (List F))(TT:List (List F))(a b:CQ l),Lv adr old l TT a->(∀T∈TT,Et U l G T)->(∀T∈d,Et U l G T)->(TT++d).Nodup->BH (Df adr 1 U cb nb wb l).stp d a b->Lv adr old l (TT++d) b
 |[],TT,a,b,h1,_,_,_,hs=>by
  rw[<-show a=b from hs,yQ]
  exact h1
 |V::d,TT,a,b,h1,h2,h3,h4,⟨c,hs,hr⟩=>by
  have e:TT++V::d=(TT++[V])++d:=qe
  rw[e]at h4⊢
  have g:=(yK.1 h4).1
  have i:V ∉ TT:=λq=>(yK.1 g).2.2 V q V qe rfl
  refine DY.aB h G d (TT++[V]) c b ((h G TT a V h1 h2 (yK.1 g).1 (h3 V qe) i).2 c hs) (λT f=>?_) (λT f=>h3 T (by simp[f])) h4 hr
  rcases yn.1 f with f|f
  .exact h2 T f
  rw[yp.1 f]
  exact h3 V qe
def Qo(s:Bs adr U):∀(l:List Ar),DY adr U old cb nb wb l
 |[]=>λG TT a T h j C c O=>by
  have o:Ab adr T ∉ a.1:=λq=>O ((Lh s (λT h=>(j T h)) c).1 (h.1.mem_iff.1 q))
  refine⟨⟨λ_=>o,h.2.bR _⟩,λk z=>?_⟩
  have e:k=(a.1++[Ab adr T],E8 (Ab adr T) 1 a.2):=by
   have e0:k=(FN (Ab adr T) 1 a.1,E8 (Ab adr T) 1 a.2):=z;rw[e0,FN,if_pos rfl]
  subst e;refine⟨?_,h.2.bG o⟩;rw[yF];exact h.1.append (.refl _)
 |(.inl d,fs)::r=>λG TT a T h j C c O=>by
  match G,j,c with
  |[],_,c=>exact c.elim
  |g::G,j,c=>
   have ih:=Qo s r;have o:Ab adr T ∉ a.1.map (Ab adr):=λq=>O ((Lh s (λT h=>(j T h).len) c.len).1 (((h.1.map _).mem_iff).1 q));obtain⟨w1,w2,w3,w4,w5,w6⟩:=c;have u:∀V∈A2 (.inl d,fs) [T],Et U r G V:=Lb (n:=(.inl d,fs)) (g:=g) (λW h'=>rA);have ay:(A2 (.inl d,fs) [T]).Nodup:=Lj (n:=(.inl d,fs)) (r:=r) (U:=U) (g:=g) (G:=G) (λW h'=>rA) qe;have M:A2 (.inl d,fs) [T]=(fs.filter (λf=>d.ts.all (Ap T f))).map (λf=>T++[f]):=by simp[A2]
   have E:=Lj j C;have w:=Lb j;have A:(A2 (.inl d,fs) TT++A2 (.inl d,fs) [T]).Nodup:=yK.2 ⟨E,ay,λx hx y hy e=>zK O hy (e▸hx)⟩;refine⟨⟨w1.1,w2,λf H=>(w5 f (w3 f H)).2,λ_=>o,λi f b hi Y N=>?_⟩,λk z=>?_⟩
   .have Z:(((fs.take i).filter (λf=>d.ts.all (Ap T f))).map (λf=>T++[f]))++[T++[f]] <+: A2 (.inl d,fs) [T]:=by
     rw[M];have e1:fs.take (i+1)=fs.take i++[f]:=by
      rw[yZ,hi];rfl
     have e2:(((fs.take i).filter (λf=>d.ts.all (Ap T f))).map (λf=>T++[f]))++[T++[f]]=((fs.take (i+1)).filter (λf=>d.ts.all (Ap T f))).map (λf=>T++[f]):=by
      rw[e1,yM,yD (p:=λf=>d.ts.all (Ap T f)) Y,Yp,yF];rfl
     rw[e2];exact((List.take_prefix _ _).filter _).map _
    obtain⟨rest,K⟩:=Z;obtain⟨t,az⟩:∃t,t=((fs.take i).filter (λf=>d.ts.all (Ap T f))).map (λf=>T++[f]):=⟨_,rfl⟩
    rw[<-az]at K N;rw[<-K]at A u;have D:(A2 (.inl d,fs) TT++(t++[T++[f]])).Nodup:=by
     rw[<-yW]at A;exact(yK.1 A).1
    have R:(A2 (.inl d,fs) TT++t).Nodup:=by
     rw[<-yW]at D;exact(yK.1 D).1
    have hl:=DY.aB ih G t _ _ b h.2 w (λV hV=>u V Lr) R N;refine(ih G _ b (T++[f]) hl (λV hV=>?_) R (u _ qe) (λq=>?_)).1
    .rcases yn.1 hV with hV|hV
     .exact w V hV
     exact u V Lr
    rw[<-yW]at D;exact(yK.1 D).2.2 _ q _ qe rfl
   .obtain⟨I,v⟩:k.1=G8 adr T 1 a.1/\BH (Df adr 1 U cb nb wb r).stp ((fs.filter (λf=>d.ts.all (Ap T f))).map (λf=>T++[f])) a.2 k.2:=z;rw[<-M]at v;refine⟨?_,?_⟩
    .rw[I,G8,if_pos rfl];exact h.1.append (.refl _)
    .rw[kk];exact DY.aB ih G _ _ _ _ h.2 w u A v
 |(.inr d,fs)::r=>λG TT a T h j C c O=>by
  match G,j,c with
  |[],_,c=>exact c.elim
  |g::G,j,c=>
   have ih:=Qo s r;have o:Ab adr T ∉ a.1.map (Ab adr):=λq=>O ((Lh s (λT h=>(j T h).len) c.len).1 (((h.1.map _).mem_iff).1 q));obtain⟨w1,w2,w3,w4,w5⟩:=c;have E:=Lj j C;have w:=Lb j;have J:T ∉ A2 (.inr d,fs) TT:=λq=>O (yf.1 q).1;have L:=ih G _ _ T h.2.2 w E w5 J;refine⟨⟨w1,w2,λf H=>w4 f (w3 f H),λ_=>⟨o,λ_=>L.1⟩,λe=>qo⟩,λk z=>?_⟩;obtain⟨I,v,m⟩:k.1=G8 adr T 1 a.1/\k.2.1=Gq (Ab adr T) (if(1:Int)=1 then(nBar d.ts fs T:Int) else 0) a.2.1/\(Df adr 1 U cb nb wb r).au (if(1:Int)=1 then nBar d.ts fs T else(As (Ab adr T) a.2.1).toNat) T a.2.2 k.2.2:=z;rw[if_pos rfl]at v m;refine⟨?_,λV hV=>?_,?_⟩
   .rw[I,G8,if_pos rfl];exact h.1.append (.refl _)
   .rw[v];rcases yn.1 hV with hV|hV
    .rw[Tl (λe=>O (by
      rw[JO s w2 ((j V hV).len).2 w1 ((j V hV).len).1 e];exact hV))]
     exact h.2.1 V hV
    rw[yp.1 hV];exact Vy _ _ _
   rw[kk];unfold CE.au at m;by_cases B:nBar d.ts fs T=0
   .rw[if_pos B]at m;have e:A2 (.inr d,fs) [T]=[T]:=by simp[A2,B]
    rw[e];exact L.2 _ m
   rw[if_neg B]at m;have e:A2 (.inr d,fs) [T]=[]:=by simp[A2,B]
   rw[e,yQ,m];exact h.2.2
end
end Go.Proofs.YtikojfajahnhgaaGreat
