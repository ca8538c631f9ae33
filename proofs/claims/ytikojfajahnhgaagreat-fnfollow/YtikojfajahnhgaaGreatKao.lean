import Derived.Test.YtikojfajahnhgaaGreatKak
import Derived.Test.YtikojfajahnhgaaGreatKaf
import Derived.Test.YtikojfajahnhgaaGreatKan
set_option linter.all false
set_option maxHeartbeats 12800000
set_option maxRecDepth 100000
namespace Go.Proofs.YtikojfajahnhgaaGreat
open Go.RowKit Go.Proofs.Tryz
attribute [local go_sem ↓] wp_at_zero wp_at_succ
attribute [local simp] At I6 Pn mzI Bk
attribute [local go_sem] At I6 Pn Bk
variable{P:Prop}
def My{l w w' base g e m v n xs}(h:w.ownsRow base e m v n xs)(b:Rs g l w w')(c:g<base):w'.ownsRow base e m v n xs:=
 Ci h λk a=>b.1.block k (h.lt k a).2 (λe=>by injection e with e;have:=(h.lt k a).1;omega)
def wI{l l' w w' base g e m v n xs}(h:w.ownsRow base e m v n xs)(j:Rs g l w w')(f:ES w g l')(a:e≠73):w'.ownsRow base e m v n xs:=
 Ci h λk b=>j.1.block k (h.lt k b).2 (λe=>by
  injection e with e
  subst e
  obtain⟨c,i⟩:=A7 h b
  obtain⟨_,_,_,_,d,_⟩:=f
  exact Cw i d a)
def Rs.grown{l g row u v w}(h:Rs g l u v)(d:v.grownBy w row)(f:∀k,row=some k->u.heap.size<=k)(O:g<u.heap.size):Rs g l u w:=
 ⟨⟨h.1.rest.grown d (yn _) (λ_ _=>yn _),λk a b=>(d.block k (yg a h.1.rest.size) (λe=>by have:=f k e.z;omega)).c (h.1.block k a b)⟩,h.2.cq (Au.grown d (by have:=h.1.rest.size;omega) (λk a=>by have:=f k a;omega))⟩
abbrev NY:=Pt × Value
def DR(x:NY):Aj:=[.bool x.1.neg,.string x.1.E,x.2]
def zo8(x)(h:x.2.oneCell'=true):∀u∈DR x,u.oneCell'=true:=by
 intro u hu;simp[DR]at hu;rcases hu with rfl|rfl|rfl
 .rfl
 .rfl
 exact h
def H5(w:Aa)(base:Nat)(x:NY):Prop:=(∃a c,x.2=.slice a x.1.s.length c)/\w.ownsRow base 189 6 x.2 x.1.s.length (x.1.s.flatMap GS)/\XK x.1.E/\x.1.s.length<=3/\∀t∈x.1.s,QK t
def PO(w:Aa)(base:Nat)(a:Af)(c:Nat)(L:List NY):Prop:=w.ownsRow base 152 3 (.slice a L.length c) L.length (L.flatMap DR)/\∀x∈L,H5 w base x
def PO.nil(w base):PO w base none 0 []:=⟨yJ _ _ _ _,λx hx=>qF⟩
def H5.rs{l w w' base g x}(h:H5 w base x)(a:Rs g l w w')(b:g<base):H5 w' base x:=⟨h.1,My h.2.1 a b,h.2.2⟩
def PO.rs{l w w' base g a c L}(h:PO w base a c L)(b:Rs g l w w')(d:g<base):PO w' base a c L:=⟨My h.1 b d,λx e=>(h.2 x e).rs b d⟩
def H5.C{w w' base x}(h:H5 w base x)(a:Bw w w'):H5 w' base x:=⟨h.1,AZ h.2.1 a,h.2.2⟩
def PO.C{w w' base a c L}(h:PO w base a c L)(b:Bw w w'):PO w' base a c L:=⟨AZ h.1 b,λx d=>(h.2 x d).C b⟩
def H5.grown{w w' base t x row}(h:H5 w base x)(d:w.grownBy w' row)(b:∀k,row=some k->∃c,Bk w k c t)(a:t≠189):H5 w' base x:=⟨h.1,JZ h.2.1 d b a,h.2.2⟩
def H5.set{w base b o t x v c e}(h:H5 w base x)(d:w.heap[b]?=some (.cells c t e))(a:t≠189):H5 (w.setCell ⟨b,o,none⟩ v) base x:=⟨h.1,Is h.2.1 d a,h.2.2⟩
def PO.set{w base b o t a f L v c i}(h:PO w base a f L)(e:w.heap[b]?=some (.cells c t i))(d:t≠189)(O:t≠152):PO (w.setCell ⟨b,o,none⟩ v) base a f L:=⟨Is h.1 e O,λx g=>(h.2 x g).set e d⟩
def PO.snoc{w w' base a d c b L x}(h:PO w base a c L)(hx:H5 w base x)(ho:w'.ownsRow base 152 3 (.slice d (L.length+1) b) (L.length+1) (L.flatMap DR++DR x))(f:w.grownBy w' (Value.slice a L.length c).ownBlock):PO w' base d b (L++[x]):=by
 refine⟨Qm,λy hy=>?_⟩;have O:H5 w base y:=by
  exact tG
 exact O.grown (t:=152) f (λk e=>A7 h.1 e) qi
def IK(K:AG)(w:Aa)(base:Nat)(a:Af)(n c:Nat):Prop:=n<=1000/\∃ks:AG,(ks=K/\ks.length=n)/\(∀s∈ks,XJ s)/\w.ownsRow base 9 1 (.slice a n c) n (ks.map Value.string)
def IK.rs{l K w w' base g a n c}(h:IK K w base a n c)(e:Rs g l w w')(i:g<base):IK K w' base a n c:=by
 obtain⟨O,b,j,d,f⟩:=h;exact⟨O,b,j,d,My f e i⟩
def IK.on{K w base g a n c}(h:IK K w base a n c)(o:g<base):Oh K w g a n:=by
 obtain⟨l,d,b,e,f⟩:=h;refine⟨⟨qd,by rw[<-b.1];exact b.2.z⟩,λj hj=>?_⟩;have O:j<d.length:=by have:=b.2;omega
 obtain⟨k,rfl,m,i,_⟩:=CG f (j:=j) (x:=.string d[j]) Qk;exact⟨k,0,d[j],rfl,qd,⟨⟨(e _ (YX O)).1,(e _ (YX O)).2,by rw[<-b.1];exact YX O⟩,by rw[<-b.1];simp[O]⟩,by rw[Yj];exact i⟩
def IK.q{K w base g b B t a n c cb p}(h:IK K w base a n c)(C:g<base)(v:w.heap[b]?=some (.cells cb t p))(r:t≠9)(y:w.heap.size<=B):LM K w g b B a n:=by
 obtain⟨u,f,d,i,l⟩:=h;refine⟨⟨qd,by rw[<-d.1];exact d.2.z⟩,λj hj=>?_⟩;have O:j<f.length:=by have:=d.2;omega
 obtain⟨k,rfl,o,m,_⟩:=CG l (j:=j) (x:=.string f[j]) Qk;obtain⟨A,s⟩:=A7 l (k:=k) rfl;refine⟨k,0,f[j],rfl,qd,λe=>?_,?_,⟨⟨(i _ (YX O)).1,(i _ (YX O)).2,by rw[<-d.1];exact YX O⟩,by rw[<-d.1];simp[O]⟩,by rw[Yj];exact m⟩
 all_goals grind
def BO(T:List TypeId)(base:Nat)(w w':Aa):Prop:=∀k t c,base<=k->Bk w k c t->t∈T->w'.heap[k]?=w.heap[k]?
def Nj{T base w w' e m v n xs}(h:w.ownsRow base e m v n xs)(b:BO T base w w')(f:e∈T):w'.ownsRow base e m v n xs:=by
 refine Ci h λk a=>?_;obtain⟨c,d⟩:=A7 h a;exact b k e c (h.lt k a).1 d f
def BO.C{T base w w'}(b:Bw w w'):BO T base w w':=λk _ _ _ a _=>b.block k (Ap a)
def BO.rs{l T base g w w'}(a:Rs g l w w')(d:g<base):BO T base w w':=λk _ _ c b _=>a.1.block k (Ap b) (λe=>qO)
def BO.bG{l l' T base g w w'}(d:Rs g l w w')(i:ES w g l')(f:73 ∉ T):BO T base w w':=λk t c m a b=>d.1.block k (Ap a) (λe=>by
 injection e with e;subst e;obtain⟨_,_,_,_,j,_⟩:=i;refine Cw a j (λe=>f (e▸b)))
def BO.grown{T base t w w' row}(g:w.grownBy w' row)(d:∀k,row=some k->∃c,Bk w k c t)(f:t ∉ T):BO T base w w':=λk t' c _ a b=>g.block k (Ap a) (λe=>by
 obtain⟨i,O⟩:=d k e.z;exact Cw a O (λe=>f (e▸b)))
def BO.kept{T base d t w w' c f}(b:∀k,k≠d->k<w.heap.size->w'.heap[k]?=w.heap[k]?)(hd:w.heap[d]?=some (.cells c t f))(a:t ∉ T):BO T base w w':=λk t' g _ h O=>b k (λe=>by
 subst e;exact Cw h hd (λe=>a (e▸O))) (Ap h)
def BO.c{T base u v w}(h:BO T base u v)(O:BO T base v w):BO T base u w:=λk t c a b d=>(O k t c a ((h k t c a b d).c b) d).c (h k t c a b d)
def BO.ey{T O base u v}(h:BO T base u v)(b:∀t∈O,t∈T):BO O base u v:=λk t c a d e=>h k t c a d (b t e)
abbrev QU:=Ac × Value
def Gx(x:QU):Aj:=[.int .i64 x.1.w,.int .i64 x.1.k,.string x.1.E,x.2]
def QV(w:Aa)(base:Nat)(x:QU):Prop:=(∃a c,x.2=.slice a x.1.args.length c)/\w.ownsRow base 3 1 x.2 x.1.args.length (Ay x.1.args)
def Fk(w:Aa)(base:Nat)(a:Af)(c:Nat)(Y:List QU):Prop:=w.ownsRow base 227 4 (.slice a Y.length c) Y.length (Y.flatMap Gx)/\∀x∈Y,QV w base x
def Fk.nil(w base):Fk w base none 0 []:=⟨yJ _ _ _ _,λx hx=>qF⟩
theorem Fk.same{T base w w' a c Y}(h:Fk w base a c Y)(d:BO T base w w')(e:227∈T)(f:3∈T):Fk w' base a c Y:=⟨Nj h.1 d e,λx b=>⟨(h.2 x b).1,Nj (h.2 x b).2 d f⟩⟩
def Fk.C{base w w' a c Y}(h:Fk w base a c Y)(b:Bw w w'):Fk w' base a c Y:=h.same (T:=[227,3]) (BO.C b) qi qi
def Fk.rs{l base g w w' a c Y}(h:Fk w base a c Y)(b:Rs g l w w')(d:g<base):Fk w' base a c Y:=h.same (T:=[227,3]) (BO.rs b d) qi qi
def Fk.N{base d w w' a c Y O i}(h:Fk w base a c Y)(f:Turned w w' d)(hd:∀k,(Value.slice a Y.length c).ownBlock=some k->k≠d)(g:w.heap[d]?=some (.cells O 227 i)):Fk w' base a c Y:=
 ⟨Ci h.1 (λk b=>f.block k (hd k b)),λx e=>⟨(h.2 x e).1,Nj (h.2 x e).2 (T:=[3]) (BO.kept (λk b _=>f.block k b) g qi) qi⟩⟩
def Fk.qs{l base g b o w w' a c Y}(h:Fk w base a c Y)(d:Qs g b l o w w')(j:g<base)(e:b<base)(f:∀k,o=some k->∃c,Bk w k c 225):Fk w' base a c Y:=
 ⟨Za h.1 d j e f qi,λx i=>⟨(h.2 x i).1,Za (h.2 x i).2 d j e f qi⟩⟩
structure Fi where
 nm:ByteArray
 aq:Int
 pv:Value
 ev:Value
 av:Value
 x:List NY
 es:AL
 K:List QU
def Fi.ru(x:Fi):Ru:=⟨x.nm,x.aq,x.x.map Prod.fst,x.es,x.K.map Prod.fst⟩
def Fb(x:Fi):Aj:=[.string x.nm,.int .i64 x.aq,x.pv,x.ev,x.av]
def Qg:List TypeId:=[152,189,225,227,3]
def LJ(w:Aa)(base:Nat)(x:Fi):Prop:=(∃a c,x.pv=.slice a x.x.length c/\PO w base a c x.x)/\(∃a c,x.ev=.slice a x.es.length c/\w.ownsRow base 225 8 (.slice a x.es.length c) x.es.length (x.es.flatMap Ho)/\∀e∈x.es,IV e)/\∃a c,x.av=.slice a x.K.length c/\Fk w base a c x.K
theorem PO.same{T base w w' a c L}(h:PO w base a c L)(d:BO T base w w')(e:152∈T)(f:189∈T):PO w' base a c L:=⟨Nj h.1 d e,λx b=>⟨(h.2 x b).1,Nj (h.2 x b).2.1 d f,(h.2 x b).2.2⟩⟩
theorem LJ.same{base w w' x}(h:LJ w base x)(b:BO Qg base w w'):LJ w' base x:=by
 obtain⟨⟨a,c,e,g⟩,⟨d,f,m,i,n⟩,O,l,j,k⟩:=h;exact⟨⟨a,c,e,g.same b qi qi⟩,⟨d,f,m,Nj i b qi,n⟩,O,l,j,k.same b qi qi⟩
def LJ.lower{base base' w x}(h:LJ w base x)(d:base'<=base):LJ w base' x:=by
 obtain⟨⟨a,c,e,f⟩,⟨n,i,k,o,l⟩,O,m,j,g⟩:=h;exact⟨⟨a,c,e,C4 f.1 d,λy b=>⟨(f.2 y b).1,C4 (f.2 y b).2.1 d,(f.2 y b).2.2⟩⟩,⟨n,i,k,C4 o d,l⟩,O,m,j,C4 g.1 d,λy b=>⟨(g.2 y b).1,C4 (g.2 y b).2 d⟩⟩
def RO(w:Aa)(base:Nat)(a:Af)(c:Nat)(M:List Fi):Prop:=w.ownsRow base 53 5 (.slice a M.length c) M.length (M.flatMap Fb)/\∀x∈M,LJ w base x
def RO.nil(w base):RO w base none 0 []:=⟨yJ _ _ _ _,λx hx=>qF⟩
theorem RO.same{base w w' a c M}(h:RO w base a c M)(b:BO (53::Qg) base w w'):RO w' base a c M:=⟨Nj h.1 b qi,λx d=>(h.2 x d).same (b.ey (λt e=>YP _ e))⟩
def RO.lower{base base' w a c M}(h:RO w base a c M)(b:base'<=base):RO w base' a c M:=⟨C4 h.1 b,λx d=>(h.2 x d).lower b⟩
def RO.C{base w w' a c M}(h:RO w base a c M)(b:Bw w w'):RO w' base a c M:=h.same (BO.C b)
def RO.rs{l base g w w' a c M}(h:RO w base a c M)(b:Rs g l w w')(d:g<base):RO w' base a c M:=h.same (BO.rs b d)
def RO.bG{l l' base g w w' a c M}(h:RO w base a c M)(b:Rs g l w w')(d:ES w g l'):RO w' base a c M:=h.same (BO.bG b d qi)
structure It where
 T:Int
 G:As
abbrev BN:=List It
abbrev Oa:=It × Value
abbrev Bj:=List Oa
def Ef(x:Oa):Aj:=[.int .i64 x.1.T,x.2]
structure Hi(w:Aa) (base:Nat) (x:Oa):Prop where
 ts:∃a c,x.2=.slice a x.1.G.length c
 ot:w.ownsRow base 3 1 x.2 x.1.G.length (Ay x.1.G)
structure Iw(w:Aa) (b1 base:Nat) (a:Af) (c:Nat) (L:Bj):Prop where
 row:w.ownsRow b1 45 2 (.slice a L.length c) L.length (L.flatMap Ef)
 all:∀x∈L,Hi w base x
def Iw.nil(w a base):Iw w a base none 0 []:=⟨yJ _ _ _ _,λx hx=>qF⟩
def Hi.C{w w' base x}(h:Hi w base x)(a:Bw w w'):Hi w' base x:=⟨h.ts,AZ h.ot a⟩
def Hi.lower{w base base' x}(h:Hi w base x)(a:base'<=base):Hi w base' x:=⟨h.ts,C4 h.ot a⟩
def Iw.C{w w' b base a c L}(h:Iw w b base a c L)(d:Bw w w'):Iw w' b base a c L:=⟨AZ h.row d,λx e=>(h.all x e).C d⟩
def Iw.lower{w b base O base' a c L}(h:Iw w b base a c L)(e:O<=b)(f:base'<=base):Iw w O base' a c L:=⟨C4 h.row e,λx d=>(h.all x d).lower f⟩
def Hi.grown{w w' base t x row}(h:Hi w base x)(b:w.grownBy w' row)(a:∀k,row=some k->∃c,Bk w k c t)(d:t≠3):Hi w' base x:=⟨h.ts,JZ h.ot b a d⟩
def Iw.snoc{w w' b base a d c e L x}(h:Iw w b base a c L)(hx:Hi w base x)(ho:w'.ownsRow b 45 2 (.slice d (L.length+1) e) (L.length+1) (L.flatMap Ef++Ef x))(g:w.grownBy w' (Value.slice a L.length c).ownBlock):Iw w' b base d e (L++[x]):=by
 refine⟨Qm,λy hy=>?_⟩;have O:Hi w base y:=by
  exact tI
 exact O.grown g (λk f=>A7 h.row f) qi
def Iw.get{w b base a c L}(h:Iw w b base a c L){i x}(g:L[i]?=some x) :
  ∃k,a=some ⟨k,0,none⟩/\b<=k/\k<w.heap.size/\At w k (i*2) (I6 x.1.T)/\At w k (i*2+1) x.2/\w.frozen? ⟨k,i*2,none⟩=false:=by
 have key:=λj u(hj:(Ef x)[j]?=some u)=>CG h.row (Hf (cells:=Ef) (m:=2) (λ_=>rfl) L i x j u g hj);obtain⟨k,rfl,e,O,d⟩:=key 0 _ rfl;obtain⟨n,l,_,f,_⟩:=key 1 _ rfl;cases l;exact⟨k,rfl,e,yI w ⟨k,_,none⟩ O,O,f,d⟩
def iD{w base x}(h:Hi w base x):∀u∈Ef x,u.oneCell'=true:=by
 obtain⟨⟨a,c,b⟩,_⟩:=h;intro u hu;simp[Ef]at hu;rcases hu with rfl|rfl
 .rfl
 rw[b];rfl
def Nc:(prog.info? 45).map (λi=>(i.zero,i.size,i.bytes))=some (some (.agg #[I6 0,.slice none 0 0]),2,32):=qg
def M9(w:Aa)(a:Af)(L:BN):Prop:=
 ∀(i:Nat)(x:It),L[i]?=some x->∃b o a' c',a=some ⟨b,o,none⟩/\w.cell? ⟨b,o+i*2,none⟩=some (.int .i64 x.T)/\w.cell? ⟨b,o+i*2+1,none⟩=some (.slice a' x.G.length c')/\CJ none w a' x.G
theorem M9.e{w w' a L}(h:M9 w a L)(c:Bw w w'):M9 w' a L:=by
 intro i x f;obtain⟨b,o,k,g,e,O,j,d⟩:=h i x f;exact⟨b,o,k,g,e,zab c O,zab c j,d.e c⟩
def Iw.at{w j base a c M}(h:Iw w j base a c M):M9 w a (M.map Prod.fst):=by
 intro i x b;rw[yE]at b;obtain⟨y,f,rfl⟩:=Ye.1 b;obtain⟨k,rfl,_,_,O,h1,_⟩:=h.get f;obtain⟨⟨l,g,e⟩,d⟩:=h.all y (yd f);rw[e]at h1 d;exact⟨k,0,l,g,rfl,OJ,qx,CJ.owns d⟩
def UE(v:Value)(M:Bj)(g:Nat):Prop:=v.ownBlock=some g∨∃x∈M,x.2.ownBlock=some g
def Iw.range{w base a c M}(h:Iw w base base a c M){g}(b:UE (.slice a M.length c) M g):base<=g/\g<w.heap.size:=by
 rcases b with b|⟨x,d,b⟩
 .exact h.row.lt g b
 exact(h.all x d).ot.lt g b
def Iw.kept{w w' e base a c M}(h:Iw w e base a c M)(f:∀g,UE (.slice a M.length c) M g->w'.heap[g]?=w.heap[g]?):Iw w' e base a c M:=
 ⟨Ci h.row (λg d=>f g (.inl d)),λx b=>⟨(h.all x b).ts,Ci (h.all x b).ot (λg d=>f g (.inr ⟨x,b,d⟩))⟩⟩
section
open Go.Maps
def zpO(b n D w)(h:DT w b n D) :
  Ca 252 #[.map (some b)] w λe w'=>e=.returned (.map (some w.heap.size))/\DT w' w.heap.size n D/\Bw w w':=by
 obtain⟨es,a,c,F,d,O⟩:=h;have f:=λw=>run_eql_map_nil_sl (P:=prog) w 230 _ _ (some b) underlying230;go_enter func252,ntmps252;go_wp2;rw[run_callFunc_extern func275 qg qg qg (e:=Extern.MapsClone.clone) qg,run_maps_clone_sl w 230 c];simp only[Result.andThen];rw[iX];go_wp2;rw[run_typeAssert_map_sl _ 230 _ _ _ _ underlying230];simp only[Result.andThen];rw[iX];go_wp2;go_ret;exact⟨rfl,⟨es,a,(MapKept.heap_alloc w _).1,F,d,O⟩,(y8 _ w).alloc Bg _⟩
def OC(t r a):Dd (t::r) a=if El t&&!Co t.F a then none else Dd r (if t.w==2 then a++[t.F] else a):=rfl
def XP{w w' b n D}(h:DT w b n D)(d:Bw w w'):DT w' b n D:=by
 have hl:=h.lt;obtain⟨es,a,e,f⟩:=h;exact⟨es,a,(d.block b hl).c e,f⟩
def zpg{w w':Aa}{m b o}(h:w.grownBy w' (some m))(a:b≠m)(hl:b<w.heap.size):w'.cell? ⟨b,o,none⟩=w.cell? ⟨b,o,none⟩:=by
 unfold World.cell?;rw[h.block b hl (by intro e;first|exact a e|(injection e with e;first|exact a e|exact a e.z))]
def uu(h:P:=by
 have az:=hown0.lt;rw[hneg];go_enter func201,ntmps201
 first
  | (have _:=tP
     go_wp2
     go_loopw [14] (λi wr=>∃(k O:Nat)(here:AG)(D':DataW Unit),k<=x.s.length/\i=.int .i64 k/\Dd x.s known=Dd (x.s.drop k) here/\O<=n+k/\DT wr (b) O D'/\EZ here D'/\Below (b) w wr) (mz x.s.length)
     case atStart=>exact⟨0,n,known,D,by omega,rfl,rfl,by omega,hown0.alloc _,hI,Au.alloc (by omega) _⟩)
  | (have aE:=hb0.size
     go_wp2_with (go_at_call 252;refine(zpO b n D _ (hown0.alloc _)).rtn λw1⟨aw,am⟩=>?_;have q2:w1.cell? ⟨w.heap.size,2,none⟩=some (.slice a x.s.length c):=zab am (by simp[go_sem]));have ar:DT w1 (w.heap.size+1) n D:=by simpa using aw
     have aA:Bw w w1:=Ar.thn am;clear aw am q2 az hown0
     go_loopw [14] (λi wr=>∃(k O:Nat)(here:AG)(D':DataW Unit),k<=x.s.length/\i=.int .i64 k/\Dd x.s known=Dd (x.s.drop k) here/\O<=n+k/\DT wr (w.heap.size+1) O D'/\EZ here D'/\Below (w.heap.size) w wr) (mz x.s.length)
     case atStart=>exact⟨0,n,known,D,by omega,rfl,rfl,by omega,ar,hI,aA⟩)
 case round=>
  obtain⟨k,O,here,D',hk,rfl,hG,aG,hown,af,hb⟩:=hrel;have HG:=Ad hG;clear hG;have aD:=hown.lt;by_cases ay:k<x.s.length
  .obtain⟨t,ao⟩:=Bq ay;obtain⟨b',o,rfl,hq,c0,c1,c2,c3,c4,c5⟩:=(hv.e (hb0.c (hb.j (by omega)))).get ao;have ak:=(hs.2 t (yd ao)).1;have HD:Hid (x.s.drop k=t::x.s.drop (k+1)):=Dx ao
   first
    | (have _:=tP
       have hBa:∀o,Below (b) w (wr.alloc o):=λo=>hb.alloc (by have:=hb.size;omega) _;have ah:∀o,DT (wr.alloc o) (b) O D':=λo=>hown.alloc o)
    | (have hBa:∀ o,Below (w.heap.size) w (wr.alloc o):=λo=>hb.alloc (by have:=hb.size;omega) _
       have ah:∀o,DT (wr.alloc o) (w.heap.size+1) O D':=λo=>hown.alloc o)
   by_cases k2:t.w=2
   .have HN:Hid (Dd x.s known=Dd (x.s.drop (k+1)) (here++[t.F])):=show Dd x.s known=_ from by rw[HG.o,HD.o,OC];simp[El,k2]
    have aC:=af.put (v:=t.F) hown.isMap (.lit (.bool true));obtain⟨w2,au,aq,ai⟩:=(hown.alloc (.cells #[.int .i64 2,.int .i64 t.op,.string t.F,.int .i64 t.val.w,.int .i64 t.val.num,.string t.val.O] 189)).update Um (t:=230) underlying230 (by unfold maxLen;omega) (KV underlying9 ak) (show Q7 (.agg #[])=some (.lit (.bool true),[]) from rfl);obtain⟨aB,HG2⟩:=An aq ai;have d0:w2.cell? ⟨wr.heap.size,0,none⟩=some (.int .i64 2):=by
     rw[zpg ai (by omega) (by simp)];simp[go_sem]
    have ax:=hBa (.cells #[.int .i64 2,.int .i64 t.op,.string t.F,.int .i64 t.val.w,.int .i64 t.val.num,.string t.val.O] 189)
    first
     | (have _:=tP
        have hB2:Below (b) w w2:=ax.grown ai (by have:=hb.size;simp;omega) (λj hj=>by cases hj;omega))
     |(have hB2:Below (w.heap.size) w w2:=ax.grown ai (by have:=hb.size;simp;omega) (λj hj=>by cases hj;omega))
    clear aq ai ah hBa;rw[k2]at c0;go_wp2;clear au;go_roundw;exact⟨k+1,O+1,_,_,by omega,by go_num,HN,by omega,aB,aC,hB2⟩;simp;omega
   by_cases k3:t.w=3/\t.F.toList.isEmpty=false
   .obtain⟨k3,v0⟩:=k3
    first
     | (have _:=tP
        have hH:=ZP (b) O D' here t.F af ak)
     |(have hH:=ZP (w.heap.size+1) O D' here t.F af ak)
    cases hm:Co t.F here
    all_goals
     rw[hm]at hH;go_wp2_with (go_at_call 142;refine(hH _ (ah _)).j ?_;rintro e' w1 ⟨rfl,aj⟩)
    .have HN:Hid (Dd x.s known=none):=show Dd x.s known=none from by rw[HG.o,HD.o,OC];simp[El,k3,DA,hm];intro h;simp[h]at v0
     go_ret
     first
      | (have _:=tP
         exact⟨Ba (by rw[HN.o];rfl),(hBa _).c (aj.j (by simp;omega)),λh e=>(by rw[HN.o]at e;cases e)⟩)
      |(exact⟨Ba (by rw[HN.o];rfl),(hBa _).c (aj.j (by simp;omega))⟩)
    have HN:Hid (Dd x.s known=Dd (x.s.drop (k+1)) here):=show Dd x.s known=_ from by rw[HG.o,HD.o,OC];simp[k3,hm]
    go_roundw;exact⟨k+1,O,_,_,by omega,by go_num,HN,by omega,XP (ah _) aj,af,(hBa _).c (aj.j (by have:=(hBa default).size;have:=hb.size;simp;omega))⟩;simp;omega
   have HN:Hid (Dd x.s known=Dd (x.s.drop (k+1)) here):=show Dd x.s known=_ from by
    have ha:El t=false:=by
     exact su
    rw[HG.o,HD.o,OC,ha];simp[k2]
   by_cases h3:t.w=3
   focus
    have aF:t.F.toList.isEmpty=true:=by cases h:t.F.toList.isEmpty<;>simp_all
   rotate_left;rotate_left
   all_goals
    clear k3;go_wp2;exact⟨⟨k+1,O,_,_,by omega,by go_num,HN,by omega,ah _,af,hBa _⟩,by simp;omega⟩
  have HN:Hid (Dd x.s known=some here):=show Dd x.s known=_ from by
   exact TM
  go_wp2;go_ret
  first
   | (have _:=tP
      exact⟨Ba (by rw[HN.o];rfl),hb,λh e=>(by rw[HN.o]at e;injection e with e;subst e;exact⟨O,D',by omega,hown,af⟩)⟩)
   |(exact⟨Ba (by rw[HN.o];rfl),hb⟩)
 ):=h
def zr1(x:Pt)(a c b n D known){q}(w0 w)(hb0:Bw w0 w)(hv:Gs q w0 a x.s)(hs:FD Tm.le maxLen x.s)(hl:x.s.length<=1048576)(hown0:DT w b n D)(hI:EZ known D)(af:w0.heap.size<=b)(d:n<=1048576)(hneg:x.neg=false) :
  Ca 201 #[.agg #[.bool x.neg,.string x.E,.slice a x.s.length c],.map (some b)] w λe w'=>
   e=.returned (.bool (Dd x.s known).isSome)/\Below b w w'/\∀here,Dd x.s known=some here->∃O D',O<=n+x.s.length/\DT w' b O D'/\EZ here D':=by
 have tP:=trivial;exact uu
def zrF(x:Pt)(a c b n D known){q}(w0 w)(hb0:Bw w0 w)(hv:Gs q w0 a x.s)(hs:FD Tm.le maxLen x.s)(hl:x.s.length<=1048576)(hown0:DT w b n D)(hI:EZ known D)(d:n<=1048576)(hneg:x.neg=true) :
  Ca 201 #[.agg #[.bool x.neg,.string x.E,.slice a x.s.length c],.map (some b)] w λe w'=>
   e=.returned (.bool (Dd x.s known).isSome)/\Bw w w':=by
 exact uu
def Fu.ay{w w' b B x e f a d i g}(h:Fu w b x e f a d i g)(j:Below B w w')(k:b<B):Fu w' b x e f a d i g:=by
 obtain⟨O,l,n,m,o⟩:=h;exact⟨(j.cell (p:=⟨b,0,none⟩) k).c O,(j.cell (p:=⟨b,1,none⟩) k).c l,(j.cell (p:=⟨b,2,none⟩) k).c n,(j.cell (p:=⟨b,3,none⟩) k).c m,(j.cell (p:=⟨b,4,none⟩) k).c o⟩
def RN(p:Pt)(r:Bi)(a:AG)(k:Nat):Fw (p::r) a k=match Dd p.s a with|none=>.inl k|some b=>Fw r (if p.neg then a else b) (k+1):=rfl
def Je(x:Ru)(known:AG):AD:=Eu (Hd x.A known) x.K (x.x.length+1)
def m_(x:Ru):Bp x=match Fw x.x [] 1 with|.inl i=>some i|.inr a=>Je x a:=qh
def lh(h:P:=by
 rw[hcov]at hCV HU
 first
  | (have _:=tP5
     have HX:Hid (Bp x=some (x.x.length+1+k)):=show Bp x=_ from by rw[HN.o,HG.o,HD.o,J8,HU.o];rfl)
  |(have HX:Hid (Je x known=Eu (Hd x.A known) (x.K.drop (k+1)) (x.x.length+1+(k+1))):=show Je x known=_ from by rw[HG.o,HD.o,J8,HU.o];rfl)
 go_wp2;clear q3 c0 c1 c2 c3
 first
 |(go_region_held3 (λw'=>w'.cell? ⟨w.heap.size,3,none⟩=some (.slice (some ⟨be,oe,none⟩) x.A.length c_exprs)/\w'.cell? ⟨wr.heap.size,3,none⟩=some (.slice (some ⟨ba,oa,none⟩) (ln+1) c_args)/\w'.cell? ⟨ba,oa+ln,none⟩=some (.int .i64 (vn:Int))) ((go_split_ands;refine⟨?_,?_,?_⟩<;>first|(simp[go_sem,hcv0,hq3'];done)|exact zab hb' (by assumption))) (first|(go_at_call 202;refine(hCV _ (HM.alloc _).drew ((hBa _).drew)).rtn λw' hb'=>?_;have r2:=zab hb' (zab (Ar.drew) q2))|fail))
 |fail
 go_wp2
 first
  | (have _:=tP5
     go_ret;exact⟨GT (by rw[HX.o];simp[Gw];omega),(hBa _).drew.c (hb'.j (by have:=(hBa (.map #[] 0)).size;simp;omega))⟩)
  | (go_roundw
     case rel=>exact⟨k+1,by omega,by go_num,HX,XP (HM.alloc _).drew hb',(HBX.e Ar.drew).e hb',(hBa _).drew.c (hb'.j (by have:=(hBa (.map #[] 0)).size;simp;omega))⟩
     case measure=>(simp;omega))
 ):=h
def zio(x f m d c_exprs g t){q}(w)(am:Gl q w f x.x)(C:EI q w d x.A)(aq:Ih q w g x.K)(aM:x.le 1048576)(a5:x.x.length<=6)(aL:∀p∈x.x,p.s.length<=6)(ax:∀y∈x.K,∀v∈y.args,0<=v/\v<(x.A.length:Int))(aN:x.A.length<=c_exprs)(aO:x.A.length<=60) :
  Ca 145 #[.agg #[.string x.name,.int .i64 x.aq,.slice f x.x.length m,.slice d x.A.length c_exprs,.slice g x.K.length t]] w λe w'=>e=.returned (.int .i64 (Gw (Bp x)))/\Bw w w':=by
 obtain⟨aQ,aG,az,aB⟩:=aM;have aW:=az.1;have ad:=aB.1;obtain⟨HH⟩:Nonempty (Hid (Bp x=match Fw x.x [] 1 with|.inl i=>some i|.inr known=>Je x known)):=⟨m_ x⟩
 have aX:=λw=>run_makeMap (P:=prog) 230 w;go_enter func145,ntmps145;go_wp2
 go_loopw [13] (λi wr=>∃(k n:Nat)(known:AG)(D:DataW Unit),k<=x.x.length/\i=.int .i64 k/\Fw x.x [] 1=Fw (x.x.drop k) known (k+1)/\n<=6*k/\DT wr (w.heap.size+1) n D/\EZ known D/\Fu wr w.heap.size x f m d c_exprs g t/\Bw w wr) (mz x.x.length)
 .refine⟨0,0,[],.map [],qd,rfl,rfl,qd,?_,EZ.start,(Fu.aO w 53 x f m d c_exprs g t).e Ar,Ar.alloc qf _⟩;have:=Wl (H:=Unit) (w.alloc (.cells #[.string x.name,.int .i64 x.aq,.slice f x.x.length m,.slice d x.A.length c_exprs,.slice g x.K.length t] 53)) prog 9 Q7;simpa using this
 obtain⟨k,n,known,D,hk,rfl,hG,hn,B,hI,U,hb⟩:=hrel;obtain⟨HG,HBX,HM⟩:=AK hG U B;have aE:=B.lt;by_cases aJ:k<x.x.length
 .obtain⟨p,W⟩:=Bq aJ;obtain⟨b,o,z,u,rfl,hq,c0,c1,c2,ai⟩:=am.get W;have Z:=aG.2 p (yd W);have aP:=aL p (yd W);have d0:=zab hb c0;have d1:=zab hb c1;have d2:=zab hb c2;have HD:Hid (x.x.drop k=p::x.x.drop (k+1)):=Dx W;have hBa:∀o,Bw w (wr.alloc o):=λo=>hb.alloc hb.size _;cases R:p.neg
  .have O:=Ad (λw' M N=>zr1 p z u (w.heap.size+1) n D known (q:=q) w w' M ai (Z.2.j Hq (Tm.j Hq)) Z.2.1 N hI qd qd R);rw[R]at d0 O;cases J:Dd p.s known with
   |none=>
    rw[J]at O;have HN:Hid (Bp x=some (k+1)):=show Bp x=_ from by rw[HH.o,HG.o,HD.o,RN,J]
    go_wp2_with (go_at_call 201;refine(O _ (hBa _) (HM.alloc _)).j ?_;rintro e w1 ⟨rfl,af,_⟩);go_ret;exact⟨GT (by rw[HN.o];simp[Gw]),(hBa _).c (af.j qd)⟩
   |some G=>
    rw[J]at O;have HN:Hid (Fw x.x [] 1=Fw (x.x.drop (k+1)) G (k+1+1)):=show Fw x.x [] 1=_ from by rw[HG.o,HD.o,RN,J,R];rfl
    go_wp2_with (go_at_call 201;refine(O _ (hBa _) (HM.alloc _)).rtn λw1⟨af,hh⟩=>?_);obtain⟨n2,D2,aU,au,aI⟩:=hh G rfl;go_roundw;exact⟨k+1,n2,G,D2,qd,qm,HN,qd,au,aI,(HBX.e Ar).ay af qd,(hBa _).c (af.j qd)⟩;simp;omega
  have O:=Ad (λw' M N=>zrF p z u (w.heap.size+1) n D known (q:=q) w w' M ai (Z.2.j Hq (Tm.j Hq)) Z.2.1 N hI qd R);rw[R]at d0 O;cases J:Dd p.s known with
  |none=>
   rw[J]at O;have HN:Hid (Bp x=some (k+1)):=show Bp x=_ from by rw[HH.o,HG.o,HD.o,RN,J]
   go_wp2_with (go_at_call 201;refine(O _ (hBa _) (HM.alloc _)).rtn λw1 af=>?_);go_ret;exact⟨GT (by rw[HN.o];simp[Gw]),(hBa _).c (af.j (hBa _).size)⟩
  |some G=>
   rw[J]at O;have HN:Hid (Fw x.x [] 1=Fw (x.x.drop (k+1)) known (k+1+1)):=show Fw x.x [] 1=_ from by rw[HG.o,HD.o,RN,J,R];rfl
   go_wp2_with (go_at_call 201;refine(O _ (hBa _) (HM.alloc _)).rtn λw1 af=>?_);have au:=XP (HM.alloc _) af;go_roundw;exact⟨k+1,n,known,D,qd,qm,HN,qd,au,hI,(HBX.e Ar).e af,(hBa _).c (af.j (hBa _).size)⟩;simp;omega
 have HN:Hid (Bp x=Je x known):=show Bp x=_ from by rw[HH.o,HG.o,yH qd];rfl
 obtain⟨q0,q1,q2,q3,q4⟩:=U;go_wp2
 go_loopw [28] (λi ay=>∃(k:Nat),k<=x.K.length/\i=.int .i64 k/\Je x known=Eu (Hd x.A known) (x.K.drop k) (x.x.length+1+k)/\DT ay (w.heap.size+1) n D/\Fu ay w.heap.size x f m d c_exprs g t/\Bw w ay) (mz x.K.length)
 .exact⟨0,qd,rfl,rfl,HM,HBX,hb⟩
 obtain⟨k,hk,rfl,hG,B,U,hb⟩:=hrel;obtain⟨HG,HBX,HM⟩:=AK hG U B;have aE:=B.lt;by_cases aA:k<x.K.length
 .obtain⟨y,Y⟩:=Bq aA;obtain⟨b,o,aa,c_args,rfl,hq,c0,c1,c2,c3,I⟩:=(aq.e hb).get Y;have aC:=ax y (yd Y);have aT:=(aB.2 y (yd Y)).2;have HD:Hid (x.K.drop k=y::x.K.drop (k+1)):=Dx Y;have hBa:∀o,Bw w (wr.alloc o):=λo=>hb.alloc hb.size _;obtain⟨q0,q1,q2,q3,q4⟩:=U;by_cases ab:y.args.length=0
  .have HK:Hid (Hd x.A known y=true):=show Hd x.A known y=true from by simp[Hd,YJ ab]
   have HX:Hid (Je x known=Eu (Hd x.A known) (x.K.drop (k+1)) (x.x.length+1+(k+1))):=show Je x known=_ from by rw[HG.o,HD.o,J8,HK.o];rfl
   have aH:decide (0<y.args.length)=false:=decide_eq_false qd;have aY:decide ((0:Int)<(y.args.length:Int))=false:=decide_eq_false qd;go_wp2
   go_quiet (fail)
   go_wp2;exact⟨⟨k+1,qd,qm,HX,HM.alloc _,HBX.e (GH Ar),GH (hBa _)⟩,qe⟩
  obtain⟨ln,L⟩:∃ln,y.args.length=ln+1:=⟨y.args.length-1,qd⟩
  obtain⟨vl,aw⟩:∃v,y.args[ln]?=some v:=⟨y.args[ln]'(by omega),qf⟩
  obtain⟨ac,a0⟩:=aC vl (yd aw);obtain⟨vn,rfl⟩:=Yk ac;have aK:vn<x.A.length:=qd;obtain⟨ba,oa,ea,aS,ca⟩:=I.get aw;subst ea;obtain⟨be,oe,ee,_⟩:=C.get (yK aK);subst ee;have HU:Hid (Hd x.A known y=(x.A.take (vn+1)).all (E8 known)):=show Hd x.A known y=_ from by
   have M:y.args.isEmpty=false:=by
    cases h:y.args with
    |nil=>simp[h]at L
    |cons v r=>rfl
   have N:LS y=vn+1:=by
    unfold LS;rw[WZ,L,Wj,aw];rfl
   unfold Hd;rw[M,N];rfl
  have T:(x.A.take (vn+1)).length=vn+1:=by simp;omega
  have hCV:=Ad (λw'(M:DT w' (w.heap.size+1) n D)(N:Bw w w')=>zpL (w.heap.size+1) n D known (some ⟨be,oe,none⟩) c_exprs (x.A.take (vn+1)) w' (q:=q) M hI (CI.take (C.e N) (vn+1)) qd (λe he=>yi (az.2 e (Wv he)).1 Hq));rw[T]at hCV;have z0:(0:Int)<=(vn:Int)+1:=qd;have z1:(vn:Int)+1<=(c_exprs:Int):=qd;have z2:(ln:Int)<(ln:Int)+1:=qd;have aF:ln<=1048576:=qd;have aZ:IntKind.i64.wrap ((ln:Int)+1-1)=(ln:Int):=by rw[show(ln:Int)+1-1=(ln:Int) by omega,Yh];omega
  have a4:IntKind.i64.wrap (((ln+1:Nat):Int)-1)=(ln:Int):=by rw[show((ln+1:Nat):Int)-1=(ln:Int) by omega,Yh];omega
  have aV:IntKind.i64.wrap (ln:Int)=(ln:Int):=by rw[Yh];omega
  have aR:IntKind.i64.wrap ((vn:Int)+1)=(vn:Int)+1:=by rw[Yh];omega
  have z3:(0:Int)<=(ln:Int):=qd;have z4:(ln:Int)<((ln+1:Nat):Int):=qd;have z5:(vn:Int)+1<=(x.A.length:Int):=qd;have aD:vn<60:=qd;rw[L]at c3;have hcv0:(wr.alloc (.cells #[.int .i64 y.w,.int .i64 y.k,.string y.E,.slice (some ⟨ba,oa,none⟩) (ln+1) c_args] 227)).cell? ⟨ba,oa+ln,none⟩=some (.int .i64 (vn:Int)):=zab Ar ca;have hq3':(wr.alloc (.cells #[.int .i64 y.w,.int .i64 y.k,.string y.E,.slice (some ⟨ba,oa,none⟩) (ln+1) c_args] 227)).cell? ⟨w.heap.size,3,none⟩=some (.slice (some ⟨be,oe,none⟩) x.A.length c_exprs):=zab Ar q3;have aH:decide (0<ln+1)=true:=decide_eq_true qd;cases hcov:(x.A.take (vn+1)).all (E8 known)
  .have tP5:=trivial;exact lh
  exact lh
 exact tJ
end
def rest(x:Ru):AD:=if(Dv [] x.A).length<x.A.length then some ((Dv [] x.A).length+1) else He (Dv [] x.A) x.K 0 1
def nR(x:Ru)(h:LO x=true):AO x=match Eu Ej x.x 1 with|some i=>some i|none=>rest x:=by
 unfold AO rest;rw[if_pos h];cases Eu Ej x.x 1<;>rfl
def Tu(S:BS)(a:Ac)(r:CY)(nx k:Nat):He S (a::r) nx k=match CM S a nx with|none=>some k|some nx'=>He S r nx' (k+1):=rfl
def sH{α f}:∀{l:List α}{k:Nat},Eu f l k=none->∀x∈l,f x=true:=by intro l;induction l<;>grind[Eu]
def pR{S}:∀{l:As}{nx n:Nat},EU S l nx=some n->∀v∈l,0<=v/\v<(S.length:Int)
 |[],_,_,_,v,hv=>by simp at hv
 |x::r,nx,n,h,v,hv=>by
  rw[MJ]at h
  split at h
  .rename_i a
   simp only[ym,decide_eq_true_eq]at a
   rcases yW.1 hv with rfl|b
   .exact⟨a.1,a.2.1⟩
   .exact pR h v b
  cases h
def rF{S}:∀{l:CY}{nx k:Nat},He S l nx k=none->∀y∈l,∀v∈y.args,0<=v/\v<(S.length:Int)
 |[],_,_,_,y,hy,_,_=>by simp at hy
 |a::r,nx,k,h,y,hy,v,hv=>by
  rw[Tu]at h
  cases b:CM S a nx with
  |none=>rw[b]at h;cases h
  |some O=>
   rw[b]at h
   rcases yW.1 hy with rfl|c
   .unfold CM at b
    split at b
    .exact pR b v hv
    cases b
   exact rF h y c v hv
def VJ{x}(h:AO x=none):x.x.length<=6/\x.K.length<=8/\x.A.length<=60/\(∀p∈x.x,p.s.length<=6)/\(Dv [] x.A).length=x.A.length/\∀y∈x.K,∀v∈y.args,0<=v/\v<(x.A.length:Int):=by
 have c:LO x=true:=by
  cases g:LO x
  .simp[AO,g]at h
  rfl
 rw[nR x c]at h;have O:=c;simp only[LO,ym,decide_eq_true_eq]at O;cases b:Eu Ej x.x 1 with
 |some i=>rw[b]at h;cases h
 |none=>
  rw[b]at h;have a:rest x=none:=h;unfold rest at a;split at a
  .cases a
  rename_i hlt;have j:=(iH (es:=x.A) (l:=x.A) (Bt.nil x.A) rfl).1.1;have f:(Dv [] x.A).length=x.A.length:=qd;refine⟨O.2.1,O.2.2.1,O.2.2.2,λp e=>?_,f,λy d v hv=>?_⟩
  .have:=sH b p e;simp only[Ej,ym,decide_eq_true_eq]at this;exact this.2.1
  have:=rF a y d v hv;omega
def JE.owns{w base n a c xs}(h:w.ownsRow base 9 1 (.slice a n c) n (xs.map Value.string)):JE none w a xs:=by
 intro i s b;have d:(xs.map Value.string)[i]?=some (.string s):=by simp[b]
 obtain⟨g,rfl,_,h0,_⟩:=CG h d;refine⟨g,0,[.string s],rfl,Qb.ac _ _ _,rfl,?_,rfl⟩;exact sX
def zqN{w:Aa}{base n a c}{xs:AG}(h:w.ownsRow base 9 1 (.slice a n c) n (xs.map Value.string))(O:a=none):xs.length=0:=by
 cases xs with
 |nil=>rfl
 |cons x r=>
  obtain⟨g,b,_⟩:=CG h (j:=0) (x:=.string x) qf;rw[O]at b;cases b
def lj:(prog.info? 9).map (λi=>(i.zero,i.size,i.bytes))=some (some (.string ByteArray.empty),1,16):=qg
def zti(xs:AG):∀u∈xs.map Value.string,u.oneCell'=true:=by
 intro u hu;obtain⟨s,_,rfl⟩:=yv.1 hu;rfl
def zr8{w q a xs}(h:JE q w a xs):∀d,a=some d->∀(j:Nat)u,(xs.map Value.string)[j]?=some u->w.cell? (d.add j)=some u:=by
 intro d hd j u hu;rw[yE]at hu;cases c:xs[j]? with
 |none=>rw[c]at hu;cases hu
 |some s=>
  rw[c]at hu;simp at hu;subst hu;obtain⟨b,o,rfl,_,e⟩:=h.get c;cases hd;rw[Wu];exact e
def zoh{x}(h:AO x=none):He (Dv [] x.A) x.K 0 1=none:=by
 unfold AO at h;split at h
 .split at h
  .cases h
  .split at h
   .cases h
   .exact h
 cases h
def zsu{S y nx n}(h:CM S y nx=some n):EU S y.args nx=some n:=by
 unfold CM at h;split at h
 .exact h
 cases h
def gT{S x r nx n}(h:EU S (x::r) nx=some n):∃(x0:Nat)(O:Sp),x=(x0:Int)/\S[x0]?=some O/\O.1=nx/\EU S r (x0+1)=some n:=by
 rw[MJ]at h;split at h
 .rename_i a;simp only[ym,decide_eq_true_eq]at a;obtain⟨b,e,d⟩:=a;obtain⟨x0,rfl⟩:=Yk b;have c:x0<S.length:=qd;refine⟨x0,S[x0],rfl,qf,?_,h⟩;simpa[c] using d
 cases h
def oR{es S}(hS:Bt es S):∀{l:As}{nx n:Nat},EU S l nx=some n->nx<=n
 |[],nx,n,h=>by
  have:some nx=some n:=h
  injection this with this
  omega
 |x::r,nx,n,h=>by
  obtain⟨x0,O,rfl,a,rfl,b⟩:=gT h
  have c:=oR hS b
  have d:=hS.bf x0 O a
  omega
def rG{S}:∀{l:As}{nx n:Nat},l≠[]->EU S l nx=some n->∃O:Nat,l.getLast?=some (O:Int)/\n=O+1/\O<S.length
 |[],_,_,h,_=>absurd rfl h
 |x::r,nx,n,_,h=>by
  obtain⟨x0,f,rfl,b,rfl,a⟩:=gT h
  cases r with
  |nil=>
   have:some (x0+1)=some n:=a
   injection this with this
   exact⟨x0,rfl,this.z,(yf.1 b).1⟩
  |cons y c=>
   obtain⟨O,h1,d,e⟩:=rG (l:=y::c) qf a
   exact⟨O,qx,d,e⟩
def nu{α:Type}{f}{l:List α}{j x}(h:l[j]?=some x):(l.take (j+1)).all f=((l.take j).all f&&f x):=by
 rw[Yc,h];simp
def zij{α:Type}{f}{l:List α}{j m x}(h:l[j]?=some x)(hj:j<m)(a:f x=false):(l.take m).all f=false:=by
 rw[List.all_eq_false];refine⟨x,?_,by simp[a]⟩;have:(l.take m)[j]?=some x:=by rw[YW,if_pos hj,h]
 exact yd this
def zme{es a y}{O:Nat}(h:y.args.getLast?=some (O:Int)):Hd es a y=(es.take (O+1)).all (E8 a):=by
 have b:y.args.isEmpty=false:=by
  cases d:y.args with
  |nil=>rw[d]at h;cases h
  |cons v r=>rfl
 have c:LS y=O+1:=by
  unfold LS;rw[h];rfl
 unfold Hd;rw[b,c];rfl
def Pa:AD->Int
 |none=>-1
 |some i=>(i:Int)
def PV(pre r s k):Gj pre (r::s) k=if(CC pre r).1=0 then Gj (pre++[r]) s (k+1) else((CC pre r).1,(k:Int),(CC pre r).2):=rfl
def So(p:Int × Int × Int):Value:=.agg #[.int .i64 p.1,.int .i64 p.2.1,.int .i64 p.2.2]
section
open Go.Maps
structure Cx where
 cp:Cp
 node:Nat
 ta:Af
 tc:Nat
abbrev Ak:=List Cx
def Ly(c:Cx):Aj:=[.bool c.cp.neg,.int .i64 (c.cp.Y:Int),.pointer (some ⟨c.node,0,none⟩),.slice c.ta c.cp.y.length c.tc]
def lS(c):∀u∈Ly c,u.oneCell'=true:=by
 intro u hu;simp[Ly]at hu;rcases hu with rfl|rfl|rfl|rfl<;>rfl
def Ev:Bi->AY->Nat->AY
 |[],vs,_=>vs
 |p::ps,vs,n=>if p.neg=true then Ev ps vs n else Ev ps (Dw vs p.s n p.s.length) (n+1)
def PU{w w' base b e t m v n xs c g}(h:w.ownsRow base e m v n xs)(d:w.heap[b]?=some (.cells c t g))(i:Turned w w' b)(a:t≠e):w'.ownsRow base e m v n xs:=
 Ci h λk f=>i.block k (λe=>by
  obtain⟨j,O⟩:=A7 h f
  subst e
  exact Cw d O a)
def Fz.aE{a mb row u v w}(h:Fz a mb row u v)(k:Below u.heap.size v w):Fz a mb row u w:=⟨h.rest.c (k.j (yn _)),λj hj e b d=>(k.block j hj).c (h.block j hj e b d)⟩
def Fz.df{a mb row O u v w}(h:Fz a mb row u v)(k:Fz a mb O v w)(l:∀g,O=some g->row=some g∨u.heap.size<=g):Fz a mb row u w:=⟨h.rest.c k.rest,λj hj i d f=>(k.block j (yg hj h.rest.size) i d (λe=>by rcases l j e with b|b;exact f b;omega)).c (h.block j hj i d f)⟩
def NS.bQ{j w w' base d mb f g L i D b c t m}(h:NS j w base d mb f g L i D)(l:w.heap[b]?=some (.cells c t m))(n:Turned w w' b)(a:¬Sv t):NS j w' base d mb f g L i D:=
 h.ar λk o O=>n.block k (λe=>by
  subst e
  exact a (O _ _ _ l))
def Em.ez{w b a v1}(h:Em w b a v1)(x):Em (w.setCell ⟨b,0,none⟩ x) b x v1:=by
 have:=C7 (i:=0) h x;trivial
def pB{P:Aa->Prop}{w b a v1 y}(O:Em w b a v1)(h:∀wt,Em wt b y v1->Turned w wt b->P wt):P (w.setCell ⟨b,0,none⟩ y):=h _ (O.ez y) (Turned.setCells [y] 0 w b)
structure PN(w:Aa) (B pb:Nat) (ca:Af) (cc:Nat) (va:Af) (vc:Nat) (X:Ak) (U:AY) (A:Dm) (bs:A5):Prop where
 box:Em w pb (.slice ca X.length cc) (.slice va U.length vc)
 conds:w.ownsRow B 197 4 (.slice ca X.length cc) X.length (X.flatMap Ly)
 vars:w.ownsRow B 330 3 (.slice va U.length vc) U.length (U.flatMap Ja)
 y:∀c∈X,w.ownsRow B 277 4 (.slice c.ta c.cp.y.length c.tc) c.cp.y.length (c.cp.y.flatMap Lz)
 aI:∀c∈X,∃i:Nat,A[i]?=some c.cp.H/\bs[i]?=some c.node
def PN.ar{w w' B pb ca cc b j X U A g}(h:PN w B pb ca cc b j X U A g)(d:∀(k:Nat)(c:Bl)(t:TypeId)(i:Nat × Nat),w.heap[k]?=some (.cells c t i)->(t=102∨t=197∨t=330∨t=277)->w'.heap[k]?=some (.cells c t i)):PN w' B pb ca cc b j X U A g:=by
 have O:∀{e:TypeId}{m:Nat}{v:Value}{n:Nat}{xs:Aj},w.ownsRow B e m v n xs->(e=102∨e=197∨e=330∨e=277)->w'.ownsRow B e m v n xs:=λf l=>Ci f λk o=>by
  obtain⟨c,a⟩:=A7 f o;rw[d k _ _ _ a l,a]
 exact⟨d _ _ _ _ h.box (.inl rfl),O h.conds (.inr (.inl rfl)),O h.vars (.inr (.inr (.inl rfl))),λc a=>O (h.y c a) (.inr (.inr (.inr rfl))),h.aI⟩
def PN.C{w w' B pb ca cc b e X U A a}(h:PN w B pb ca cc b e X U A a)(f:Bw w w'):PN w' B pb ca cc b e X U A a:=
 h.ar λk _ _ _ d _=>(f.block k (Ap d)).c d
structure PD(w:Aa) (B:Nat) (ca:Af) (cc:Nat) (va:Af) (vc:Nat) (X:Ak) (U:AY) (A:Dm) (bs:A5):Prop where
 conds:w.ownsRow B 197 4 (.slice ca X.length cc) X.length (X.flatMap Ly)
 vars:w.ownsRow B 330 3 (.slice va U.length vc) U.length (U.flatMap Ja)
 y:∀c∈X,w.ownsRow B 277 4 (.slice c.ta c.cp.y.length c.tc) c.cp.y.length (c.cp.y.flatMap Lz)
 aI:∀c∈X,∃i:Nat,A[i]?=some c.cp.H/\bs[i]?=some c.node
def PD.ar{w w' B ca cc b i X U A f}(h:PD w B ca cc b i X U A f)(j:∀(k:Nat)(c:Bl)(t:TypeId)(g:Nat × Nat),w.heap[k]?=some (.cells c t g)->(t=197∨t=330∨t=277)->w'.heap[k]?=some (.cells c t g)):PD w' B ca cc b i X U A f:=by
 have O:∀{e:TypeId}{m:Nat}{v:Value}{n:Nat}{xs:Aj},w.ownsRow B e m v n xs->(e=197∨e=330∨e=277)->w'.ownsRow B e m v n xs:=λd l=>Ci d λk o=>by
  obtain⟨c,a⟩:=A7 d o;rw[j k _ _ _ a l,a]
 exact⟨O h.conds (.inl rfl),O h.vars (.inr (.inl rfl)),λc a=>O (h.y c a) (.inr (.inr rfl)),h.aI⟩
def PD.C{w w' B ca cc b e X U A a}(h:PD w B ca cc b e X U A a)(f:Bw w w'):PD w' B ca cc b e X U A a:=
 h.ar λk _ _ _ d _=>(f.block k (Ap d)).c d
def PN.pd{w B pb ca cc b c X U A a}(h:PN w B pb ca cc b c X U A a):PD w B ca cc b c X U A a:=⟨h.conds,h.vars,h.y,h.aI⟩
structure PS(kl:Al->Lit) (w:Aa) (R0:AD) (bs0:A5) (A0:Dm) (base gb mb pb:Nat) (la:Af) (lc:Nat) (L:CD) (bs:A5) (D:DataW Unit) (ca:Af) (cc:Nat) (va:Af) (vc:Nat) (X:Ak) (U:AY) (wr:Aa):Prop where
 ns:NS kl wr base gb mb la lc L bs D
 pn:PN wr w.heap.size pb ca cc va vc X U (L.map Prod.fst) bs
 fr:Fz gb mb R0 w wr
 cN:∀g,(Value.slice la L.length lc).ownBlock=some g->R0=some g∨w.heap.size<=g
 ext:∀(i n:Nat),bs0[i]?=some n->bs[i]?=some n
 dg:∀(i:Nat)(y:Al),A0[i]?=some y->(L.map Prod.fst)[i]?=some y
 cr:∀x∈L,x.1.y.length<=6
def PS.C{k w wr w' e a m base d mb pb f g L i D ca cc c l X U}(h:PS k w e a m base d mb pb f g L i D ca cc c l X U wr)(b:Bw wr w'):PS k w e a m base d mb pb f g L i D ca cc c l X U w':=
 ⟨h.ns.C b,h.pn.C b,h.fr.aE (b.j h.fr.rest.size),h.cN,h.ext,h.dg,h.cr⟩
def mO{A x y}{i:Nat}(h:A[i]?=some y):(Gf A x)[i]?=some y:=by grind[Gf,Fv]
def PS.of{s w wr w' H m J base o mb pb C d q b L p r f D G ca cc B v X U x}(h:PS s w H m J base o mb pb C q L r D ca cc B v X U wr)(Y:NS s w' base o mb d b p f G)(O:x.y.length<=6)(E:p.map Prod.fst=Gf (L.map Prod.fst) x)(K:Fz o mb (Value.slice C L.length q).ownBlock wr w')(I:∀(i n:Nat),r[i]?=some n->f[i]?=some n)(Z:∀g,(Value.slice d p.length b).ownBlock=some g->(Value.slice C L.length q).ownBlock=some g∨wr.heap.size<=g):PS s w H m J base o mb pb d b p f G ca cc B v X U w':=by
 have j:PN w' w.heap.size pb ca cc B v X U (L.map Prod.fst) r:=h.pn.ar λk c t fr M ht=>K.box M h.ns qt qt;refine⟨Y,⟨j.box,j.conds,j.vars,j.y,λc T=>?_⟩,h.fr.df K h.cN,λg R=>?_,λi n A=>I i n (h.ext i n A),λi y A=>by rw[E];exact mO (h.dg i y A),λy N=>?_⟩
 .obtain⟨i,l,W⟩:=j.aI c T;exact⟨i,by rw[E];exact mO l,I i _ W⟩
 .rcases Z g R with l|l
  .exact h.cN g l
  exact .inr (yi h.fr.rest.size l)
 have a:y.1∈Gf (L.map Prod.fst) x:=by rw[<-E];exact yv.2 ⟨y,N,rfl⟩
 unfold Gf at a;split at a
 .obtain⟨z,u,e⟩:=yv.1 a;rw[<-e];exact h.cr z u
 rcases yp.1 a with a|a
 .obtain⟨z,u,e⟩:=yv.1 a;rw[<-e];exact h.cr z u
 rw[yw.1 a];exact O
def PS.push{B w wr l v z g E base x mb pb G A L r D ca p cc s n m X U c o}(h:PS B w z g E base x mb pb G A L r D ca cc n m X U wr)(K:wr.ownsRow w.heap.size 277 4 (.slice c.ta c.cp.y.length c.tc) c.cp.y.length (c.cp.y.flatMap Lz))(W:∃i:Nat,(L.map Prod.fst)[i]?=some c.cp.H/\r[i]?=some c.node)(t:w.heap.size<=pb)(u:l.ownsRow w.heap.size 197 4 (.slice p (X.length+1) s) (X.length+1) (X.flatMap Ly++Ly c))(a:(wr.alloc o).grownBy l (Value.slice ca X.length cc).ownBlock)(M:Em v pb (.slice p (X.length+1) s) (.slice n U.length m))(b:Turned l v pb) :
  PS B w z g E base x mb pb G A L r D p s n m (X++[c]) U v:=by
 have I:Bw wr (wr.alloc o):=Ar;have R:=h.fr.rest.size;have f:=h.C I;have J:=AZ K I;have j:=λk q=>A7 f.pn.conds (k:=k) q;have O:Em l pb (.slice ca X.length cc) (.slice n U.length m):=E5 f.pn.box a j qi;have T:=f.ns.grown a j OI;have v7:=JZ f.pn.vars a j qi;have N:=JZ J a j qi;refine⟨T.bQ O b OI,⟨by simpa using M,?_,PU v7 O b qi,λd hd=>?_,λd hd=>?_⟩,?_,h.cN,h.ext,h.dg,h.cr⟩
 .have:=PU u O b qi;simpa using this
 .rcases yp.1 hd with hd|hd
  .exact PU (JZ (f.pn.y d hd) a j qi) O b qi
  simp at hd;subst hd;exact PU N O b qi
 .rcases yp.1 hd with hd|hd
  .exact h.pn.aI d hd
  simp at hd;subst hd;exact W
 refine f.fr.aE ((Au.grown a qe (λk q=>(f.pn.conds.lt k q).1)).c (b.e t))
def PS.fill{r w wr w' n f t base m mb pb o p L q D ca cc l s X U b c v}(h:PS r w n f t base m mb pb o p L q D ca cc l s X U wr)(i:wr.heap[b]?=some (.cells c 197 v))(a:Turned wr w' b)(j:∀g,(Value.slice ca X.length cc).ownBlock=some g->g≠b)(O:w.heap.size<=b):PS r w n f t base m mb pb o p L q D ca cc l s X U w':=
 ⟨h.ns.bQ i a OI,⟨(a.block pb (λe=>by subst e;exact Cw h.pn.box i qi)).c h.pn.box,Ci h.pn.conds (λk u=>a.block k (j k u)),PU h.pn.vars i a qi,λd hd=>PU (h.pn.y d hd) i a qi,h.pn.aI⟩,h.fr.aE (a.e O),h.cN,h.ext,h.dg,h.cr⟩
def VZ{w w'}{b d:Nat}{c g t t' f O}(h:w.heap[b]?=some (.cells c t f))(hd:w.heap[d]?=some (.cells g t' O))(i:Turned w w' d)(a:t≠t'):w'.heap[b]?=some (.cells c t f):=
 (i.block b (λe=>by subst e;exact Cw h hd a)).c h
def PS.dh{z w wr w' s b B base r mb pb E u L x D ca cc C l A g X U f}(h:PS z w s b B base r mb pb E u L x D ca cc C A X U wr)(J:w.heap.size<=pb)(K:Em w' pb (.slice ca X.length cc) (.slice l f.length g))(M:w'.ownsRow w.heap.size 330 3 (.slice l f.length g) f.length (f.flatMap Ja))(hF:Fp pb (Value.slice C U.length A).ownBlock wr w'):PS z w s b B base r mb pb E u L x D ca cc l g X f w':=by
 have p:=h.fr.rest.size;have far:∀(k:Nat)(c:Bl)(t:TypeId)(j:Nat × Nat),wr.heap[k]?=some (.cells c t j)->t≠102->t≠330->w'.heap[k]?=some (.cells c t j):=λk c t j a i o=>by
  refine(hF.block k (Ap a) (λe=>?_) (λe=>?_)).c a
  .subst e;exact Cw a h.pn.box i
  obtain⟨N,q⟩:=A7 h.pn.vars e;exact Cw a q o
 have O:∀{e:TypeId}{m:Nat}{v:Value}{n:Nat}{xs:Aj},wr.ownsRow w.heap.size e m v n xs->e≠102->e≠330->w'.ownsRow w.heap.size e m v n xs:=λI i o=>Ci I λk a=>by
  obtain⟨c,G⟩:=A7 I a;rw[far k _ _ _ G i o,G]
 refine⟨h.ns.ar λk a H=>hF.block k a (λe=>?_) (λe=>?_),⟨K,O h.pn.conds qi qi,M,λd hd=>O (h.pn.y d hd) qi qi,h.pn.aI⟩,?_,h.cN,h.ext,h.dg,h.cr⟩
 .subst e;exact absurd (H _ _ _ h.pn.box) OI
 .obtain⟨N,q⟩:=A7 h.pn.vars e;exact absurd (H _ _ _ q) OI
 exact h.fr.aE ⟨hF.rest.os,hF.rest.tape,hF.rest.output,hF.rest.size,λk a=>hF.block k (yg a p) qd (λe=>by have:=(h.pn.vars.lt k e).1;omega)⟩
def lm:(prog.info? 197).map (λi=>(i.zero,i.size,i.bytes))=some (some (.agg #[.bool false,I6 0,.pointer none,.slice none 0 0]),4,48):=qg
def lK(A x):(Gf A x)[Fv x A]?=some x:=by grind[Gf,Fv,n_,zts,nI,nB]
def TE(p a vs n):CO (p::a) vs n=⟨p.neg,n,DW p,Dr vs p.s p.s.length⟩::(if p.neg=true then CO a vs n else CO a (Dw vs p.s n p.s.length) (n+1)):=rfl
def TI(p a vs n):Ev (p::a) vs n=if p.neg=true then Ev a vs n else Ev a (Dw vs p.s n p.s.length) (n+1):=rfl
def Vv{P:Aa->Prop}{w b t x0 x1 m j a c d O}(e:Bk w b #[x0,x1,m,j] t)(h:∀wt,Bk wt b #[a,c,d,O] t->Turned w wt b->P wt):P ((((w.setCell ⟨b,0,none⟩ a).setCell ⟨b,1,none⟩ c).setCell ⟨b,2,none⟩ d).setCell ⟨b,3,none⟩ O):=by
 have f:=C7 (i:=0) e a;have k:=C7 (i:=1) f c;have g:=C7 (i:=2) k d;have l:=C7 (i:=3) g O;exact h _ (by simpa using l) (Turned.setCells [a,c,d,O] 0 w b)
def xA(kl:Al->Lit)(base gb mb:Nat)(la:Af)(lc:Nat)(L:CD)(bs:A5)(r:Ru)(w:Aa)(e:Ending)(w':Aa):Prop:=
 ∃la' lc' L' bs' D' ca cc va vc X,e=.returned (.agg #[.slice ca X.length cc,.slice va (Ev r.x [] 0).length vc])/\X.map Cx.cp=CO r.x [] 0/\NS kl w' base gb mb la' lc' L' bs' D'/\PD w' w.heap.size ca cc va vc X (Ev r.x [] 0) (L'.map Prod.fst) bs'/\Fz gb mb (Value.slice la L.length lc).ownBlock w w'/\(∀g,(Value.slice la' L'.length lc').ownBlock=some g->(Value.slice la L.length lc).ownBlock=some g∨w.heap.size<=g)/\(∀(i n:Nat),bs[i]?=some n->bs'[i]?=some n)/\(∀(i:Nat)(y:Al),(L.map Prod.fst)[i]?=some y->(L'.map Prod.fst)[i]?=some y)/\L'.length<=L.length+r.x.length/\(∀x∈L',x.1.y.length<=6)
def tK(h:P:=by have h1:=congrArg List.length aV;have h2:=znM (L.map Prod.fst) (DW p);simp at h1 h2;omega):=h
def uB(h:P:=by
 (try simp only[pQ]);refine wpAnyH_done (by kernel_rfl) ?_ _;refine Yb ?_;go_upto_region 7 with fail
 refine Vv ai.o ?_;intro w8 bn aD;obtain⟨c0,c1,c2,c3⟩:=AX bn;obtain⟨am,ax,bc,bd⟩:=BP (bw.o.fill ai.o aD (λg hg=>by have:=bI.o g hg;omega) (by omega)) (VZ aA.o ai.o aD (by decide)) (show Em w8 rb (.slice none 0 0) (.slice none 0 0) from VZ bq.o ai.o aD (by decide)) (PU bo.o ai.o aD (by decide));have cy:w7.heap.size<=w8.heap.size:=WP aD.size.z;have bP:tb<w8.heap.size:=Ap ax.o;obtain⟨⟨q0,q1⟩,_,ci⟩:=am.o.pn.box.J;have HW:=Ad (λo=>Au.alloc Bg o:∀o,Bw w8 (w8.alloc o));have bZ:∀o,(w8.alloc o).cell? ⟨pb,0,none⟩=some (.slice ca X.length cc):=λo=>zab (HW.o o) q0;obtain⟨TY,bm,bh,bl⟩:=BP (λo g hg=>A7 (AZ am.o.pn.conds (HW.o o)) (k:=g) hg) (λo=>am.o.pn.box.C (HW.o o)) (λo=>bc.o.C (HW.o o)) (λo=>((HW.o o).block _ (Ap ax.o)).c ax.o);have aP:w.heap.size<=w8.heap.size:=by omega
 go_upto_region 8 with(first|(at_builtin;refine Dp (by rfl) (.tmp 27) (.tmp 29) 99 (by rfl) w.heap.size 197 _ 4 48 underlying99 lm (by rfl) (by omega) _ X.length _ (by rfl) (AZ am.o.pn.conds (HW.o _)) (some ⟨_,0,none⟩) 1 1 (by rfl) (Ly ⟨⟨p.neg,n,DW p,Dr U p.s p.s.length⟩,nk,ta,tc⟩) (by rfl) (λe=>by cases e) (CH _ _ _ _ (by first|rfl|simp)) (lS _) (by unfold maxLen;omega) (by omega) (yi aP (HW.o _).size) ?_;intro a9 c9 w9 bf aq bW;have P9:=Ad (show Em w9 pb (.slice ca X.length cc) (.slice va U.length vc) from E5 (bm.o _) aq.o (TY.o _) (by decide));have R9:=Ad (show Em w9 rb (.slice none 0 0) (.slice none 0 0) from E5 (bh.o _) aq.o (TY.o _) (by decide));have B9:=Ad (E5 (bl.o _) aq.o (TY.o _) (by decide));obtain⟨⟨l0,l1⟩,z,_⟩:=P9.o.J;have bR:=z 0;clear z)|fail);refine pB P9.o ?_;intro aR aJ ak;obtain⟨cx,aN⟩:∃c:Cx,c=⟨⟨p.neg,n,DW p,Dr U p.s p.s.length⟩,nk,ta,tc⟩:=⟨_,rfl⟩
 have O:=Ad (am.o.push (c:=⟨⟨p.neg,n,DW p,Dr U p.s p.s.length⟩,nk,ta,tc⟩) bd.o bF.o aG bf.o aq.o aJ ak);rw[<-aN]at O;obtain⟨HCX,ah,aF⟩:=AK aN (show Em aR rb (.slice none 0 0) (.slice none 0 0) from(ak.block rb (by omega)).c R9.o) ((ak.block tb (by omega)).c B9.o);obtain⟨e0,e1,e2⟩:=Ax aF.o;rcases(show p.neg=false∨p.neg=true by cases p.neg<;>simp) with hneg|hneg
 .obtain⟨aB,ay,aO⟩:=AK (show CO r.x [] 0=(X++[cx]).map Cx.cp++CO (r.x.drop (k+1)) (Dw U p.s n p.s.length) (n+1) by rw[HG.o,au.o,TE,if_neg (by rw[hneg];simp),HCX.o];simp) (show Ev r.x [] 0=Ev (r.x.drop (k+1)) (Dw U p.s n p.s.length) (n+1) by rw[aK.o,au.o,TI,if_neg (by rw[hneg];simp)]) (sL pb n p a0 aW va vc U (.slice a9 (X++[cx]).length c9) w.heap.size wA aR (a7.o _ O.o.fr) bv.o O.o.pn.box O.o.pn.vars (by omega) (by omega) O.o.fr.rest.size (by omega) (by omega));rw[hneg]at aO e0;go_wp2_with fail;refine aO.o.j ?_;rintro e bA ⟨rfl,⟨bp,bz,aI,aH,_⟩,ar,bB⟩;obtain⟨aQ,aT⟩:=An (O.o.dh aG aI aH ar) (show Em bA rb (.slice none 0 0) (.slice none 0 0) from(ar.block rb (Ap ah.o) (by omega) (λe=>by obtain⟨c',bu⟩:=A7 O.o.pn.vars e;exact Cw bu ah.o (by decide))).c ah.o);have bQ:=VY U p.s n p.s.length;go_wp2_with fail;have aj:=aQ.o;rw[aU.o,aX.o,aS.o]at aj;have ao:=Ad aj;go_roundw;exact⟨k+1,n+1,aY,aZ,L3,aM,D3,a9,c9,bp,bz,_,_,by go_num,by go_num,by omega,aB.o,ay.o,by omega,by simp;omega,by omega,by omega,ao.o,aT.o⟩;simp[intOf];omega
 obtain⟨aB,ay⟩:=An (show CO r.x [] 0=(X++[cx]).map Cx.cp++CO (r.x.drop (k+1)) U n by rw[HG.o,au.o,TE,if_pos hneg,HCX.o];simp) (show Ev r.x [] 0=Ev (r.x.drop (k+1)) U n by rw[aK.o,au.o,TI,if_pos hneg]);rw[hneg]at e0;go_wp2_with fail;have aj:=O.o;rw[aU.o,aX.o,aS.o]at aj;have ao:=Ad aj;go_roundw;exact⟨k+1,n,aY,aZ,L3,aM,D3,a9,c9,va,vc,_,U,by go_num,rfl,by omega,aB.o,ay.o,by omega,by simp;omega,by omega,by omega,ao.o,ah.o⟩;simp[intOf];omega
 ):=h
def rV(Y)(K:N9 Y)(r bU cm cS cG cT cR){q}(base W mb B m L G D wA w)(hA:Bw wA w)(b0:wA.heap.size<=base)(hbase:base<=w.heap.size)(cD:Gl q wA bU r.x)(hN:NS Y w base W mb B m L G D)(dp:r.x.length<=6)(cw:∀p∈r.x,p.s.length<=6)(cE:∀p∈r.x,Pt.le 1048576 p)(cF:∀p∈r.x,∀t∈p.s,ER t.val)(hL:L.length<=900)(h6:∀x∈L,x.1.y.length<=6) :
  Ca 90 #[.agg #[.string r.name,.int .i64 r.aq,.slice bU r.x.length cm,.slice cS r.A.length cG,.slice cT r.K.length cR],.pointer (some ⟨W,0,none⟩)] w (xA Y base W mb B m L G r w):=by
 obtain⟨a7,HP,HN,cU,cI,cL,H6⟩:=LG (show∀wr,Fz W mb (Value.slice B L.length m).ownBlock w wr->Bw wA wr fromλwr hf=>hA.c (hf.e qd (yi b0 hN.bd.1) (yi b0 hN.bd.2) (λk hk=>yi b0 (hN.row.lt k hk).1))) cD hN cw cE cF h6;clear cD hN cw cE cF hA h6;go_enter func90,ntmps90;go_upto_region 2 with fail;refine Hu ?_;intro w0 b6 cn bV bY;have f2:w0.cell? ⟨w.heap.size,2,none⟩=some (.slice bU r.x.length cm):=by simp[World.cell?,cn]
 obtain⟨rb,cf⟩:=AF (w.heap.size+1);obtain⟨pb,ab⟩:=AF (rb+1);rw[<-cf]at bV⊢;rw[show w.heap.size+2=pb by omega]at bY;rw[<-ab];obtain⟨cA,ce⟩:=An (show Em w0 rb (.slice none 0 0) (.slice none 0 0) from bV) (show PS Y w (Value.slice B L.length m).ownBlock G (L.map Prod.fst) base W mb pb B m L G D none 0 none 0 [] [] w0 from⟨HN.o.C b6,⟨bY,yJ _ _ _ _,yJ _ _ _ _,λc hc=>by simp at hc,λc hc=>by simp at hc⟩,Fz.u b6,λg hg=>.inl hg,λ_ _ h=>h,λ_ _ h=>h,H6.o⟩);have aG:w.heap.size<=pb:=qd;have cZ:rb<pb:=qd;have cr:w.heap.size<=rb:=qd;clear b6 cn bV bY cf ab;go_wp2_with fail;clear f2
 go_loopw [13,6] (λiv cv wr=>∃(k n:Nat)(ag:Af)(ad:Nat)(L':CD)(ae:A5)(D':DataW Unit)(ca:Af)(cc:Nat)(va:Af)(vc:Nat)(X:Ak)(U:AY),iv=.int .i64 (k:Int)/\cv=.int .i64 (n:Int)/\k<=r.x.length/\CO r.x [] 0=X.map Cx.cp++CO (r.x.drop k) U n/\Ev r.x [] 0=Ev (r.x.drop k) U n/\L'.length<=L.length+k/\X.length<=k/\U.length<=6*k/\n<=k/\PS Y w (Value.slice B L.length m).ownBlock G (L.map Prod.fst) base W mb pb ag ad L' ae D' ca cc va vc X U wr/\Em wr rb (.slice none 0 0) (.slice none 0 0)) (λiv _ _=>r.x.length-(intOf iv).toNat)
 .exact⟨0,0,B,m,L,G,D,none,0,none,0,[],[],rfl,rfl,yn _,rfl,rfl,yA _,yA _,yA _,yA _,ce.o,cA.o⟩
 obtain⟨L0,bC⟩:=AF L;obtain⟨aa,bt⟩:=AF G;obtain⟨R0,bX⟩:=AF ((Value.slice B L.length m).ownBlock);rw[<-bX]at hrel a7;rw[<-bt]at hrel;rw[<-bC]at hrel;have cW:L0.length<=900:=by rw[bC];exact hL
 have dh:L0.length<=L.length:=by rw[bC];exact yA _
 obtain⟨aU,aS,aX⟩:=AK bX bC bt;obtain⟨k,n,B,m,L,G,D,ca,cc,va,vc,X,U,rfl,rfl,dm,hG,cj,cP,c8,dj,cY,bG,cC⟩:=hrel;obtain⟨HG,aK,I,br⟩:=BP hG cj bG cC;have di:=bG.fr.rest.size;have df:pb<wr.heap.size:=Ap bG.pn.box;clear hG cj bG cC ce cA;clear bX bC bt;by_cases hk:k<r.x.length
 .obtain⟨p,hp⟩:=Bq hk;obtain⟨dl,mo,a0,aW,rfl,_,y0,y1,y2,cz,cg⟩:=HP.o.dK hp;have AR:=a7.o _ I.o.fr;have x0:=zab AR y0;have x1:=zab AR y1;have x2:=zab AR y2;have bv:=Ad cz;have bM:=yd hp;have au:=Ad (Dx hp);have dq:=cU.o p bM;obtain⟨bi,ch⟩:=An (cI.o p bM) (cL.o p bM);obtain⟨v0,v1⟩:=CZ hk;obtain⟨b4,bL⟩:=An (λw'(h:PS Y w R0 aa (L0.map Prod.fst) base W mb pb B m L G D ca cc va vc X U w')=>vx Y K p a0 aW base W mb B m L G D w' h.ns (bv.o.e (a7.o _ h.fr)) (yi bi.o.1 qi) ⟨yi bi.o.2.1 qi,λt N=>⟨yi (bi.o.2.2 t N).1 qi,yi (bi.o.2.2 t N).2 qi⟩⟩ bi.o.2.1 cg ch.o qd (yi hbase h.fr.rest.size)) (λw' B m L G D(h:PS Y w R0 aa (L0.map Prod.fst) base W mb pb B m L G D ca cc va vc X U w')=>zjY pb p a0 aW va vc U w' h.pn.box.J.1.2 (LL.owns h.pn.vars) (bv.o.e (a7.o _ h.fr)) cg qd qd);clear y0 y1 y2 cz hp AR bM bi ch;go_upto_region 6 with fail;refine BF ?_;intro d bE bN;obtain⟨tb,ac⟩:=AF wr.heap.size;rw[<-ac]at bN⊢;obtain⟨d0,d1,d2⟩:=Ax bN;obtain⟨Z,bK,cB⟩:=AK ((I.o.C bE).C Au.drew) (show d.drew.heap[tb]?=some (.cells #[.bool p.neg,.string p.E,.slice a0 p.s.length aW] 152 (0,0)) from bN) (show Em d.drew rb (.slice none 0 0) (.slice none 0 0) from(show Em d rb (.slice none 0 0) (.slice none 0 0) from br.o.C bE));have dg:=bE.size;have cV:pb<tb:=qd;have bI:=Ad (λg(hg:(Value.slice ca X.length cc).ownBlock=some g)=>(Z.o.pn.conds.lt g hg).2);replace bI:=Ad (show∀g,(Value.slice ca X.length cc).ownBlock=some g->g<d.heap.size from bI.o);clear bE bN ac x0 x1 x2 I br;go_wp2_with fail;refine wp_region_noPanic ?_;refine wp_region_held_drew (S:=(λw'=>w'.cell? ⟨tb,0,none⟩=some (.bool p.neg)/\w'.cell? ⟨tb,1,none⟩=some (.string p.E)/\w'.cell? ⟨tb,2,none⟩=some (.slice a0 p.s.length aW))) qg ?_ (λhHeld=>?_)
  ·(try dsimp only);exact⟨d0,d1,d2⟩
  refine sr 0 5 ?_;refine sr 6 7 ?_;refine r2 5 9 (λK b=>?_) λK b=>?_
  .go_simp;(go_at_call 149;refine(b4.o _ Z.o).j ?_;rintro e' f ⟨aY,aZ,L3,aM,D3,nk,rfl,bJ,aV,bD,H,bO,bH⟩);(try go_wp2_with fail);refine b.o _ _ (by(try dsimp only);exact Ax (H.box bK.o Z.o.ns qi qi)) λhHeld=>?_;clear b K;(try simp only[pQ]);obtain⟨T,M,bg,bF⟩:=BP (Z.o.of bJ (VR p) aV H bO bH) (H.box bK.o Z.o.ns qi qi) (show Em f rb (.slice none 0 0) (.slice none 0 0) from H.box cB.o Z.o.ns qi qi) (show∃i:Nat,(L3.map Prod.fst)[i]?=some (DW p)/\aM[i]?=some nk from⟨_,by rw[aV];exact lK _ _,bD⟩);have cd:L3.length<=L.length+1:=by
    exact tK
   have cM:d.heap.size<=f.heap.size:=H.rest.size;clear bJ aV bD H bO bH;obtain⟨x0,x1,x2⟩:=Ax M.o;refine r2 7 9 (λK b=>?_) λK b=>?_
   .go_simp;(go_at_call 150;refine(bL.o _ _ _ _ _ _ T.o).j ?_;rintro co w7 ⟨⟨ta,tc,rfl,a4⟩,af⟩);(try go_wp2_with fail);refine b.o _ _ um λhHeld=>?_;clear b K;(try simp only[pQ]);obtain⟨bw,aA,bq,bo⟩:=BP (T.o.C af) ((af.block _ (Ap M.o)).c M.o) (bg.o.C af) (C4 a4 (show w.heap.size<=f.heap.size by omega));have b5:=af.size;clear a4 af x0 x1 x2 T M bg;refine sr 8 9 ?_;have a6:=Ad (λo'=>Au.alloc Bg o':∀o',Bw w7 (w7.alloc o'));obtain⟨m0,m1,m2⟩:=Ax aA.o;refine wpAnyH_ready (rs:=[9]) qg qf ?_;refine y9 (yj.c rfl) (λK b=>?_) Yd;go_simp;refine b.o _ _ uh λhHeld=>?_;clear b K;(try simp only[pQ]);refine wpAnyH_ready (rs:=[10]) qg qf ?_;refine y9 (yj.c rfl) (λK b=>?_) Yd;go_simp;refine b.o _ _ uh λhHeld=>?_;clear b K;(try simp only[pQ]);refine wpAnyH_done qg ?_ _;refine Yb ?_;go_upto_region 7 with fail;refine BF ?_;intro w8 bj bn;obtain⟨c0,c1,c2,c3⟩:=AX bn;obtain⟨am,ax,bc,bd⟩:=BP (bw.o.C bj) ((bj.block _ (Ap aA.o)).c aA.o) (bq.o.C bj) (AZ bo.o bj);have cy:=bj.size;clear bj bn m0 m1 m2 a6;have bP:tb<w8.heap.size:=Ap ax.o;clear d0 d1 d2 b4 bL hHeld;obtain⟨⟨q0,q1⟩,_,ci⟩:=am.o.pn.box.J;have HW:=Ad (λo=>Au.alloc Bg o:∀o,Bw w8 (w8.alloc o));have bZ:∀o,(w8.alloc o).cell? ⟨pb,0,none⟩=some (.slice ca X.length cc):=λo=>zab (HW.o o) q0;obtain⟨TY,bm,bh,bl⟩:=BP (λo g hg=>A7 (AZ am.o.pn.conds (HW.o o)) (k:=g) hg) (λo=>am.o.pn.box.C (HW.o o)) (λo=>bc.o.C (HW.o o)) (λo=>((HW.o o).block _ (Ap ax.o)).c ax.o);have aP:w.heap.size<=w8.heap.size:=qd;go_upto_region 8 with(first|(at_builtin;refine Dp qh (.tmp 27) (.tmp 29) 99 qh w.heap.size 197 _ 4 48 underlying99 lm qh qd _ X.length _ qh (AZ am.o.pn.conds (HW.o _)) (some ⟨_,0,none⟩) 1 1 qh (Ly ⟨⟨p.neg,n,DW p,Dr U p.s p.s.length⟩,nk,ta,tc⟩) qh (λe=>qo) (CH _ _ _ _ qD) (lS _) qj qd (yi aP (HW.o _).size) ?_;intro a9 c9 w9 bf aq bW;have P9:=Ad (show Em w9 pb (.slice ca X.length cc) (.slice va U.length vc) from E5 (bm.o _) aq.o (TY.o _) qi);have R9:=Ad (show Em w9 rb (.slice none 0 0) (.slice none 0 0) from E5 (bh.o _) aq.o (TY.o _) qi);have B9:=Ad (E5 (bl.o _) aq.o (TY.o _) qi);obtain⟨⟨l0,l1⟩,z,_⟩:=P9.o.J;have bR:=z 0;clear z)|fail);refine pB P9.o ?_;intro aR aJ ak;obtain⟨cx,aN⟩:∃c:Cx,c=⟨⟨p.neg,n,DW p,Dr U p.s p.s.length⟩,nk,ta,tc⟩:=⟨_,rfl⟩
    have O:=Ad (am.o.push (c:=⟨⟨p.neg,n,DW p,Dr U p.s p.s.length⟩,nk,ta,tc⟩) bd.o bF.o aG bf.o aq.o aJ ak);rw[<-aN]at O;have HCX:=Ad aN;clear aN;obtain⟨ah,aF⟩:=An (show Em aR rb (.slice none 0 0) (.slice none 0 0) from(ak.block rb qd).c R9.o) ((ak.block tb qd).c B9.o);obtain⟨e0,e1,e2⟩:=Ax aF.o;clear aJ ak c0 c1 c2 c3 q0 q1 bZ l0 l1 bR HW TY bm bh bl P9 R9 B9 am ax bc bd bf aq bW;rcases(show p.neg=false∨p.neg=true by cases p.neg<;>simp) with hneg|hneg
    .obtain⟨aB,ay,aO⟩:=AK (show CO r.x [] 0=(X++[cx]).map Cx.cp++CO (r.x.drop (k+1)) (Dw U p.s n p.s.length) (n+1) by rw[HG.o,au.o,TE,if_neg (by rw[hneg];simp),HCX.o];simp) (show Ev r.x [] 0=Ev (r.x.drop (k+1)) (Dw U p.s n p.s.length) (n+1) by rw[aK.o,au.o,TI,if_neg (by rw[hneg];simp)]) (sL pb n p a0 aW va vc U (.slice a9 (X++[cx]).length c9) w.heap.size wA aR (a7.o _ O.o.fr) bv.o O.o.pn.box O.o.pn.vars qd qd O.o.fr.rest.size qd qd);rw[hneg]at aO e0;clear hneg HG aK au;go_wp2_with fail;refine aO.o.j ?_;rintro e bA ⟨rfl,⟨bp,bz,aI,aH,_⟩,ar,bB⟩;obtain⟨aQ,aT⟩:=An (O.o.dh aG aI aH ar) (show Em bA rb (.slice none 0 0) (.slice none 0 0) from(ar.block rb (Ap ah.o) qd (λe=>by obtain⟨c',bu⟩:=A7 O.o.pn.vars e;exact Cw bu ah.o qi)).c ah.o);have bQ:=VY U p.s n p.s.length;clear aI aH ar bB aO O ah aF e0 e1 e2;go_wp2_with fail;have aj:=aQ.o;rw[aU.o,aX.o,aS.o]at aj;have ao:=Ad aj;clear aj;go_roundw;exact⟨k+1,n+1,aY,aZ,L3,aM,D3,a9,c9,bp,bz,_,_,qm,qm,qd,aB.o,ay.o,qd,qe,qd,qd,ao.o,aT.o⟩;simp[intOf];omega
    obtain⟨aB,ay⟩:=An (show CO r.x [] 0=(X++[cx]).map Cx.cp++CO (r.x.drop (k+1)) U n by rw[HG.o,au.o,TE,if_pos hneg,HCX.o];simp) (show Ev r.x [] 0=Ev (r.x.drop (k+1)) U n by rw[aK.o,au.o,TI,if_pos hneg]);rw[hneg]at e0;clear hneg HG aK au;go_wp2_with fail;have aj:=O.o;rw[aU.o,aX.o,aS.o]at aj;have ao:=Ad aj;clear aj;go_roundw;exact⟨k+1,n,aY,aZ,L3,aM,D3,a9,c9,va,vc,_,U,qm,rfl,qd,aB.o,ay.o,qd,qe,qd,qd,ao.o,ah.o⟩;simp[intOf];omega
   have R:=Ad (λo'=>Au.alloc Bg o':∀o',Bw f (f.alloc o'));go_simp;refine b.o _ _ (by(try dsimp only);exact⟨zab (R.o _) x0,zab (R.o _) x1,zab (R.o _) x2⟩) λhHeld=>?_;clear b K;(try simp only[pQ]);refine wpAnyH_ready (rs:=[7]) qg qf ?_;refine y9 (yj.c rfl) (λK b=>?_) Yd;go_simp;(go_at_call 150;refine(bL.o _ _ _ _ _ _ (T.o.C (R.o _))).j ?_;rintro co w7 ⟨⟨ta,tc,rfl,a4⟩,af⟩);(try go_wp2_with fail);refine b.o _ _ (by(try dsimp only);exact⟨zab af (zab (R.o _) x0),zab af (zab (R.o _) x1),zab af (zab (R.o _) x2)⟩) λhHeld=>?_;clear b K;(try simp only[pQ]);have a8:=(R.o _).c (af.j (R.o _).size);obtain⟨bw,aA,bq⟩:=AK (T.o.C a8) ((a8.block _ (Ap M.o)).c M.o) (bg.o.C a8);have b5:=af.size;simp at b5;obtain⟨bo,ai⟩:=An (C4 a4 (show w.heap.size<=_ by simp;omega)) (show Bk w7 (f.heap.size) #[.bool false,.int .i64 0,.pointer none,.slice none 0 0] 197 from(af.block f.heap.size qf).c (heap_alloc_new _ _));clear a4 af a8 x0 x1 x2 T M bg R;refine sr 8 9 ?_;obtain⟨m0,m1,m2⟩:=Ax aA.o;obtain⟨o0,o1,o2,o3⟩:=AX ai.o;have s0:w7.frozen? ⟨f.heap.size,0,none⟩=false:=qI;have s1:w7.frozen? ⟨f.heap.size,1,none⟩=false:=qI;have s2:w7.frozen? ⟨f.heap.size,2,none⟩=false:=qI;have s3:w7.frozen? ⟨f.heap.size,3,none⟩=false:=qI;have bS:=Ad (λwt(N:Turned w7 wt f.heap.size)=>Ax (VZ aA.o ai.o N qi));refine wpAnyH_ready (rs:=[10]) qg qf ?_;refine y9 (yj.c rfl) (λK b=>?_) Yd;go_simp;refine b.o _ _ uc λhHeld=>?_;clear b K;exact uB
  obtain⟨b8,b7⟩:=An (λo'=>Au.alloc Bg o':∀o',Below d.drew.heap.size d.drew (d.drew.alloc o')) (λo'=>Au.drew.alloc qf o':∀o',Bw d (d.drew.alloc o'));go_simp;refine b.o _ _ (by(try dsimp only);exact⟨zab (b7.o _) d0,zab (b7.o _) d1,zab (b7.o _) d2⟩) λhHeld=>?_;(try simp only[pQ]);obtain⟨bk,cq,cJ⟩:=AK (λo'=>Z.o.C (b8.o o')) (λo'=>((b8.o o').block _ (Ap bK.o)).c bK.o) (λo'=>cB.o.C (b8.o o'));refine wpAnyH_ready (rs:=[5]) qg qf ?_;refine y9 (yj.c rfl) (λK b=>?_) Yd;go_simp;(go_at_call 149;refine(b4.o _ (bk.o _)).j ?_;rintro e' f ⟨aY,aZ,L3,aM,D3,nk,rfl,bJ,aV,bD,H,bO,bH⟩);(try go_wp2_with fail);refine b.o _ _ (by(try dsimp only);exact Ax (H.box (cq.o _) (bk.o _).ns qi qi)) λhHeld=>?_;(try simp only[pQ]);obtain⟨T,M,bg,bT,bF⟩:=Ei ((bk.o _).of bJ (VR p) aV H bO bH) (H.box (cq.o _) (bk.o _).ns qi qi) (show Em f rb (.slice none 0 0) (.slice none 0 0) from H.box (cJ.o _) (bk.o _).ns qi qi) (show Bk f (d.heap.size) #[.bool false,.int .i64 0,.pointer none,.slice none 0 0] 197 from H.box (heap_alloc_new d.drew _) (bk.o _).ns qi qi) (show∃i:Nat,(L3.map Prod.fst)[i]?=some (DW p)/\aM[i]?=some nk from⟨_,by rw[aV];exact lK _ _,bD⟩);have cd:L3.length<=L.length+1:=by
   exact tK
  have cM:d.heap.size<f.heap.size:=Ap bT.o;obtain⟨x0,x1,x2⟩:=Ax M.o;refine wpAnyH_ready (rs:=[7]) qg qf ?_;refine y9 (yj.c rfl) (λK b=>?_) Yd;go_simp;(go_at_call 150;refine(bL.o _ _ _ _ _ _ T.o).j ?_;rintro co w7 ⟨⟨ta,tc,rfl,a4⟩,af⟩);(try go_wp2_with fail);refine b.o _ _ um λhHeld=>?_;(try simp only[pQ]);obtain⟨bw,aA,bq,ai,bo⟩:=Ei (T.o.C af) ((af.block _ (Ap M.o)).c M.o) (bg.o.C af) ((af.block _ (Ap bT.o)).c bT.o) (C4 a4 (show w.heap.size<=f.heap.size by omega));have b5:=af.size;refine sr 8 9 ?_;obtain⟨m0,m1,m2⟩:=Ax aA.o;obtain⟨o0,o1,o2,o3⟩:=AX ai.o;have s0:w7.frozen? ⟨d.heap.size,0,none⟩=false:=qI;have s1:w7.frozen? ⟨d.heap.size,1,none⟩=false:=qI;have s2:w7.frozen? ⟨d.heap.size,2,none⟩=false:=qI;have s3:w7.frozen? ⟨d.heap.size,3,none⟩=false:=qI;have bS:=Ad (λwt(N:Turned w7 wt d.heap.size)=>Ax (VZ aA.o ai.o N qi));refine wpAnyH_ready (rs:=[10]) qg qf ?_;refine y9 (yj.c rfl) (λK b=>?_) Yd;go_simp;refine b.o _ _ uc λhHeld=>?_;exact uB
 have cN:k=r.x.length:=qd;subst cN;have hy:¬(r.x.length:Int)<(r.x.length:Int):=qd;obtain⟨⟨q0,q1⟩,_,_⟩:=I.o.pn.box.J;obtain⟨⟨r0,r1⟩,rz,dd⟩:=br.o.J;have de:=rz 0;have dk:=rz 1;have cO:CO r.x [] 0=X.map Cx.cp:=by rw[HG.o,i7];simp[CO]
 have cK:Ev r.x [] 0=U:=by rw[aK.o,i7];rfl
 obtain⟨cH,cu⟩:=An cO cK;have cX:rb≠pb:=qd;go_wp2;refine bodyPost_ret (v:=.agg #[.slice ca X.length cc,.slice va U.length vc]) (by simp[results,results90,go_sem,r0,r1]) rfl ?_;have N:Turned wr ((wr.setCell ⟨rb,0,none⟩ (.slice ca X.length cc)).setCell ⟨rb,1,none⟩ (.slice va U.length vc)) rb:=Turned.setCells [_,_] 0 wr rb;refine⟨B,m,L,G,D,ca,cc,va,vc,X,by rw[cu.o],cH.o.z,I.o.ns.bQ br.o N OI,?_,?_,?_,?_,?_,?_,I.o.cr⟩
 .rw[cu.o];exact I.o.pn.pd.ar λk c t fr hk cQ=>(N.block k (λe=>by subst e;exact Cw br.o hk (by rcases cQ with rfl|rfl|rfl<;>decide))).c hk
 .rw[<-aU.o];exact I.o.fr.aE (N.e cr)
 .rw[<-aU.o];exact I.o.cN
 .rw[<-aX.o];exact I.o.ext
 .rw[<-aS.o];exact I.o.dg
 rw[<-aS.o];exact cP
structure Px where
 ca:Af
 cc:Nat
 va:Af
 vc:Nat
 X:Ak
 U:AY
def JG(x:Px):Aj:=[.slice x.ca x.X.length x.cc,.slice x.va x.U.length x.vc]
def kq(x):∀u∈JG x,u.oneCell'=true:=by
 intro u hu;simp[JG]at hu;rcases hu with rfl|rfl<;>rfl
def kH:(prog.info? 102).map (λi=>(i.zero,i.size,i.bytes))=some (some (.agg #[.slice none 0 0,.slice none 0 0]),2,48):=qg
structure Gg(w:Aa) (B:Nat) (a:Af) (c:Nat) (P:List Px) (A:Dm) (bs:A5):Prop where
 row:w.ownsRow B 102 2 (.slice a P.length c) P.length (P.flatMap JG)
 V:∀x∈P,PD w B x.ca x.cc x.va x.vc x.X x.U A bs
def Gg.ar{w w' B a c P A f}(h:Gg w B a c P A f)(e:∀(k:Nat)(c:Bl)(t:TypeId)(b:Nat × Nat),w.heap[k]?=some (.cells c t b)->(t=102∨t=197∨t=330∨t=277)->w'.heap[k]?=some (.cells c t b)):Gg w' B a c P A f:=
 ⟨Ci h.row λk d=>by
  obtain⟨j,O⟩:=A7 h.row d
  rw[e k _ _ _ O (.inl rfl),O],λx g=>(h.V x g).ar λk c t b d i=>e k c t b d (.inr i)⟩
def Gg.C{w w' B a c P A b}(h:Gg w B a c P A b)(e:Bw w w'):Gg w' B a c P A b:=
 h.ar λk _ _ _ d _=>(e.block k (Ap d)).c d
def Gg.ft{base w w' B a c P A b}(h:Gg w B a c P A b)(e:EB base w w'):Gg w' B a c P A b:=
 h.ar λk c t d f ht=>e.kept k c t d f qt qt
def PD.ext{w B ca cc b e X U A O d a}(h:PD w B ca cc b e X U A d)(l:∀(i:Nat)(y:Al),A[i]?=some y->O[i]?=some y)(f:∀(i n:Nat),d[i]?=some n->a[i]?=some n):PD w B ca cc b e X U O a:=
 ⟨h.conds,h.vars,h.y,λc g=>by
  obtain⟨i,j,k⟩:=h.aI c g
  exact⟨i,l i _ j,f i _ k⟩⟩
def PD.lower{w B O ca cc d e X U A b}(h:PD w B ca cc d e X U A b)(a:O<=B):PD w O ca cc d e X U A b:=
 ⟨C4 h.conds a,C4 h.vars a,λc f=>C4 (h.y c f) a,h.aI⟩
def Gg.push{G w O f base m mb B s p}{L l:CD}{g b D a r c u P x o}(h:Gg w B a c P (L.map Prod.fst) g)(M:NS G w base m mb s p L g D)(K:Fz m mb (Value.slice s L.length p).ownBlock w O)(A:∀(i n:Nat),g[i]?=some n->b[i]?=some n)(H:∀(i:Nat)(y:Al),(L.map Prod.fst)[i]?=some y->(l.map Prod.fst)[i]?=some y)(z:PD O B x.ca x.cc x.va x.vc x.X x.U (l.map Prod.fst) b)(I:(O.alloc o).grownBy f (Value.slice a P.length c).ownBlock)(ho:f.ownsRow B 102 2 (.slice r (P.length+1) u) (P.length+1) (P.flatMap JG++JG x)):Gg f B r u (P++[x]) (l.map Prod.fst) b:=by
 have E:Gg O B a c P (L.map Prod.fst) g:=h.ar λk c t j d ht=>K.box d M qt qt;have v:Bw O (O.alloc o):=Ar;have q:=E.C v;have J:=λk d=>A7 q.row (k:=k) d;have far:∀(k:Nat)(c:Bl)(t:TypeId)(j:Nat × Nat),(O.alloc o).heap[k]?=some (.cells c t j)->(t=197∨t=330∨t=277)->f.heap[k]?=some (.cells c t j):=λk c t j d ht=>E5 d I J qE;refine⟨Qm,λy e=>?_⟩;rcases yp.1 e with e|e
 .exact((q.V y e).ext H A).ar far
 rw[yw.1 e];exact(z.C v).ar far
def LW(a:Af)(fs:Ab):Nat->Fs
 |0=>[]
 |k+1=>LW a fs k++(match fs[k]?,a with|some f,some ad=>[(.pointer (some ⟨ad.block,ad.off+k*3,none⟩),f)]|_,_=>[])
def mw{b o:Nat}{fs:Ab}{k:Nat}{f:F}(h:fs[k]?=some f):LW (some ⟨b,o,none⟩) fs (k+1)=LW (some ⟨b,o,none⟩) fs k++[(.pointer (some ⟨b,o+k*3,none⟩),f)]:=by simp[LW,h]
def lg(a:Af)(fs:Ab):∀k,(LW a fs k).length<=k
 |0=>yA _
 |k+1=>by
  have h:=lg a fs k
  simp only[LW,yM]
  split<;>simp<;>omega
def lZ{w:Aa}{a:Af}{fs:Ab}(h:Cs w a fs):∀k,k<=fs.length->(LW a fs k).map Prod.snd=fs.take k/\∀y∈LW a fs k,DJ w y.1 y.2
 |0,_=>⟨rfl,λy d=>by simp[LW]at d⟩
 |k+1,hk=>by
  obtain⟨j,n⟩:=lZ h k qd
  obtain⟨f,e⟩:∃f,fs[k]?=some f:=⟨fs[k],by simp[show k<fs.length by omega]⟩
  obtain⟨b,o,rfl,g,m,l,c,i,hv⟩:=h k f e
  rw[mw e]
  refine⟨by rw[yz,j,Yc,e];rfl,λy d=>?_⟩
  rcases yp.1 d with d|d
  .exact n y d
  rw[yw.1 d]
  exact⟨b,o+k*3,rfl,g,m,l,c,i,hv⟩
def lC{x}:∀(Q:Fs),(C8 x Q).map Prod.snd=(Q.map Prod.snd).filter (Ah x)
 |[]=>rfl
 |y::r=>by
  unfold C8
  have O:=lC (x:=x) r
  unfold C8 at O
  by_cases h:Ah x y.2=true
  .rw[yQ qu,yx,yx,yQ h,O]
  rw[yT qu,yx,yT h,O]
def EJ.owns{w base a c ts}(h:w.ownsRow base 277 4 (.slice a ts.length c) ts.length (ts.flatMap Lz)):EJ w a ts:=by
 intro i t e;have key:=λj u(hj:(Lz t)[j]?=some u)=>CG h (Hf (cells:=Lz) (m:=4) (λ_=>rfl) ts i t j u e hj);obtain⟨k,rfl,_,O,_⟩:=key 0 _ rfl;obtain⟨n,f,_,h1,_⟩:=key 1 _ rfl;obtain⟨g,d,_,h2,_⟩:=key 2 _ rfl;obtain⟨l,b,_,h3,_⟩:=key 3 _ rfl;cases f;cases d;cases b;exact⟨k,0,rfl,OJ,qx,qw,OM⟩
def CB(fs:Ab)(c:Cx):Cn:=⟨c.cp.neg,c.cp.Y,c.node,c.cp.y,c.cp.H,fs.filter (Ah c.cp.H)⟩
def lX(fs c):Ln fs (CB fs c) c.cp:=⟨rfl,rfl,rfl,rfl,rfl⟩
def PD.fo{w B base C mb T E L t V Q fs ca cc va K X U}(h:PD w B ca cc va K X U (L.map Prod.fst) t)(n:NF w base C mb T E L t V (λ_=>Q))(Z:Q.map Prod.snd=fs)(hF:∀y∈Q,DJ w y.1 y.2):SC w ca (X.map (CB fs)):=by
 intro i d q;rw[yE]at q;obtain⟨c,r,rfl⟩:=Ye.1 q;have key:=λj u(hj:(Ly c)[j]?=some u)=>CG h.conds (Hf (cells:=Ly) (m:=4) (λ_=>rfl) X i c j u r hj);obtain⟨k,rfl,_,h0,_⟩:=key 0 _ rfl;obtain⟨k1,R,_,h1,_⟩:=key 1 _ rfl;obtain⟨k2,I,_,Y,_⟩:=key 2 _ rfl;obtain⟨k3,e3,_,G,_⟩:=key 3 _ rfl;cases R;cases I;cases e3;have A:=yd r;obtain⟨m,s,D⟩:=h.aI c A;rw[yE]at s;obtain⟨x,e,ai⟩:=Ye.1 s;have W:m<L.length:=(yf.1 e).1;obtain⟨v,hv⟩:∃v,V[m]?=some v:=⟨V[m]'(by rw[n.aP];exact W),qf⟩
 obtain⟨l,_,⟨fa,fc,rfl⟩,p⟩:=n.node m x c.node v e D hv;obtain⟨M,nc,O⟩:=l.nd (n.aM x (yd e));rw[ai]at O l p;have a:(C8 c.cp.H Q).map Prod.snd=fs.filter (Ah c.cp.H):=by rw[lC,Z]
 have b:(C8 c.cp.H Q).length=(fs.filter (Ah c.cp.H)).length:=by rw[<-a,yu]
 obtain⟨⟨_,_,_,y4⟩,_⟩:=l.J;refine⟨k,0,c.ta,c.tc,rfl,by simpa[CB] using h0,by simpa[CB] using h1,by simpa[CB] using Y,by simpa[CB] using G,⟨EJ.owns (h.y c A),⟨M,nc,O⟩,fa,fc,?_,?_⟩⟩
 .show At w c.node 4 (.slice fa (fs.filter (Ah c.cp.H)).length fc);rw[<-b];exact y4
 intro j f hj;have o:((C8 c.cp.H Q).map Prod.snd)[j]?=some f:=by rw[a];exact hj
 rw[yE]at o;obtain⟨y,z,rfl⟩:=Ye.1 o;obtain⟨g,rfl,_,N,_⟩:=CG p (show((C8 c.cp.H Q).map Prod.fst)[j]?=some y.1 by rw[yE,z];rfl);exact⟨g,0,y.1,rfl,by simpa using N,hF y (yh.1 (yd z)).1⟩
def TF:∀(a:Bi)(vs:AY)(n:Nat),(∀p∈a,p.s.length<=6)->∀d∈CO a vs n,d.y.length<=6/\d.H.y.length<=6
 |[],_,_,_,d,hd=>by simp[CO]at hd
 |p::a,vs,n,h,d,hd=>by
  rw[TE]at hd
  have b:∀q∈a,q.s.length<=6:=λq c=>h q (by simp[c])
  rcases yW.1 hd with rfl|hd
  .exact⟨yi (gi _ _ _) (h p qf),VR p⟩
  split at hd
  .exact TF a _ _ b d hd
  exact TF a _ _ b d hd
structure QZ(w:Aa) (fs:Ab) (ca:Af) (va:Af) (r:Ru) (cs:List Cn):Prop where
 conds:SC w ca cs
 vars:LL w va (Ev r.x [] 0)
 len:cs.length=(CO r.x [] 0).length
 V:∀(k:Nat)(c:Cn)(d:Cp),cs[k]?=some c->(CO r.x [] 0)[k]?=some d->Ln fs c d
 small:∀c∈cs,x_ c
theorem QZ.e{w w' fs ca a r cs}(h:QZ w fs ca a r cs)(b:Bw w w'):QZ w' fs ca a r cs:=⟨h.conds.e b,h.vars.e b,h.len,h.V,h.small⟩
def PD.fq{w B base i mb j l L f V Q fs ca cc e o X r}(h:PD w B ca cc e o X (Ev r.x [] 0) (L.map Prod.fst) f)(t:NF w base i mb j l L f V (λ_=>Q))(g:Q.map Prod.snd=fs)(hF:∀y∈Q,DJ w y.1 y.2)(O:X.map Cx.cp=CO r.x [] 0)(q:∀p∈r.x,p.s.length<=6)(u:fs.length<=40):QZ w fs ca e r (X.map (CB fs)):=by
 refine⟨h.fo t g hF,LL.owns h.vars,by rw[<-O];simp,λk c d a hd=>?_,λc a=>?_⟩
 .rw[<-O,yE]at hd;rw[yE]at a;obtain⟨x,b,rfl⟩:=Ye.1 a;rw[b]at hd;cases hd;exact lX fs x
 obtain⟨x,b,rfl⟩:=yv.1 a;obtain⟨m,n⟩:=TF r.x [] 0 q x.cp (by rw[<-O];exact yv.2 ⟨x,b,rfl⟩);exact⟨yi m qi,yi (Yi _ _) qd,yi n qi⟩
end
end Go.Proofs.YtikojfajahnhgaaGreat
