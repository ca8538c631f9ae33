import Derived.Test.YtikojfajahnhgaaGreatKaw
import Derived.Test.YtikojfajahnhgaaGreatKba
set_option linter.all false
namespace Go.Proofs.YtikojfajahnhgaaGreat
attribute [local simp] At I6 Pn mzI
attribute [local go_sem] At I6 Pn
open Go.RowKit Go.Proofs.Tryz
attribute [local go_sem ↓] wp_at_zero wp_at_succ
def nU{P ops rest d a w Q}(O:d.guard=none)(ty x y)(k:d.op=.store ty x y)(b o L)(i:a.eval x=.pointer (some ⟨b,o,none⟩))(j:a.eval y=.agg L.toArray)(c t)(e:w.heap[b]?=some (.cells c t (0,0)))(f:o+L.length<=c.size)(hi:(P.info? ty).map (·.size)=some L.length)(g:∀v∈L,v.oneCell'=true)(N)(l:(c.toList.take o++(L++c.toList.drop (o+L.length))).toArray=N)(h:∀w',Hid (w'.heap[b]?=some (.cells N t (0,0)))->Hid (Turned w w' b)->wpList P ops Q rest (a.put d.dst undef) w'):wpList P ops Q (d::rest) a w:=by
 refine wpList_store_mid O ty x y k b o L.toArray i j (Xc e (by simpa using f)) OX (all_oneCell_toArray g) (h _ ?_ (Turned.setCells _ _ _ _));show _=_;rw[<-l];exact Zg e (o:=o) L f
set_option maxHeartbeats 400000 in
def zo6(w):Ca 268 #[] w λe w'=>e=.returned (.slice (some ⟨w.heap.size,0,none⟩) 5 5)/\w'=w.alloc (.cells #[.string ⟨#[43]⟩,.string ⟨#[45]⟩,.string ⟨#[42]⟩,.string ⟨#[47]⟩,.string ⟨#[37]⟩] 9):=by
 go_enter func268,ntmps268;go_wp2;exact Mn
def Gl(e:Ex):List Value:=[.int .i64 e.u,.int .u8 e.op,.string e.A,.int .i64 e.val.u,.int .i64 e.val.num,.string e.val.J,.int .i64 e.a,.int .i64 e.b]
def GN(e:Ex):Prop:=e.A.size<=20/\Gp e.val/\0<=e.op/\e.op<256
def QG(e):∀u∈Gl e,u.oneCell'=true:=by
 intro u hu;simp[Gl]at hu;rcases hu with rfl|rfl|rfl|rfl|rfl|rfl|rfl|rfl<;>rfl
def gz:(prog.info? 225).map (·.size)=some 8:=qg
def Xo:(prog.info? 225).map (λi=>(i.zero,i.size,i.bytes))=some (some (.agg #[I6 0,.int .u8 0,.string ⟨#[]⟩,I6 0,I6 0,.string ⟨#[]⟩,I6 0,I6 0]),8,80):=qg
def NE{w:World}{b ty e}(h:w.heap[b]?=some (.cells (Gl e).toArray ty (0,0))):At w b 0 (I6 e.u)/\At w b 1 (.int .u8 e.op)/\At w b 2 (.string e.A)/\At w b 3 (I6 e.val.u)/\At w b 4 (I6 e.val.num)/\At w b 5 (.string e.val.J)/\At w b 6 (I6 e.a)/\At w b 7 (I6 e.b):=by
 refine⟨?_,?_,?_,?_,?_,?_,?_,?_⟩<;>simp[World.cell?,h,Gl]
def QB(w:World)(b base:Nat)(x0 x1 x2 x4:Value)(a:Option Addr)(c:Nat)(xs:List Ex):Prop:=
 w.heap[b]?=some (.cells #[x0,x1,x2,.slice a xs.length c,x4] 53 (0,0))/\w.ownsRow base 225 8 (.slice a xs.length c) xs.length (xs.flatMap Gl)/\∀x∈xs,GN x
structure Qs(g b:Nat) (o:Option Nat) (w w':World):Prop where
 rest:Below 0 w w'
 block:∀k,k<w.heap.size->k≠g->k≠b->o≠some k->w'.heap[k]?=w.heap[k]?
 bc:DQ w' g
def Qs.of{g b o w w'}(h:Rs g w w'):Qs g b o w w':=⟨h.1.rest,λk c a _ _=>h.1.block k c (λe=>a Uf),h.2⟩
def Fs(N:Nat)(o o':Option Nat):Prop:=o'=o∨∀k,o'=some k->N<=k
def Fs.refl(N o):Fs N o o:=.inl rfl
def Fs.c{N b o o' O}(h:Fs N o o')(a:Fs b o' O)(e:N<=b):Fs N o O:=by
 rcases a with rfl|a
 .exact h
 exact .inr λk d=>yh e (a k d)
def Qs.c{g b o o' u v w}(h:Qs g b o u v)(k:Qs g b o' v w)(a:Fs u.heap.size o o'):Qs g b o u w:=by
 refine⟨h.rest.c k.rest,λj hj d f O=>?_,k.bc⟩;refine(k.block j (yg hj h.rest.size) d f ?_).c (h.block j hj d f O);rcases a with rfl|a
 .exact O
 exactλe=>absurd (a j e) qd
def QB.rs{w w' g b base x0 x1 d f a c xs}(h:QB w b base x0 x1 d f a c xs)(i:Rs g w w')(l:b≠g)(m:g<base):QB w' b base x0 x1 d f a c xs:=
 ⟨Dd i h.1 l,Bv h.2.1 (λk j=>i.1.block k (h.2.1.lt k j).2 (λe=>by injection e with e;have:=(h.2.1.lt k j).1;omega)),h.2.2⟩
def QB.C{w w' b base x0 x1 e d a c xs}(h:QB w b base x0 x1 e d a c xs)(f:Bw w w'):QB w' b base x0 x1 e d a c xs:=
 ⟨(f.block b (Ak h.1)).c h.1,Bv h.2.1 (λk g=>f.block k (h.2.1.lt k g).2),h.2.2⟩
def QB.H{w w' b base d x0 x1 f i a c xs}(h:QB w b base x0 x1 f i a c xs)(g:Turned w w' d)(hd:d≠b)(O:(Value.slice a xs.length c).ownBlock≠some d):QB w' b base x0 x1 f i a c xs:=
 ⟨(g.block b (KK hd)).c h.1,Bv h.2.1 (λk j=>g.block k (λe=>O (by rw[j,e]))),h.2.2⟩
def I0(K:List ByteArray)(w:World)(g b base:Nat)(a:Option Addr)(n:Nat):Prop:=n<=1048576/\∀j,j<n->∃(k o:Nat)(s:ByteArray),a=some ⟨k,o,none⟩/\g<k/\k≠b/\k<base/\GK K s/\w.cell? ⟨k,o+j,none⟩=some (.string s)
def I0.keep{K w w' g b base a n}(h:I0 K w g b base a n)(l:∀k,k<base->k<w.heap.size->g<k->k≠b->w'.heap[k]?=w.heap[k]?):I0 K w' g b base a n:=by
 refine⟨h.1,λj hj=>?_⟩;obtain⟨k,o,s,m,e,d,c,i,f⟩:=h.2 j hj;refine⟨k,o,s,m,e,d,c,i,?_⟩;rw[<-f];exact yR (w:=w) (l k c (yO w ⟨k,_,none⟩ f) e d)
def I0.qs{K w w' g b base o a n}(h:I0 K w g b base a n)(d:Qs g b o w w')(O:∀k,o=some k->base<=k):I0 K w' g b base a n:=
 h.keep (λk i hl f c=>d.block k hl qd c (λe=>by have:=O k e;omega))
def fD:Nat->Nat
 |0=>1
 |d+1=>2*fD d+1
def Ju(K:List ByteArray)(g b base:Nat)(x0 x1 x2 x4:Value)(a:Option Addr)(c:Nat)(xs:List Ex)(d:Nat)(w:World)(e:Ending)(w':World):Prop:=
 ∃a' c' xs',QB w' b base x0 x1 x2 x4 a' c' xs'/\xs.length+1<=xs'.length/\xs'.length<=xs.length+fD d/\e=.returned (.int .i64 ((xs'.length:Int)-1))/\Qs g b (Value.slice a xs.length c).ownBlock w w'/\Fs w.heap.size (Value.slice a xs.length c).ownBlock (Value.slice a' xs'.length c').ownBlock/\(∃ys,xs'=xs++ys/\Dy K d xs.length ys)/\(52<=xs.length->xs'.length<=xs.length+1)
def UT{g b base x0 x1 v w a1 m O u wt t p o E d f}(r:QB wt b base x0 x1 v w a1 m O)(G:GN E)(q:Qs g b o u wt)(n:Fs u.heap.size o (Value.slice a1 O.length m).ownBlock)(l:Bw wt t)(A:p.ownsRow base 225 8 (.slice d (O.length+1) f) (O.length+1) (O.flatMap Gl++Gl E))(s:t.grownBy p (Value.slice a1 O.length m).ownBlock)(hl:(Value.slice d (O.length+1) f).ownBlock=(Value.slice a1 O.length m).ownBlock∨(Value.slice d (O.length+1) f).ownBlock=some t.heap.size)(M:g<b)(L:b<base)(_hbase:base<=wt.heap.size) :
  QB (p.setCell ⟨b,3,none⟩ (.slice d (O.length+1) f)) b base x0 x1 v w d f (O++[E])/\Qs g b o u (p.setCell ⟨b,3,none⟩ (.slice d (O.length+1) f))/\Fs u.heap.size o (Value.slice d (O.length+1) f).ownBlock:=by
 have z:∀k,(Value.slice a1 O.length m).ownBlock=some k->base<=k/\k<wt.heap.size:=λk a=>r.2.1.lt k a;have D:b<wt.heap.size:=Ak r.1;have I:p.heap[b]?=some (.cells #[x0,x1,v,.slice a1 O.length m,w] 53 (0,0)):=by
  refine(s.block b (yg D l.size) (λe=>?_)).c ((l.block b D).c r.1);have:=(z b e.y).1;omega
 have J:∀k,(Value.slice d (O.length+1) f).ownBlock=some k->base<=k:=λk a=>(A.lt k a).1;refine⟨⟨?_,?_,?_⟩,⟨?_,?_,?_⟩,?_⟩
 .have:=Co (i:=3) I (.slice d (O.length+1) f);simpa using this
 .have:=Bv (w':=p.setCell ⟨b,3,none⟩ (.slice d (O.length+1) f)) A (λk a=>yE _ _ _ _ (by have:=J k a;simp;omega));simpa using this
 .intro x K;rcases yn.1 K with h|h
  .exact r.2.2 x h
  simp at h;exact h▸G
 .refine WU ?_ (yk _) _;exact(q.rest.c (l.j (yk _))).grown s (yk _) (λ_ _=>yk _)
 .intro k a H h2 B;have C:k<wt.heap.size:=yg a q.rest.size;refine(yE _ _ _ _ qu).c ?_;refine(s.block k (yg C l.size) (λe=>?_)).c ((l.block k C).c (q.block k a H h2 B));rcases n with n|n
  .exact B (by rw[<-n,e])
  have:=n k e.y;omega
 .refine DQ.bW q.bc ?_;refine WU ?_ qf _;exact(l.j qd).grown s (by have:=l.size;omega) (λk a=>by have:=(z k a).1;omega)
 rcases hl with h|h
 .rw[h];exact n
 refine .inr λk a=>?_;rw[h]at a;injection a with a;have:=q.rest.size;have:=l.size;omega
def d_{w:World}{b:Nat}{t a p q}(h:Hid (w.heap[b]?=some (.cells (Gl ⟨2,a,⟨#[]⟩,(0,0,⟨#[]⟩),p,q⟩).toArray t (0,0))))(c:Di a=true)(O:0<=a)(d:a<256):∃E,GN E/\(∃a,Di a=true/\E=IR a p q)/\Hid (w.heap[b]?=some (.cells (Gl E).toArray t (0,0))):=⟨IR a p q,⟨yk 20,PT,O,d⟩,⟨a,c,rfl⟩,h⟩
def tN{K d xs O b E}(c:∃ys,O=xs++ys/\Dy K d xs.length ys)(g:∃ys,b=O++ys/\Dy K d O.length ys)(i:∃a,Di a=true/\E=IR a ((O.length:Int)-1) ((b.length:Int)-1)):∃ys,b++[E]=xs++ys/\Dy K (d+1) xs.length ys:=by
 obtain⟨A,rfl,f⟩:=c;obtain⟨B,rfl,e⟩:=g;obtain⟨a,j,rfl⟩:=i;refine⟨A++(B++[IR a (((xs++A).length:Int)-1) (((xs++A++B).length:Int)-1)]),qe,.inr ⟨A,B,a,j,f,by simpa using e,?_⟩⟩;simp[WT]
def Qs.C{g b o u v w}(h:Qs g b o u v)(a:Bw v w):Qs g b o u w:=
 ⟨h.rest.c (a.j (yk _)),λk d i e f=>(a.block k (yg d h.rest.size)).c (h.block k d i e f),h.bc.C a⟩
def Qs.H{g b d o u v w}(h:Qs g b o u v)(a:Turned v w d)(hd:u.heap.size<=d)(l:g<u.heap.size):Qs g b o u w:=
 ⟨h.rest.c (a.d (yk _)),λk j i e f=>(a.block k qd).c (h.block k j i e f),h.bc.bW (a.d qd)⟩
def Fs.j{N O o o'}(h:Fs O o o')(b:N<=O):Fs N o o':=by
 rcases h with h|h
 .exact .inl h
 exact .inr λk a=>yh b (h k a)
def Xl{b base x0 x1 i k a1 a O wt m d}(f:QB wt b base x0 x1 i k a1 a O)(l:Bw wt m)(n:m.grownBy d (Value.slice a1 O.length a).ownBlock)(o:b<base) :
  At d b 3 (.slice a1 O.length a)/\d.frozen? ⟨b,3,none⟩=false:=by
 have j:b<wt.heap.size:=Ak f.1;have g:d.heap[b]?=some (.cells #[x0,x1,i,.slice a1 O.length a,k] 53 (0,0)):=by
  refine(n.block b (yg j l.size) (λe=>?_)).c ((l.block b j).c f.1);have:=(f.2.1.lt b e.y).1;omega
 exact⟨by simp[World.cell?,g],by simp[World.frozen?,g]⟩
def QB.grown{w w' b base x0 x1 f j a c xs row t}(h:QB w b base x0 x1 f j a c xs)(l:w.grownBy w' row)(g:∀k,row=some k->∃c,w.heap[k]?=some (.cells c t (0,0)))(n:t≠53)(m:t≠225):QB w' b base x0 x1 f j a c xs:=by
 refine⟨(l.block b (Ak h.1) (λe=>?_)).c h.1,Bv h.2.1 (λk i=>l.block k (h.2.1.lt k i).2 (λe=>?_)),h.2.2⟩
 .obtain⟨o,d⟩:=g b e.y;exact Cf d h.1 n
 obtain⟨o,d⟩:=g k e.y;obtain⟨p,O⟩:=AO h.2.1 i;exact Cf d O m
def Qs.grown{g b o row u v w}(h:Qs g b o u v)(d:v.grownBy w row)(f:∀k,row=some k->u.heap.size<=k)(O:g<u.heap.size):Qs g b o u w:=by
 refine⟨h.rest.grown d (yk _) (λ_ _=>yk _),λk a l i j=>(d.block k (yg a h.rest.size) (λe=>?_)).c (h.block k a l i j),h.bc.bW (An.grown d ZX (λk a=>by have:=f k a;omega))⟩;have:=f k e.y;omega
def UO{w w' base g b o e t m v n xs}(h:w.ownsRow base e m v n xs)(i:Qs g b o w w')(q:g<base)(l:b<base)(f:∀k,o=some k->∃c,w.heap[k]?=some (.cells c t (0,0)))(d:t≠e):w'.ownsRow base e m v n xs:=by
 refine Bv h λk a=>i.block k (h.lt k a).2 (by have:=(h.lt k a).1;omega) (by have:=(h.lt k a).1;omega) (λe=>?_);obtain⟨c,j⟩:=f k e;obtain⟨p,O⟩:=AO h a;exact Cf j O d
end Go.Proofs.YtikojfajahnhgaaGreat
