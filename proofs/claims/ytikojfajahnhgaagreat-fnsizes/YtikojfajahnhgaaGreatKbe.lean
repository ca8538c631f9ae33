import Derived.Test.YtikojfajahnhgaaGreatKbb
import Derived.Test.YtikojfajahnhgaaGreatKay
import Derived.Test.YtikojfajahnhgaaGreatKaq
set_option linter.all false
set_option maxHeartbeats 3200000
set_option maxRecDepth 100000
namespace Go.Proofs.YtikojfajahnhgaaGreat
attribute [local simp] At I6 Pn mzI
attribute [local go_sem] At I6 Pn
open Go.RowKit Go.Proofs.Tryz
variable{P:Prop}
def JJ{w w' base g e m v n xs}(h:w.ownsRow base e m v n xs)(b:Rs g w w')(c:g<base):w'.ownsRow base e m v n xs:=
 Bv h λk a=>b.1.block k (h.lt k a).2 (λe=>by injection e with e;have:=(h.lt k a).1;omega)
def uJ{w w' base g e m v n xs}(h:w.ownsRow base e m v n xs)(d:Rs g w w')(f:DQ w g)(a:e≠73):w'.ownsRow base e m v n xs:=
 Bv h λk b=>d.1.block k (h.lt k b).2 (λe=>by
  injection e with e
  subst e
  obtain⟨c,i⟩:=AO h b
  obtain⟨_,_,_,_,j,_⟩:=f
  exact Cf i j a)
def Rs.grown{g row u v w}(h:Rs g u v)(b:v.grownBy w row)(f:∀k,row=some k->u.heap.size<=k)(O:g<u.heap.size):Rs g u w:=
 ⟨⟨h.1.rest.grown b (yk _) (λ_ _=>yk _),λk a d=>(b.block k (yg a h.1.rest.size) (λe=>by have:=f k e.y;omega)).c (h.1.block k a d)⟩,h.2.bW (An.grown b (by have:=h.1.rest.size;omega) (λk a=>by have:=f k a;omega))⟩
abbrev MB:=Pt × Value
def CW(x:MB):List Value:=[.bool x.1.neg,.string x.1.z,x.2]
def zoe(x)(h:x.2.oneCell'=true):∀u∈CW x,u.oneCell'=true:=by
 intro u hu;simp[CW]at hu;rcases hu with rfl|rfl|rfl
 .rfl
 .rfl
 exact h
def Gb(w:World)(base:Nat)(x:MB):Prop:=(∃a c,x.2=.slice a x.1.e.length c)/\w.ownsRow base 189 6 x.2 x.1.e.length (x.1.e.flatMap Fu)/\Uv x.1.z/\x.1.e.length<=3/\∀t∈x.1.e,NP t
def PO(w:World)(base:Nat)(a:Option Addr)(c:Nat)(L:List MB):Prop:=w.ownsRow base 152 3 (.slice a L.length c) L.length (L.flatMap CW)/\∀x∈L,Gb w base x
def PO.nil(w base):PO w base none 0 []:=⟨yN _ _ _ _,λx hx=>qB⟩
def Gb.rs{w w' base g x}(h:Gb w base x)(a:Rs g w w')(b:g<base):Gb w' base x:=⟨h.1,JJ h.2.1 a b,h.2.2⟩
def PO.rs{w w' base g a c L}(h:PO w base a c L)(b:Rs g w w')(d:g<base):PO w' base a c L:=⟨JJ h.1 b d,λx e=>(h.2 x e).rs b d⟩
def Gb.C{w w' base x}(h:Gb w base x)(a:Bw w w'):Gb w' base x:=⟨h.1,AF h.2.1 a,h.2.2⟩
def PO.C{w w' base a c L}(h:PO w base a c L)(b:Bw w w'):PO w' base a c L:=⟨AF h.1 b,λx d=>(h.2 x d).C b⟩
def Gb.grown{w w' base t x row}(h:Gb w base x)(b:w.grownBy w' row)(d:∀k,row=some k->∃c,w.heap[k]?=some (.cells c t (0,0)))(a:t≠189):Gb w' base x:=⟨h.1,Hv h.2.1 b d a,h.2.2⟩
def Gb.set{w base b o t x v c e}(h:Gb w base x)(d:w.heap[b]?=some (.cells c t e))(a:t≠189):Gb (w.setCell ⟨b,o,none⟩ v) base x:=⟨h.1,Hc h.2.1 d a,h.2.2⟩
def PO.set{w base b o t a f L v c g}(h:PO w base a f L)(e:w.heap[b]?=some (.cells c t g))(d:t≠189)(O:t≠152):PO (w.setCell ⟨b,o,none⟩ v) base a f L:=⟨Hc h.1 e O,λx i=>(h.2 x i).set e d⟩
def PO.snoc{w w' base a b c d L x}(h:PO w base a c L)(hx:Gb w base x)(ho:w'.ownsRow base 152 3 (.slice b (L.length+1) d) (L.length+1) (L.flatMap CW++CW x))(e:w.grownBy w' (Value.slice a L.length c).ownBlock):PO w' base b d (L++[x]):=by
 refine⟨QV,λy hy=>?_⟩;have O:Gb w base y:=by
  exact oK
 exact O.grown (t:=152) e (λk f=>AO h.1 f) qh
def GH(K:List ByteArray)(w:World)(base:Nat)(a:Option Addr)(n c:Nat):Prop:=n<=1000/\∃ks:List ByteArray,(ks=K/\ks.length=n)/\(∀s∈ks,Uu s)/\w.ownsRow base 9 1 (.slice a n c) n (ks.map Value.string)
def GH.rs{K w w' base g a n c}(h:GH K w base a n c)(b:Rs g w w')(d:g<base):GH K w' base a n c:=by
 obtain⟨O,j,i,e,f⟩:=h;exact⟨O,j,i,e,JJ f b d⟩
def GH.on{K w base g a n c}(h:GH K w base a n c)(o:g<base):LW K w g a n:=by
 obtain⟨m,b,e,d,f⟩:=h;refine⟨qd,λj hj=>?_⟩;have O:j<b.length:=by have:=e.2;omega
 obtain⟨k,rfl,l,i,_⟩:=BM f (j:=j) (x:=.string b[j]) Mp;exact⟨k,0,b[j],rfl,qd,⟨(d _ (YI O)).1,(d _ (YI O)).2,by rw[<-e.1];exact YI O⟩,by rw[Yc];exact i⟩
def GH.q{K w base g b B t a n c cb r}(h:GH K w base a n c)(A:g<base)(p:w.heap[b]?=some (.cells cb t r))(d:t≠9)(z:w.heap.size<=B):I0 K w g b B a n:=by
 obtain⟨y,f,m,i,l⟩:=h;refine⟨qd,λj hj=>?_⟩;have O:j<f.length:=by have:=m.2;omega
 obtain⟨k,rfl,s,u,_⟩:=BM l (j:=j) (x:=.string f[j]) Mp;obtain⟨v,o⟩:=AO l (k:=k) rfl;refine⟨k,0,f[j],rfl,qd,λe=>?_,?_,⟨(i _ (YI O)).1,(i _ (YI O)).2,by rw[<-m.1];exact YI O⟩,by rw[Yc];exact u⟩
 .subst e;exact Cf p o d
 have:=Ak o;omega
def Bc(T:List TypeId)(base:Nat)(w w':World):Prop:=∀k t c,base<=k->w.heap[k]?=some (.cells c t (0,0))->t∈T->w'.heap[k]?=w.heap[k]?
def Le{T base w w' e m v n xs}(h:w.ownsRow base e m v n xs)(f:Bc T base w w')(b:e∈T):w'.ownsRow base e m v n xs:=by
 refine Bv h λk a=>?_;obtain⟨c,d⟩:=AO h a;exact f k e c (h.lt k a).1 d b
def Bc.C{T base w w'}(a:Bw w w'):Bc T base w w':=λk _ _ _ b _=>a.block k (Ak b)
def Bc.rs{T base g w w'}(a:Rs g w w')(c:g<base):Bc T base w w':=λk _ _ d b _=>a.1.block k (Ak b) (λe=>qK)
def Bc.bt{T base g w w'}(b:Rs g w w')(d:DQ w g)(f:73 ∉ T):Bc T base w w':=λk t c l a i=>b.1.block k (Ak a) (λe=>by
 injection e with e;subst e;obtain⟨_,_,_,_,j,_⟩:=d;refine Cf a j (λe=>f (e▸i)))
def Bc.grown{T base t w w' row}(d:w.grownBy w' row)(f:∀k,row=some k->∃c,w.heap[k]?=some (.cells c t (0,0)))(b:t ∉ T):Bc T base w w':=λk t' c _ a g=>d.block k (Ak a) (λe=>by
 obtain⟨i,O⟩:=f k e.y;exact Cf a O (λe=>b (e▸g)))
def Bc.kept{T base d t w w' c a}(f:∀k,k≠d->k<w.heap.size->w'.heap[k]?=w.heap[k]?)(hd:w.heap[d]?=some (.cells c t a))(b:t ∉ T):Bc T base w w':=λk t' g _ h O=>f k (λe=>by
 subst e;exact Cf h hd (λe=>b (e▸O))) (Ak h)
def Bc.c{T base u v w}(h:Bc T base u v)(O:Bc T base v w):Bc T base u w:=λk t c a d b=>(O k t c a ((h k t c a d b).c d) b).c (h k t c a d b)
def Bc.dV{T O base u v}(h:Bc T base u v)(a:∀t∈O,t∈T):Bc O base u v:=λk t c b e d=>h k t c b e (a t d)
abbrev N6:=Ac × Value
def Ff(x:N6):List Value:=[.int .i64 x.1.u,.int .i64 x.1.k,.string x.1.z,x.2]
def N9(w:World)(base:Nat)(x:N6):Prop:=(∃a c,x.2=.slice a x.1.args.length c)/\w.ownsRow base 3 1 x.2 x.1.args.length (Ax x.1.args)
def Eh(w:World)(base:Nat)(a:Option Addr)(c:Nat)(Y:List N6):Prop:=w.ownsRow base 227 4 (.slice a Y.length c) Y.length (Y.flatMap Ff)/\∀x∈Y,N9 w base x
def Eh.nil(w base):Eh w base none 0 []:=⟨yN _ _ _ _,λx hx=>qB⟩
def Eh.same{T base w w' a c Y}(h:Eh w base a c Y)(b:Bc T base w w')(f:227∈T)(e:3∈T):Eh w' base a c Y:=⟨Le h.1 b f,λx d=>⟨(h.2 x d).1,Le (h.2 x d).2 b e⟩⟩
def Eh.C{base w w' a c Y}(h:Eh w base a c Y)(b:Bw w w'):Eh w' base a c Y:=h.same (T:=[227,3]) (Bc.C b) qh qh
def Eh.rs{base g w w' a c Y}(h:Eh w base a c Y)(b:Rs g w w')(d:g<base):Eh w' base a c Y:=h.same (T:=[227,3]) (Bc.rs b d) qh qh
def Eh.H{base d w w' a c Y O i}(h:Eh w base a c Y)(e:Turned w w' d)(hd:∀k,(Value.slice a Y.length c).ownBlock=some k->k≠d)(g:w.heap[d]?=some (.cells O 227 i)):Eh w' base a c Y:=
 ⟨Bv h.1 (λk b=>e.block k (hd k b)),λx f=>⟨(h.2 x f).1,Le (h.2 x f).2 (T:=[3]) (Bc.kept (λk b _=>e.block k b) g qh) qh⟩⟩
def Eh.qs{base g b o w w' a c Y}(h:Eh w base a c Y)(i:Qs g b o w w')(d:g<base)(e:b<base)(f:∀k,o=some k->∃c,w.heap[k]?=some (.cells c 225 (0,0))):Eh w' base a c Y:=
 ⟨UO h.1 i d e f qh,λx j=>⟨(h.2 x j).1,UO (h.2 x j).2 i d e f qh⟩⟩
structure GI where
 nm:ByteArray
 W:Int
 pv:Value
 ev:Value
 av:Value
 v:List MB
 es:List Ex
 E:List N6
def GI.ru(x:GI):Ru:=⟨x.nm,x.W,x.v.map Prod.fst,x.es,x.E.map Prod.fst⟩
def Eb(x:GI):List Value:=[.string x.nm,.int .i64 x.W,x.pv,x.ev,x.av]
def Nn:List TypeId:=[152,189,225,227,3]
def IY(w:World)(base:Nat)(x:GI):Prop:=(∃a c,x.pv=.slice a x.v.length c/\PO w base a c x.v)/\(∃a c,x.ev=.slice a x.es.length c/\w.ownsRow base 225 8 (.slice a x.es.length c) x.es.length (x.es.flatMap Gl)/\∀e∈x.es,GN e)/\∃a c,x.av=.slice a x.E.length c/\Eh w base a c x.E
def PO.same{T base w w' a c L}(h:PO w base a c L)(d:Bc T base w w')(f:152∈T)(e:189∈T):PO w' base a c L:=⟨Le h.1 d f,λx b=>⟨(h.2 x b).1,Le (h.2 x b).2.1 d e,(h.2 x b).2.2⟩⟩
def IY.same{base w w' x}(h:IY w base x)(b:Bc Nn base w w'):IY w' base x:=by
 obtain⟨⟨a,c,e,j⟩,⟨m,f,k,d,i⟩,O,n,l,g⟩:=h;exact⟨⟨a,c,e,j.same b qh qh⟩,⟨m,f,k,Le d b qh,i⟩,O,n,l,g.same b qh qh⟩
def IY.lower{base base' w x}(h:IY w base x)(d:base'<=base):IY w base' x:=by
 obtain⟨⟨a,c,e,f⟩,⟨l,i,o,n,j⟩,O,m,k,g⟩:=h;exact⟨⟨a,c,e,CA f.1 d,λy b=>⟨(f.2 y b).1,CA (f.2 y b).2.1 d,(f.2 y b).2.2⟩⟩,⟨l,i,o,CA n d,j⟩,O,m,k,CA g.1 d,λy b=>⟨(g.2 y b).1,CA (g.2 y b).2 d⟩⟩
def RO(w:World)(base:Nat)(a:Option Addr)(c:Nat)(M:List GI):Prop:=w.ownsRow base 53 5 (.slice a M.length c) M.length (M.flatMap Eb)/\∀x∈M,IY w base x
def RO.nil(w base):RO w base none 0 []:=⟨yN _ _ _ _,λx hx=>qB⟩
def RO.same{base w w' a c M}(h:RO w base a c M)(b:Bc (53::Nn) base w w'):RO w' base a c M:=⟨Le h.1 b qh,λx e=>(h.2 x e).same (b.dV (λt d=>YH _ d))⟩
def RO.lower{base base' w a c M}(h:RO w base a c M)(b:base'<=base):RO w base' a c M:=⟨CA h.1 b,λx d=>(h.2 x d).lower b⟩
def RO.C{base w w' a c M}(h:RO w base a c M)(b:Bw w w'):RO w' base a c M:=h.same (Bc.C b)
def RO.rs{base g w w' a c M}(h:RO w base a c M)(b:Rs g w w')(d:g<base):RO w' base a c M:=h.same (Bc.rs b d)
def RO.bt{base g w w' a c M}(h:RO w base a c M)(b:Rs g w w')(d:DQ w g):RO w' base a c M:=h.same (Bc.bt b d qh)
section
attribute [local go_sem ↓] wp_at_zero wp_at_succ
def Hg(i:Nat)(x p0 p1 p2:Value):Array Value:=#[if i=0 then x else p0,if i=1 then x else p1,if i=2 then x else p2]
def ZJ(h:P:=by exact(((B0.o.setCell (by simp) _).setCell (by simp) _).setCell (by simp) _).setCell (by simp) _):=h
def Tu(b a c x)(i:Nat)(w)(p:i<3) :
  Ca 114 #[.agg #[.pointer b,.pointer a,.pointer c],I6 (i:Int),.pointer x] w λe w'=>e=.returned (.agg (Hg i (.pointer x) (.pointer b) (.pointer a) (.pointer c)))/\Bw w w':=by
 go_enter func114,ntmps114;go_upto_region 1 with fail;refine BF ?_;intro w0 k g O;have f:∀j,w0.frozen? ⟨w.heap.size,j,none⟩=false:=λj=>by simp[World.frozen?,g]
 have d:∀j,w0.frozen? ⟨w.heap.size+1,j,none⟩=false:=λj=>by simp[World.frozen?,O]
 obtain⟨r,a1,q⟩:=Ao g;obtain⟨s,y,u⟩:=Ao O;have x0:=f 0;have x1:=f 1;have m:=f 2;have t:=d 0;have l:=d 1;have n:=d 2;have B0:=Aa k;have hl:w.heap.size+1<w0.heap.size:=Ak O;clear k g O f d;rcases i with _|_|_|i
 .go_wp2_with fail;refine bodyPost_ret (v:=.agg (Hg 0 (.pointer x) (.pointer b) (.pointer a) (.pointer c))) ZY rfl ⟨rfl,?_⟩;exact ZJ
 .go_wp2_with fail;refine bodyPost_ret (v:=.agg (Hg 1 (.pointer x) (.pointer b) (.pointer a) (.pointer c))) ZY rfl ⟨rfl,?_⟩;exact ZJ
 .go_wp2_with fail;refine bodyPost_ret (v:=.agg (Hg 2 (.pointer x) (.pointer b) (.pointer a) (.pointer c))) ZY rfl ⟨rfl,?_⟩;exact ZJ
 omega
end
def Of:(prog.info? 145).map (λi=>(i.zero,i.size,i.bytes))=some (some (.agg #[I6 0,.string ByteArray.empty,.slice none 0 0]),3,48):=qg
structure JF(w:World) (g:Nat) (N:Nat) (fs:List F) (gs:List Nat):Prop where
 len:gs.length=fs.length
 Q:Bq w g 145 3 N ((fs.zip gs).map λp=>A4 p.1 (.slice (some ⟨p.2,0,none⟩) p.1.s.length p.1.s.length))
 P:∀(i:Nat)(f:F)(h:Nat),fs[i]?=some f->gs[i]?=some h->Bq w h 187 3 f.s.length (f.s.map V.cells)
 gt:∀h∈gs,g<h
 nodup:gs.Nodup
def JF.at{w g N fs gs}(h:JF w g N fs gs):Bz w (some ⟨g,0,none⟩) fs:=by
 intro i f b;obtain⟨a,rfl⟩:=ye.1 b;have c:gs[i]?=some (gs[i]'(by rw[h.len];exact a)):=yH _;have O:((fs.zip gs).map λp=>A4 p.1 (.slice (some ⟨p.2,0,none⟩) p.1.s.length p.1.s.length))[i]?=some (A4 fs[i] (.slice (some ⟨gs[i]'(by rw[h.len];exact a),0,none⟩) fs[i].s.length fs[i].s.length)):=by
  rw[yA,WM (z:=(fs[i],gs[i]'(by rw[h.len];exact a))) |>.2 ⟨b,c⟩];rfl
 refine⟨g,0,rfl,?_,?_,some ⟨gs[i]'(by rw[h.len];exact a),0,none⟩,fs[i].s.length,?_,Bt.Q (h.P i _ _ b c)⟩
 .simpa using h.Q.cell O (j:=0) rfl
 .simpa using h.Q.cell O (j:=1) rfl
 simpa using h.Q.cell O (j:=2) rfl
def JF.lt{w g N fs gs}(h:JF w g N fs gs):g<w.heap.size/\∀x∈gs,x<w.heap.size:=by
 refine⟨h.Q.lt,λx b=>?_⟩;obtain⟨i,a,rfl⟩:=Wc b;have c:i<fs.length:=by rw[<-h.len];exact a
 exact(h.P i fs[i] gs[i] (yH c) (yH a)).lt
def JF.d{w w' g N B fs gs}(h:JF w g N fs gs)(b:Below B w w')(e:w.heap.size<=B):JF w' g N fs gs:=by
 have hl:=h.lt;refine⟨h.len,h.Q.d b qd,λi f x c a=>(h.P i f x c a).d b ?_,h.gt,h.nodup⟩;have:=hl.2 x (yd a);omega
def JF.step{w w' g N k h fs gs f}(H:JF w g N fs gs)(m:Bw w w')(u:Bq w' h 187 3 f.s.length (f.s.map V.cells))(y:w.heap.size<=h)(p:fs.length=k)(v:k<N) :
  JF (((w'.setCell ⟨g,k*3,none⟩ (I6 f.tag)).setCell ⟨g,k*3+1,none⟩ (.string f.z)).setCell ⟨g,k*3+2,none⟩ (.slice (some ⟨h,0,none⟩) f.s.length f.s.length)) g N (fs++[f]) (gs++[h]):=by
 have hl:=H.lt;have n:=H.d m AH;have o:gs.length=k:=by rw[H.len,p]
 refine⟨by simp[H.len],?_,?_,?_,?_⟩
 .have:=n.Q.dS (k:=k) (by simp[H.len,p]) v (I6 f.tag) (.string f.z) (.slice (some ⟨h,0,none⟩) f.s.length f.s.length);rw[Zj (by rw[H.len]),yF];exact this
 .intro i l x j c;have O:x≠g:=by
   have:x∈gs++[h]:=yd c;rcases yn.1 this with e|e
   .have:=H.gt x e;omega
   simp at e;omega
  have key:Bq w' x 187 3 l.s.length (l.s.map V.cells):=by
   by_cases q:i<fs.length
   .rw[yr q]at j;rw[yr qd]at c;exact n.P i l x j c
   have t:i<(fs++[f]).length:=(ye.1 j).1;simp at t;obtain rfl:i=fs.length:=qd;rw[yx AH]at j;rw[yx qd]at c;simp at j;subst j;rw[show fs.length-gs.length=0 by omega]at c;simp at c;subst c;exact u
  exact((key.aY O _).aY O _).aY O _
 .intro x c;rcases yn.1 c with e|e
  .exact H.gt x e
  simp at e;omega
 rw[yK];refine⟨H.nodup,qe,λa r b m=>?_⟩;simp at m;have:=hl.2 a r;omega
section
attribute [local go_sem ↓] wp_at_zero wp_at_succ
def Tw(a n c z vs f w)(hv:Bt w a vs)(B:Bt w n f)(hl:vs.length<=1048576) :
  Ca 175 #[.slice a vs.length c,.slice n f.length z] w λe w'=>
   e=.returned (.bool (decide (vs=f)))/\Below w.heap.size w w':=by
 by_cases O:vs.length=f.length
 .have A:((vs.length:Int) != (f.length:Int))=false:=by simp;omega
  have I:Hid (vs.length=f.length):=O;have W:vs.length<=f.length:=qd;have N:f.length<=vs.length:=qd;clear O;go_enter func175,ntmps175;go_wp2
  go_loopw [13] (λi wr=>∃(k:Nat),k<=vs.length/\i=.int .i64 k/\decide (vs=f)=decide (vs.drop k=f.drop k)/\Below w.heap.size w wr) (λi _=>vs.length-(intOf i).toNat)
  case atStart=>exact⟨0,qd,rfl,rfl,yX _ _⟩
  case round=>
   obtain⟨k,R,rfl,x,g⟩:=hrel;have j:Hid (decide (vs=f)=decide (vs.drop k=f.drop k)):=x;clear x;by_cases C:k<vs.length
   .obtain⟨v,q⟩:∃v,vs[k]?=some v:=⟨vs[k],by simp[C]⟩
    obtain⟨u,s⟩:∃u,f[k]?=some u:=⟨f[k]'(by omega),qe⟩
    obtain⟨b,o,rfl,T,L,D⟩:=hv.d g k v q;obtain⟨l,o',rfl,H,U,M⟩:=B.d g k u s;have t:Hid (vs.drop k=v::vs.drop (k+1)):=CF q;have y:Hid (f.drop k=u::f.drop (k+1)):=CF s;have E:(0:Int)<=(k:Int):=qd;have G:(k:Int)<(vs.length:Int):=qd;have K:(k:Int)<(f.length:Int):=qd;cases m:(v.u==u.u)<;>cases p:(v.num==u.num)<;>cases r:(v.J.toList==u.J.toList)
    all_goals
     go_wp2
     go_region_held3 (λw'=>w'.cell? ⟨b,o+k*3,none⟩=some (.int .i64 v.u)/\w'.cell? ⟨b,o+k*3+1,none⟩=some (.int .i64 v.num)/\w'.cell? ⟨b,o+k*3+2,none⟩=some (.string v.J)/\w'.cell? ⟨l,o'+k*3,none⟩=some (.int .i64 u.u)/\w'.cell? ⟨l,o'+k*3+1,none⟩=some (.int .i64 u.num)/\w'.cell? ⟨l,o'+k*3+2,none⟩=some (.string u.J)) (go_keep) (fail)
     go_wp2
    all_goals
     first
     | (go_roundw
        case rel=>exact⟨k+1,qd,qm,by rw[j.o,t.o,y.o,tY (veq m p r)],g.drew⟩
        case measure=>simp[intOf];omega)
     | (go_ret
        exact⟨AL (by rw[j.o,t.o,y.o,uE (by rintro rfl;simp at m p r)]),g.drew⟩)
   go_wp2;go_ret;exact⟨AL (by rw[j.o,yy qd,yy qd];rfl),g⟩
 have A:((vs.length:Int) != (f.length:Int))=true:=by simp;omega
 go_enter func175,ntmps175;go_wp2;go_ret;exact⟨AL (by rw[decide_eq_false (λe=>O Gx)]),yX _ _⟩
def M8(v w) :
  Ca 267 #[.agg #[I6 v.u,I6 v.num,.string v.J]] w λe w'=>
   e=.returned (.bool (Cc v))/\Bw w w':=by
 go_enter func267,ntmps267;go_wp2
 all_goals go_ret
 all_goals exact⟨AL (by simp[Cc,BG, *]),Aj⟩
def ziq(t w)(n:t.le maxLen) :
  Ca 266 #[.agg #[I6 t.u,I6 t.op,.string t.A,I6 t.val.u,I6 t.val.num,.string t.val.J]] w λe w'=>
   e=.returned (.bool (CY t))/\Bw w w':=by
 obtain ⟨c,l⟩:=n;obtain ⟨G⟩:Nonempty (Hid (CY t=if t.u==0 then t.op==0 && (BG t.A && Cc t.val)
  else if t.u==1 then t.op==0&&(BG t.A&&Bf t.val)
  else if t.u==2 then t.op==0&&(Aq t.A.data.toList&&Cc t.val)
  else if t.u==3 then decide (1<=t.op)&&(decide (t.op<=6)&&((BG t.A&&Bf t.val)||(Aq t.A.data.toList&&Cc t.val)))
  else false)):=⟨rfl⟩
 unfold BG at G;by_cases i:t.u=0
 .have O:(t.u==0)=true:=by simp[i]
  cases h1:(t.op==0)<;>cases b:t.A.toList.isEmpty<;>cases h3:Cc t.val
  all_goals
   go_enter func266,ntmps266;go_wp2_with (go_at_call 267;refine(M8 t.val _).rtn λw' a=>?_)
  all_goals try go_ret
  all_goals first
   |exact⟨AL (by rw[G.o,O,h1,b,h3];rfl),Aj⟩
   |exact⟨AL (by rw[G.o,O,h1,b,h3];rfl),Aj.thn a⟩
 by_cases g:t.u=1
 .have e1:(t.u==1)=true:=by simp[g]
  have O:(t.u==0)=false:=by simp[g]
  cases h1:(t.op==0)<;>cases b:t.A.toList.isEmpty<;>cases h3:Bf t.val
  all_goals
   go_enter func266,ntmps266;go_wp2_with (go_at_call 176;refine(Tz t.val _ l).rtn λw' a=>?_)
  all_goals try go_ret
  all_goals first
   |exact⟨AL (by rw[G.o,O,e1,h1,b,h3];rfl),Aj⟩
   |exact⟨AL (by rw[G.o,O,e1,h1,b,h3];rfl),Aj.thn a⟩
 by_cases k2:t.u=2
 .have e2:(t.u==2)=true:=Hy;have e1:(t.u==1)=false:=Hy;have O:(t.u==0)=false:=Hy;cases h1:(t.op==0)<;>cases b:Aq t.A.data.toList<;>cases h3:Cc t.val
  all_goals
   go_enter func266,ntmps266;go_wp2_with (first|(go_at_call 116;refine(He t.A _ c).j ?_;rintro e w' ⟨rfl,rfl⟩)|(go_at_call 267;refine(M8 t.val _).rtn λw' a=>?_))
  all_goals try go_ret
  all_goals first
   |exact⟨AL (by rw[G.o,O,e1,e2,h1,b,h3];rfl),Aj⟩
   |exact⟨AL (by rw[G.o,O,e1,e2,h1,b,h3];rfl),Aj.thn a⟩
 have e2:(t.u==2)=false:=QX;have e1:(t.u==1)=false:=by simpa using g
 have O:(t.u==0)=false:=by simpa using i
 by_cases k3:t.u=3
 .have e3:(t.u==3)=true:=Lt;by_cases f:1<=t.op/\t.op<=6
  .obtain⟨o1,o2⟩:=f;cases h1:t.A.toList.isEmpty
   .cases h4:Aq t.A.data.toList<;>cases h3:Cc t.val
    all_goals
     go_enter func266,ntmps266;go_wp2_with (first|(go_at_call 116;refine(He t.A _ c).j ?_;rintro e w' ⟨rfl,rfl⟩)|(go_at_call 267;refine(M8 t.val _).rtn λw' a=>?_))
    all_goals try go_ret
    all_goals first
     |exact⟨AL pp,Aj⟩
     |exact⟨AL pp,Aj.thn a⟩
   have h4:Aq t.A.data.toList=false:=Te (by
    have:t.A.toList=[]:=qw;rw[<-WP,this];rfl)
   cases b:Bf t.val
   all_goals
    go_enter func266,ntmps266;go_wp2_with (first|(go_at_call 116;refine(He t.A _ c).j ?_;rintro e w' ⟨rfl,rfl⟩)|(go_at_call 176;refine(Tz t.val _ l).rtn λm k=>?_;have p:At m w.heap.size 2 (.string t.A):=zab k ql))
   all_goals try go_ret
   all_goals exact⟨AL (by rw[G.o,O,e1,e2,e3,h1,b,h4,decide_eq_true o1,decide_eq_true o2];rfl),Aj.thn k⟩
  obtain⟨D⟩:Nonempty (Hid (∀z,(decide (1<=t.op)&&(decide (t.op<=6)&&z))=false)):=⟨λz=>by
   by_cases h:1<=t.op
   .have d:¬t.op<=6:=λd=>f ⟨h,d⟩;rw[decide_eq_false d];simp
   rw[decide_eq_false h];rfl⟩
  by_cases o1:1<=t.op
  focus
   have o2:¬t.op<=6:=λh=>f ⟨o1,h⟩
  rotate_left;rotate_left
  all_goals
   go_enter func266,ntmps266;go_wp2;go_ret;exact⟨AL (by rw[G.o,O,e1,e2,e3];first|exact D.o _|exact(D.o _).y),Aj⟩
 have e3:(t.u==3)=false:=by simpa using k3
 go_enter func266,ntmps266;go_wp2;go_ret;exact⟨AL (by rw[G.o,O,e1,e2,e3];rfl),Aj⟩
def Ln(s w)(b:s.size<=maxLen) :
  Ca 265 #[.string s] w λe w'=>e=.returned (.bool (DH s))/\w'=w:=by
 cases a:Aq s.data.toList
 all_goals
  go_enter func265,ntmps265;go_wp2_with (go_at_call 116;refine(He s _ b).j ?_;rintro e w' ⟨rfl,rfl⟩);go_ret
 .exact⟨AL (by simp[DH,a]),rfl⟩
 exact⟨AL (by rw[DH,a,<-EZ,lR];rfl),rfl⟩
def zjr(x a c){q}(w)(hv:E_ q w a x.e)(hc:x.z.size<=maxLen)(hs:EW Tm.le maxLen x.e)(hl:x.e.length<=1048576) :
  Ca 233 #[.agg #[.bool x.neg,.string x.z,.slice a x.e.length c]] w λe w'=>
   e=.returned (.bool (C_ x))/\Bw w w':=by
 exact rE
def Lq(_:World)(r:List Value)(x:ByteArray):Prop:=r=[.string x]
def vD{w w' r x}(h:Lq w r x):Lq w' r x:=h
abbrev Hr(q:Option Nat)(w:World)(a:Option Addr)(xs:List ByteArray):Prop:=Cr Lq q 9 1 w a xs
def Hr.d{q w w' a xs}(h:Hr q w a xs)(b:Bw w w'):Hr q w' a xs:=Cr.d h (λ_ _ _ h=>vD h) b
def Hr.get{q w a xs i x}(h:Hr q w a xs)(g:xs[i]?=some x):∃b o,a=some ⟨b,o,none⟩/\Qb q w 9 b/\At w b (o+i) (.string x):=by
 obtain⟨b,o,r,f,d,j,e,c⟩:=h i x g;unfold Lq at c;subst c;exact⟨b,o,f,d,by simpa using e 0 _ rfl⟩
def Vv(s a c xs w){q}(hv:Hr q w a xs)(hl:xs.length<=1048576) :
  Ca 106 #[.string s,.slice a xs.length c] w λe w'=>e=.returned (.bool (Bu s xs))/\w'=w:=by
 go_enter func106,ntmps106;go_wp2
 go_loopw [9] (λi wr=>∃(k:Nat),k<=xs.length/\i=I6 k/\Bu s xs=Bu s (xs.drop k)/\wr=w) (mz xs.length)
 case atStart=>exact⟨0,qd,rfl,rfl,rfl⟩
 case round=>
  obtain⟨k,r,rfl,j,l⟩:=hrel;subst l;have f:Hid (Bu s xs=Bu s (xs.drop k)):=j;clear j;by_cases n:k<xs.length
  .obtain⟨x,O⟩:=Ba n;obtain⟨b,o,rfl,p,t⟩:=hv.get O;have g:Hid (xs.drop k=x::xs.drop (k+1)):=CF O;cases d:(s.toList==x.toList)
   all_goals go_wp2
   .go_roundw
    case rel=>
     refine⟨k+1,qd,qm,?_,(by first|rfl|trivial)⟩;rw[EZ]at d;have:x≠s:=λh=>by subst h;simp at d
     rw[f.o,g.o];simp[Bu,this]
    case measure=>(simp;omega)
   go_ret;rw[EZ]at d;have m:s=x:=by simpa using d
   exact⟨AL (by rw[f.o,g.o];simp[Bu,m]),rfl⟩
  go_wp2;go_ret;exact⟨AL (by rw[f.o,yy qd];rfl),rfl⟩
def Tv(a c es S)(x:Nat)(s w){q}(hv:Dt q w a es)(hS:AU es S)(y:S[x]?=some s) :
  Ca 236 #[.slice a es.length c,.int .i64 (x:Int)] w λe w'=>e=.returned (.int .i64 (s.1:Int))/\w'=w:=by
 have l:=hS.1;go_enter func236,ntmps236;go_wp2
 go_loopw [1] (λi wr=>∃(k:Nat)(t:Sp),i=.int .i64 k/\S[k]?=some t/\t.1=s.1/\wr=w) (λi _=>(intOf i).toNat)
 case atStart=>exact⟨x,s,rfl,y,rfl,rfl⟩
 case round=>
  obtain⟨k,t,rfl,f,g,v⟩:=hrel;subst v;have R:k<S.length:=(ye.1 f).1;obtain⟨e,O⟩:∃e,es[k]?=some e:=⟨es[k]'(by omega),qe⟩
  have K:k<es.length:=qd;obtain⟨b,o,rfl,B,J,H,z,M,I,N,p,E⟩:=hv.get O;by_cases j:e.u=2
  .obtain⟨m,G,sa,sb,n,D,C,L,r,A,d⟩:=hS.op f O j;rw[n]at p;go_wp2;go_roundw
   case rel=>exact⟨m,sa,rfl,r,(by rw[<-g,d]),(by first|rfl|trivial)⟩
   case measure=>simp[intOf];omega
  have d:=hS.bB f O j;go_wp2;go_ret;refine⟨?_,rfl⟩;rw[<-g,d];rfl
def lw(a c es){q}(x g l f d:Nat)(e w)(hv:Dt q w a es)(O:es[x]?=some e)(L:e.u=2)(i:e.a=(g:Int))(k:e.b=(l:Int))(N:f<=20)(I:d<=20)(y:Ca 269 #[.slice a es.length c,I6 (g:Int)] w λe w'=>e=.returned (I6 (f:Int))/\w'=w)(r:Ca 269 #[.slice a es.length c,I6 (l:Int)] w λe w'=>e=.returned (I6 (d:Int))/\w'=w) :
  Ca 269 #[.slice a es.length c,I6 (x:Int)] w λe w'=>e=.returned (I6 ((1+max f d:Nat):Int))/\w'=w:=by
 have H:x<es.length:=(ye.1 O).1;obtain⟨b,o,rfl,n,K,v,m,A,z,B,t,s⟩:=hv.get O;rw[i]at t;rw[k]at s;have tok:True:=trivial;clear n v m A z B hv i k O;by_cases G:(f:Int)<(d:Int)
 all_goals
  go_enter func269,ntmps269;go_wp2_with (first|(go_at_call 269;have _t:=tok;refine y.j ?_;rintro J M ⟨rfl,C⟩;subst C;clear tok)|(go_at_call 269;refine r.j ?_;rintro D E ⟨rfl,p⟩;subst p));go_ret;refine⟨EB ?_,rfl⟩;omega
def m9(a c es S){q}(w)(hv:Dt q w a es)(hS:AU es S):∀(x:Nat)(s:Sp),S[x]?=some s ->
  Ca 269 #[.slice a es.length c,I6 (x:Int)] w λe w'=>e=.returned (I6 (s.2:Int))/\w'=w:=by
 have m:=hS.1;intro x
 induction x using Nat.strongRecOn with
 |_ x ih=>
  intro s g;have I:x<S.length:=(ye.1 g).1;obtain⟨e,O⟩:∃e,es[x]?=some e:=⟨es[x]'(by omega),qe⟩
  have B:x<es.length:=qd;by_cases i:e.u=2
  .obtain⟨d,j,sa,sb,n,p,G,C,l,k,f⟩:=hS.op g O i;have:=lw a c es x d j sa.2 sb.2 e w hv O i n p (hS.aJ d sa l) (hS.aJ j sb k) (ih d qd sa l) (ih j qd sb k);rw[f];exact this
  have f:=hS.bB g O i;obtain⟨b,o,rfl,y,A,v,r,D,z,E,t,H⟩:=hv.get O;go_enter func269,ntmps269;go_wp2;go_ret;exact⟨by rw[f];rfl,rfl⟩
def zir(x:Ru)(a m f c j g){q}(w)(O:Ez q w a x.v)(hl:x.v.length<=1048576) :
  Ca 54 #[.agg #[.string x.name,I6 x.W,.slice a x.v.length m,.slice f x.w.length c,.slice j x.E.length g]] w λe w'=>
   e=.returned (I6 (Ad x.v:Int))/\Bw w w':=by
 go_enter func54,ntmps54;exact oq
def zjv{es S}(h:AU es S){i:Nat}{s}(a:S[i]?=some s):s.1<=es.length:=by
 have:=h.aZ i s a;have b:i<S.length:=(ye.1 a).1;have:=h.1;omega
def zjR{w:World}{b g o i x}(h:b≠g):(w.setCell ⟨g,i,none⟩ x).cell? ⟨b,o,none⟩=w.cell? ⟨b,o,none⟩:=by
 unfold World.cell?;rw[yE _ _ _ _ h]
def JQ{S x r nx}:DR S (x::r) nx=if decide (0<=x)&&(decide (x<(S.length:Int))&&decide ((S[x.toNat]?.getD (0,0)).1=nx)) then DR S r (x.toNat+1) else none:=rfl
def JP(y a d c b x)(i:(y.u==1)=a)(e:(y.u==2)=d)(g:(y.u==3)=c)(f:(y.u==4)=b)(h:x=(if a then DH y.z&&y.k==0
  else if d then(y.z.toList.isEmpty&&(decide (-1000000<=y.k)&&decide (y.k<=1000000)))&&((y.args.length:Int)==0)
  else if c then y.z.toList.isEmpty&&(decide (-1000000<=y.k)&&decide (y.k<=1000000))
  else if b then y.z.toList.isEmpty&&(y.k==0&&((y.args.length:Int)==0))
  else false)):x=Dv y:=by
 have L:y.args.isEmpty=((y.args.length:Int)==0):=by
  cases y.args with
  |nil=>rfl
  |cons v r=>simp;omega
 rw[h,<-i,<-e,<-g,<-f,<-L];rfl
def pJ(h:P:=by
 cases hg:DH y.z
 all_goals
  go_enter func251,ntmps251;go_wp2_with (go_at_call 248;refine(Tx y.z _ hcl).j ?_;rintro e w' ⟨rfl,rfl⟩);go_ret;exact⟨AL (JP y true false false false _ (by simp[k1]) (by simp[k1]) (by simp[k1]) (by simp[k1]) (by simp[hg])),Aj⟩
 ):=h
def Zf(y a b w)(hcl:y.z.size<=maxLen) :
  Ca 251 #[.agg #[I6 y.u,I6 y.k,.string y.z,.slice a y.args.length b]] w λe w'=>
   e=.returned (.bool (Dv y))/\Bw w w':=by
 cases c:y.z.toList.isEmpty
 .by_cases k1:y.u=1
  .exact pJ
  by_cases k2:y.u=2
  .go_enter func251,ntmps251;go_wp2;go_ret;exact⟨AL (JP y false true false false _ Hy Hy Hy Hy (by simp[c])),Aj⟩
  by_cases k3:y.u=3
  .go_enter func251,ntmps251;go_wp2;go_ret;exact⟨AL (JP y false false true false _ Lt Lt Lt Lt (by simp[c])),Aj⟩
  by_cases k4:y.u=4
  .go_enter func251,ntmps251;go_wp2;go_ret;exact⟨AL (JP y false false false true _ IQ IQ IQ IQ (by simp[c])),Aj⟩
  go_enter func251,ntmps251;go_wp2;go_ret;exact⟨AL (JP y false false false false _ (by simpa using k1) QX (by simpa using k3) (by simpa using k4) rfl),Aj⟩
 have i:(-1000000<=y.k/\y.k<=1000000)∨(¬-1000000<=y.k/\y.k<=1000000)∨(-1000000<=y.k/\¬y.k<=1000000):=qd;rcases i with⟨f,d⟩|⟨f,d⟩|⟨f,d⟩
 all_goals
  by_cases k1:y.u=1
  .exact pJ
  by_cases k2:y.u=2
  .go_enter func251,ntmps251;go_wp2;go_ret;exact⟨AL (JP y false true false false _ Hy Hy Hy Hy (by simp[c,f,d]<;>intros<;>omega)),Aj⟩
  by_cases k3:y.u=3
  .go_enter func251,ntmps251;go_wp2;go_ret;exact⟨AL (JP y false false true false _ Lt Lt Lt Lt (by simp[c,f,d]<;>intros<;>omega)),Aj⟩
  by_cases k4:y.u=4
  .by_cases g:y.k=0
   .first
    |(exfalso;omega)
    | (go_enter func251,ntmps251
       go_wp2;go_ret;exact⟨AL (JP y false false false true _ IQ IQ IQ IQ (by simp[c,g])),Aj⟩)
   go_enter func251,ntmps251;go_wp2;go_ret;exact⟨AL (JP y false false false true _ IQ IQ IQ IQ (by simp[c,g])),Aj⟩
  go_enter func251,ntmps251;go_wp2;go_ret;exact⟨AL (JP y false false false false _ (by simpa using k1) QX (by simpa using k3) (by simpa using k4) rfl),Aj⟩
def pY(h:P:=by refine bodyPost_ret (v:=.tuple #[I6 (nx:Int),.bool false]) (by simp[results,results200,go_sem]) rfl ⟨⟨nx,by rw[HN.o];rfl,λn h=>(by rw[HN.o]at h;cases h)⟩,Aj.thn hb'⟩):=h
def Zx(h:P:=by go_wp2;refine bodyPost_ret (v:=.tuple #[I6 (O:Int),.bool false]) (by simp[results,results200,go_sem]) rfl ⟨⟨O,by rw[HN.o];rfl,λn h=>(by rw[HN.o]at h;cases h)⟩,hb⟩):=h
def mm(y a c A K S)(nx:Nat){q q'}(w)(f:CU q w a y.args)(hv:Gs q' w A S)(hl:S.length<=60)(g:y.z.size<=maxLen)(L:y.args.length<=1048576)(r:nx<=60) :
  Ca 200 #[.agg #[I6 y.u,I6 y.k,.string y.z,.slice a y.args.length c],.slice A S.length K,I6 (nx:Int)] w λe w'=>
   (∃v:Int,e=.returned (.tuple #[I6 v,.bool (BO S y nx).isSome])/\∀n,BO S y nx=some n->v=(n:Int)/\n<=60)/\Bw w w':=by
 obtain⟨G⟩:Nonempty (Hid (BO S y nx=if Dv y&&decide (y.args.length<=6) then DR S y.args nx else none)):=⟨rfl⟩
 cases m:Dv y
 .have HN:Hid (BO S y nx=none):=show BO S y nx=none from by rw[G.o,m];rfl
  go_enter func200,ntmps200;go_wp2_with (go_at_call 251;refine(Zf y a c _ g).rtn λw' hb'=>?_);exact pY
 by_cases hn:6<y.args.length
 .have J:(6:Int)<(y.args.length:Int):=qd;have HN:Hid (BO S y nx=none):=show BO S y nx=none from by rw[G.o,m,decide_eq_false qd];rfl
  go_enter func200,ntmps200;go_wp2_with (go_at_call 251;refine(Zf y a c _ g).rtn λw' hb'=>?_;have x:At w' w.heap.size 3 (.slice a y.args.length c):=zab hb' ql);exact pY
 have J:¬(6:Int)<(y.args.length:Int):=qd;have E:Hid (BO S y nx=DR S y.args nx):=show BO S y nx=_ from by rw[G.o,m,decide_eq_true qd];rfl
 go_enter func200,ntmps200;go_wp2_with (go_at_call 251;refine(Zf y a c _ g).rtn λw' hb'=>?_;have x:At w' w.heap.size 3 (.slice a y.args.length c):=zab hb' ql);have H:Bw w w':=Aj.thn hb';clear x hb'
 go_loopw [2,23] (λn i wr=>∃(k O:Nat),k<=y.args.length/\i=I6 k/\n=I6 (O:Int)/\O<=60/\DR S y.args nx=DR S (y.args.drop k) O/\Bw w wr) (λ_ i _=>y.args.length-(intOf i).toNat)
 case atStart=>exact⟨0,nx,qd,rfl,rfl,r,rfl,H⟩
 case round=>
  obtain⟨k,O,hk,rfl,rfl,I,D,hb⟩:=hrel;have HG:Hid (BO S y nx=DR S (y.args.drop k) O):=show BO S y nx=_ from by rw[E.o,D]
  clear D;by_cases M:k<y.args.length
  .obtain⟨v,C⟩:=Ba M;obtain⟨b,o,rfl,R,c0⟩:=(f.d hb).get C;have l:Hid (y.args.drop k=v::y.args.drop (k+1)):=CF C;by_cases N:v<0
   .have HN:Hid (BO S y nx=none):=show BO S y nx=none from by
     rw[HG.o,l.o,JQ,decide_eq_false qd];rfl
    exact Zx
   by_cases v1:(S.length:Int)<=v
   .have HN:Hid (BO S y nx=none):=show BO S y nx=none from by
     rw[HG.o,l.o,JQ,decide_eq_false (p:=v<(S.length:Int)) qd];simp
    exact Zx
   obtain⟨j,rfl⟩:=Yf (show 0<=v by omega);have Y:j<S.length:=qd;obtain⟨s,t⟩:∃s,S[j]?=some s:=⟨S[j],qe⟩
   obtain⟨U,o',rfl,Z,W,d1⟩:=(hv.d hb).get t;have T:¬S.length<=j:=qd;cases B:((s.1:Int) != (O:Int))
   .have HN:Hid (BO S y nx=DR S (y.args.drop (k+1)) (j+1)):=show BO S y nx=_ from by
     have:s.1=O:=by(simp at B;omega)
     rw[HG.o,l.o,JQ,decide_eq_true qd,decide_eq_true qd,YG,t,YE,decide_eq_true this];rfl
    go_wp2;go_roundw
    case rel=>
     exact⟨k+1,j+1,qd,qm,qm,qd,by rw[<-E.o,HN.o],hb⟩
    case measure=>simp[intOf];omega
   have HN:Hid (BO S y nx=none):=show BO S y nx=none from by
    have:¬s.1=O:=by(simp at B;omega)
    rw[HG.o,l.o,JQ,YG,t,YE,decide_eq_false this];simp
   exact Zx
  have HN:Hid (BO S y nx=some O):=show BO S y nx=_ from by
   exact QK
  go_wp2;refine bodyPost_ret (v:=.tuple #[I6 (O:Int),.bool true]) (by simp[results,results200,go_sem]) rfl ⟨⟨O,OV,λn h=>(by rw[HN.o]at h;injection h with h;subst h;exact⟨rfl,I⟩)⟩,hb⟩
end
def EW.j{α a N M}(h:N<=M)(c:∀x,a N x->a M x){xs:List α}(b:EW a N xs):EW a M xs:=⟨yh b.1 h,λx O=>c x (b.2 x O)⟩
def Tm.j{N M}(h:N<=M)(x:Tm)(a:x.le N):x.le M:=⟨yh a.1 h,yh a.2 h⟩
def Ex.j{N M}(h:N<=M)(x:Ex)(a:x.le N):x.le M:=⟨yh a.1 h,yh a.2 h⟩
def Fj:1048576<=maxLen:=by unfold maxLen;omega
def Ep(w:World)(b:Nat)(x:Ru)(a_pats:Option Addr)(c_pats:Nat)(a_exprs:Option Addr)(c_exprs:Nat)(a_acts:Option Addr)(c_acts:Nat):Prop:=
 w.cell? ⟨b,0,none⟩=some (.string x.name)/\w.cell? ⟨b,1,none⟩=some (.int .i64 x.W)/\w.cell? ⟨b,2,none⟩=some (.slice a_pats x.v.length c_pats)/\w.cell? ⟨b,3,none⟩=some (.slice a_exprs x.w.length c_exprs)/\w.cell? ⟨b,4,none⟩=some (.slice a_acts x.E.length c_acts)
def Ep.d{w w' b x e i c a g f}(h:Ep w b x e i c a g f)(j:Bw w w'):Ep w' b x e i c a g f:=
 ⟨zab j h.1,zab j h.2.1,zab j h.2.2.1,zab j h.2.2.2.1,zab j h.2.2.2.2⟩
def Ep.aF(w:World)(t x c f b a e d):Ep (w.alloc (.cells #[.string x.name,I6 x.W,.slice c x.v.length f,.slice b x.w.length a,.slice e x.E.length d] t)) w.heap.size x c f b a e d:=by
 refine⟨?_,?_,?_,?_,?_⟩<;>simp[go_sem]
section
attribute [local go_sem ↓] wp_at_zero wp_at_succ
def LD:List ByteArray:=[⟨#[43]⟩,⟨#[45]⟩,⟨#[42]⟩,⟨#[47]⟩,⟨#[37]⟩]
def Je(c:Int):ByteArray:=strOfNums [c]
def uG{c}(O:0<=c)(a:c<256):Bu (Je c) LD=Di c:=by
 have key:∀n:Fin 256,Bu (Je ((n.val:Nat):Int)) LD=Di ((n.val:Nat):Int):=Mr;obtain⟨n,rfl⟩:=Yf O;exact key ⟨n,qd⟩
def Xs(c w b)(h:At w b 0 (.int .u8 c)):(convert 22 9 (.slice (some ⟨b,0,none⟩) 1 1)).run prog w=.ok (.string (Je c)) w:=
 run_convert_bytes_arg (P:=prog) _ 22 5 underlying22 underlying5 b 0 1 1 [c] rfl (λi a=>by
  obtain rfl:i=0:=qd
  simpa using h) 9 underlying9
def XS(w):Ca 268 #[] w λe w'=>e=.returned (.slice (some ⟨w.heap.size,0,none⟩) 5 5)/\w'=w.alloc (.cells #[.string ⟨#[43]⟩,.string ⟨#[45]⟩,.string ⟨#[42]⟩,.string ⟨#[47]⟩,.string ⟨#[37]⟩] 9):=by
 go_enter func268,ntmps268;go_wp2;exact Mn
def rT(w b)(h:w.heap[b]?=some (.cells #[.string ⟨#[43]⟩,.string ⟨#[45]⟩,.string ⟨#[42]⟩,.string ⟨#[47]⟩,.string ⟨#[37]⟩] 9 (0,0))):Hr none w (some ⟨b,0,none⟩) LD:=by
 intro i x a;refine⟨b,0,[.string x],rfl,Qb.ah _ _ _,rfl,?_,rfl⟩;intro j v hj;have O:j=0:=by
  exact TU
 subst O;simp at hj;subst hj;have c:i<5:=(ye.1 a).1;simp only[World.cell?,h]
 match i,c with
 |0,_=>simp[LD]at a;simp[a]
 |1,_=>simp[LD]at a;simp[a]
 |2,_=>simp[LD]at a;simp[a]
 |3,_=>simp[LD]at a;simp[a]
 |4,_=>simp[LD]at a;simp[a]
def U2(c)(O:0<=c)(a:c<256)(b w)(h:w.heap[b]?=some (.cells #[.string ⟨#[43]⟩,.string ⟨#[45]⟩,.string ⟨#[42]⟩,.string ⟨#[47]⟩,.string ⟨#[37]⟩] 9 (0,0))) :
  Ca 106 #[.string (Je c),.slice (some ⟨b,0,none⟩) 5 5] w λe w'=>e=.returned (.bool (Di c))/\w'=w:=by
 rw[<-uG O a];exact Vv (Je c) _ 5 LD w (rT w b h) qh
def se(w:World)(o b)(h:b=w.heap.size):(w.alloc o).drew.heap[b]?=some o:=by
 subst h;exact heap_alloc_new _ _
def rX(w:World)(o o' b)(h:b=w.heap.size):((w.alloc o).alloc o').drew.heap[b]?=some o:=by
 subst h;exact(yS _ _ _ qe).c (heap_alloc_new _ _)
end
def mL(fs nx cp):FO fs nx cp=false ->
  (cp<0)∨(0<=cp/\40<cp)∨(0<=cp/\cp<=40/\cp<fs.length)∨(0<=cp/\cp<=40/\(fs.length:Int)<=cp/\C8 fs=false)∨(0<=cp/\cp<=40/\(fs.length:Int)<=cp/\C8 fs=true/\nx<1)∨(0<=cp/\cp<=40/\(fs.length:Int)<=cp/\C8 fs=true/\1<=nx/\1000001<nx):=by
 intro h;unfold FO at h;cases a:C8 fs
 .simp only[a,WH,Wg]at h;simp only[Yn,false_and,and_false,or_false,and_true];omega
 simp only[a,YJ,WC,decide_eq_false_iff_not]at h;simp only[true_and];omega
def zg1(a c fs nx cp sg w)(hv:Bz w a fs)(hl:fs.length<=1048576)(n:∀f∈fs,AJ f)(k:FO fs nx cp=false) :
  Ca 115 #[.agg #[.slice a fs.length c,I6 nx,I6 cp,.bool sg]] w λe w'=>
   e=.returned (.bool (B_ fs nx cp sg))/\Bw w w':=by
 have O:Hid (B_ fs nx cp sg=false):=by unfold B_;rw[k];exact rfl
 rcases mL fs nx cp k with b|⟨b,i⟩|⟨b,i,j⟩|⟨b,i,j,l⟩|⟨b,i,j,l,m⟩|⟨b,i,j,l,m,q⟩
 all_goals
  clear k;go_enter func115,ntmps115;go_wp2_with (go_at_call 124;refine(X8 a c fs _ (hv.d Aj) hl n).rtn λw' g=>?_;obtain⟨r,p⟩:=Aw g);go_ret
  first
  |exact⟨AL O.o.y,Aj⟩
  |exact⟨AL O.o.y,Aj.thn g⟩
def km{sg f g}{l:List F}{m}(h:l[m]?=some g):CO sg f (l.drop m)=(GU sg f g&&CO sg f (l.drop (m+1))):=by
 rw[CF h];rfl
def p9(h:P:=by
 first
  | (have _:=tP
     have HR:Hid (B_ fs nx cp true=Bo true nx [] fs):=by unfold B_;rw[hh];exact rfl)
  |(have HR:Hid (B_ fs nx cp false=Bo false nx [] fs):=by unfold B_;rw[hh];exact rfl)
 obtain⟨h1,h2,h3,h4,h5,h6⟩:0<=cp/\cp<=40/\(fs.length:Int)<=cp/\C8 fs=true/\1<=nx/\nx<=1000001:=by
  unfold FO at hh;simpa[yi] using hh
 clear hh;go_enter func115,ntmps115;go_wp2_with (go_at_call 124;refine(X8 a c fs _ (hv.d Aj) (by omega) hs).rtn λw' hb'=>?_;obtain⟨hc,hf⟩:=Aw hb');have q0:w'.cell? ⟨w.heap.size,0,none⟩=some (.slice a fs.length c):=by rw[hc _ _ (by simp)];simp[go_sem]
 have q1:w'.cell? ⟨w.heap.size,1,none⟩=some (.int .i64 nx):=by rw[hc _ _ (by simp)];simp[go_sem]
 first
  | (have _:=tP
     have q3:w'.cell? ⟨w.heap.size,3,none⟩=some (.bool true):=by rw[hc _ _ (by simp)];simp[go_sem])
  |(have q3:w'.cell? ⟨w.heap.size,3,none⟩=some (.bool false):=by rw[hc _ _ (by simp)];simp[go_sem])
 have hB:Bw w w':=Aj.thn hb';have hz:w.heap.size<w'.heap.size:=by have:=hb'.size;simp at this;omega
 clear hc hf hb'
 first
  | (have _:=tP
     go_loopw [42] (λi wr=>∃(k:Nat),k<=fs.length/\i=.int .i64 k/\B_ fs nx cp true=Bo true nx (fs.take k) (fs.drop k)/\Bw w' wr) (mz fs.length))
  |(go_loopw [42] (λi wr=>∃(k:Nat),k<=fs.length/\i=.int .i64 k/\B_ fs nx cp false=Bo false nx (fs.take k) (fs.drop k)/\Bw w' wr) (mz fs.length))
 case atStart=>exact⟨0,by omega,rfl,HR.o,An⟩
 case round=>
  obtain⟨wo,rfl⟩:∃x,x=wr:=⟨wr,rfl⟩
  obtain⟨k,hk,rfl,hG,hb⟩:=hrel
  first
   | (have _:=tP
      have HG:Hid (B_ fs nx cp true=Bo true nx (fs.take k) (fs.drop k)):=hG)
   |(have HG:Hid (B_ fs nx cp false=Bo false nx (fs.take k) (fs.drop k)):=hG)
  clear hG;have r0:=zab hb q0;have r1:=zab hb q1;have r3:=zab hb q3;have aB:w.heap.size<wo.heap.size:=yg hz hb.size;by_cases ay:k<fs.length
  .obtain⟨f,ah⟩:=Ba ay;have HD:Hid (fs.drop k=f::fs.drop (k+1)):=CF ah;have aq:=(hv.d hB).d hb;obtain⟨b,o,rfl,c0,c1,s,cs,c2,hsl⟩:=aq k f ah;by_cases h7:nx<=f.tag
   .go_wp2;go_ret;exact⟨AL (by rw[HG.o,HD.o,Bo,decide_eq_false (by omega)];rfl),hB.c (((hb.alloc hb.size _)).j (by omega))⟩
   have az:∀o,Bw wo (wo.alloc o):=λo=>Aj;go_wp2
   first
    | (have _:=tP
       go_loopw [57] (λj w2=>∃(m:Nat),m<=k/\j=.int .i64 m/\CO true f (fs.take k)=CO true f ((fs.take k).drop m)/\Below (wo.heap.size+1) (wo.alloc (.cells #[.int .i64 f.tag,.string f.z,.slice s f.s.length cs] 145)) w2) (mz k))
    |(go_loopw [57] (λj w2=>∃(m:Nat),m<=k/\j=.int .i64 m/\CO false f (fs.take k)=CO false f ((fs.take k).drop m)/\Below (wo.heap.size+1) (wo.alloc (.cells #[.int .i64 f.tag,.string f.z,.slice s f.s.length cs] 145)) w2) (mz k))
   case atStart=>exact⟨0,by omega,rfl,rfl,An⟩
   case round=>
    obtain⟨m,hm,rfl,hP,ai⟩:=hrel
    first
     | (have _:=tP
        have HP:Hid (CO true f (fs.take k)=CO true f ((fs.take k).drop m)):=hP)
     |(have HP:Hid (CO false f (fs.take k)=CO false f ((fs.take k).drop m)):=hP)
    clear hP;have O:=ai;rw[<-Wy]at O;have af:Bw wo wr:=(az _).c (O.j (by simp));have s1:wr.cell? ⟨wo.heap.size,1,none⟩=some (.string f.z):=zab O (by simp[go_sem]);have s2:wr.cell? ⟨wo.heap.size,2,none⟩=some (.slice s f.s.length cs):=zab O (by simp[go_sem]);have t3:=zab af r3;have aA:wo.heap.size<wr.heap.size:=by have:=O.size;simp at this;omega
    have aC:w.heap.size<wr.heap.size:=by omega
    by_cases ax:m<k
    .obtain⟨g,am⟩:∃g,fs[m]?=some g:=⟨fs[m],by simp⟩
     first
      | (have _:=tP
         have HQ:Hid (CO true f ((fs.take k).drop m)=(GU true f g&&CO true f ((fs.take k).drop (m+1)))):=km (by rw[Wq ax];exact am))
      |(have HQ:Hid (CO false f ((fs.take k).drop m)=(GU false f g&&CO false f ((fs.take k).drop (m+1)))):=km (by rw[Wq ax];exact am))
     obtain⟨b',o',au,d0,d1,s',aw,d2,aj⟩:=(aq.d af) m g am;simp only[YY,Addr.mk.injEq,and_true]at au;obtain⟨rfl,rfl⟩:=au
     first
      | (have _:=tP
         obtain⟨_,HS,_⟩:=hs f (yd ah);have ak:=hsl.d af;cases hcl:(g.z.toList==f.z.toList)
         . have HK:Hid (GU true f g=true):=by
             rw[EZ]at hcl;unfold GU;rw[hcl];exact rfl
           go_wp2;go_roundw
           case rel=>exact⟨m+1,by omega,by go_num,by rw[HP.o,HQ.o,HK.o];rfl,ai.alloc (by omega) _⟩
           case measure=>(simp;omega)
         · cases ar:decide (f.s=g.s)
           · have HK:Hid (GU true f g=true):=(show GU true f g=true from by unfold GU;rw[ar];simp)
             go_wp2_with (go_at_call 175;refine(Tw s s' cs aw f.s g.s _ (ak.d Aj) (aj.d Aj) HS).rtn λw3 ao=>?_);go_roundw
             case rel=>exact⟨m+1,by omega,by go_num,by rw[HP.o,HQ.o,HK.o];rfl,(ai.alloc (by omega) _).c (ao.j (by simp;omega))⟩
             case measure=>(simp;omega)
           . have HK:Hid (GU true f g=false):=by
               rw[EZ]at hcl;unfold GU;rw[hcl,ar];exact rfl
             go_wp2_with (go_at_call 175;refine(Tw s s' cs aw f.s g.s _ (ak.d Aj) (aj.d Aj) HS).rtn λw3 ao=>?_);go_ret;refine⟨AL ?_,hB.c ((hb.j (by omega)).c ((af.alloc (by omega) _).c (ao.j (by simp;omega)) |>.j ?_))⟩
             · rw[HG.o,HD.o,Bo,HP.o,HQ.o,HK.o]
               simp
             · have:=hb.size
               omega)
      | (have HK:Hid (GU false f g=true):=by unfold GU;exact rfl
         go_wp2;go_roundw
         case rel=>exact⟨m+1,by omega,by go_num,by rw[HP.o,HQ.o,HK.o];rfl,ai.alloc (by omega) _⟩
         case measure=>(simp;omega))
    go_wp2;go_roundw
    case rel=>
     refine⟨k+1,by omega,by go_num,?_,hb.thn af⟩;rw[HG.o,HD.o,Bo,HP.o,yy (by simp;omega),decide_eq_true (by omega),Mh fs k f ah];rfl
    case measure=>(simp;omega)
  go_wp2;go_ret;exact⟨AL (by rw[HG.o,yy (by omega),Bo]),hB.c (hb.j (by omega))⟩
 ):=h
def zgC(a c fs nx cp w)(hv:Bz w a fs)(hl:fs.length<=c)(hs:∀f∈fs,AJ f)(hh:FO fs nx cp=true) :
  Ca 115 #[.agg #[.slice a fs.length c,.int .i64 nx,.int .i64 cp,.bool true]] w λe w'=>
   e=.returned (.bool (B_ fs nx cp true))/\Bw w w':=by
 have tP:=trivial;exact p9
def zfX(a c fs nx cp w)(hv:Bz w a fs)(hl:fs.length<=c)(hs:∀f∈fs,AJ f)(hh:FO fs nx cp=true) :
  Ca 115 #[.agg #[.slice a fs.length c,.int .i64 nx,.int .i64 cp,.bool false]] w λe w'=>
   e=.returned (.bool (B_ fs nx cp false))/\Bw w w':=by
 exact p9
def JT(a c fs nx cp sg w)(hv:Bz w a fs)(hl:fs.length<=c)(d:fs.length<=1048576)(g:∀f∈fs,AJ f) :
  Ca 115 #[.agg #[.slice a fs.length c,I6 nx,I6 cp,.bool sg]] w λe w'=>
   e=.returned (.bool (B_ fs nx cp sg))/\Bw w w':=by
 cases b:FO fs nx cp
 .exact zg1 a c fs nx cp sg w hv d g b
 cases sg
 .exact zfX a c fs nx cp w hv hl g b
 exact zgC a c fs nx cp w hv hl g b
section
attribute [local go_sem ↓] wp_at_zero wp_at_succ

end

end Go.Proofs.YtikojfajahnhgaaGreat
