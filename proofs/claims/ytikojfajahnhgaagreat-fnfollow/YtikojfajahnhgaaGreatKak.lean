import Derived.Test.YtikojfajahnhgaaGreatKai
import Derived.Test.YtikojfajahnhgaaGreatKad
set_option linter.all false
set_option maxHeartbeats 6400000
set_option maxRecDepth 100000
namespace Go.Proofs.YtikojfajahnhgaaGreat
open Go.RowKit Go.Proofs.Tryz
attribute [local go_sem ↓] wp_at_zero wp_at_succ
attribute [local simp] At I6 Pn mzI Bk
attribute [local go_sem] At I6 Pn Bk
variable{P:Prop}
def iU{P ops rest d a w Q}(O:d.guard=none)(ty x y)(j:d.op=.store ty x y)(b o L)(g:a.eval x=.pointer (some ⟨b,o,none⟩))(k:a.eval y=.agg L.toArray)(c t)(e:Bk w b c t)(f:o+L.length<=c.size)(hi:(P.info? ty).map (·.size)=some L.length)(i:∀v∈L,v.oneCell'=true)(N)(l:(c.toList.take o++(L++c.toList.drop (o+L.length))).toArray=N)(h:∀w',Hid (Bk w' b N t)->Hid (Turned w w' b)->wpList P ops Q rest (a.put d.dst undef) w'):wpList P ops Q (d::rest) a w:=by
 refine wpList_store_mid O ty x y j b o L.toArray g k (b_ e (by simpa using f)) T8 (all_oneCell_toArray i) (h _ ?_ (Turned.setCells _ _ _ _));show _=_;rw[<-l];exact iT e (o:=o) L f
def zpp(w):Ca 268 #[] w λe w'=>e=.returned (.slice (some ⟨w.heap.size,0,none⟩) 5 5)/\w'=w.alloc (.cells #[.string ⟨#[43]⟩,.string ⟨#[45]⟩,.string ⟨#[42]⟩,.string ⟨#[47]⟩,.string ⟨#[37]⟩] 9):=by
 go_enter func268,ntmps268;exact RZ
def Ho(e:Ex):Aj:=[.int .i64 e.w,.int .u8 e.op,.string e.F,.int .i64 e.val.w,.int .i64 e.val.num,.string e.val.O,.int .i64 e.a,.int .i64 e.b]
def IV(e:Ex):Prop:=e.F.size<=20/\Hz e.val/\0<=e.op/\e.op<256
def TH(e):∀u∈Ho e,u.oneCell'=true:=by
 intro u hu;simp[Ho]at hu;rcases hu with rfl|rfl|rfl|rfl|rfl|rfl|rfl|rfl<;>rfl
def lN:(prog.info? 225).map (·.size)=some 8:=qg
def gL:(prog.info? 225).map (λi=>(i.zero,i.size,i.bytes))=some (some (.agg #[I6 0,.int .u8 0,.string ⟨#[]⟩,I6 0,I6 0,.string ⟨#[]⟩,I6 0,I6 0]),8,80):=qg
def Qw{w:Aa}{b ty e}(h:Bk w b ((Ho e).toArray) ty):At w b 0 (I6 e.w)/\At w b 1 (.int .u8 e.op)/\At w b 2 (.string e.F)/\At w b 3 (I6 e.val.w)/\At w b 4 (I6 e.val.num)/\At w b 5 (.string e.val.O)/\At w b 6 (I6 e.a)/\At w b 7 (I6 e.b):=by
 refine⟨?_,?_,?_,?_,?_,?_,?_,?_⟩<;>simp[World.cell?,h,Ho]
def QB(w:Aa)(b base:Nat)(x0 x1 x2 x4:Value)(a:Af)(c:Nat)(xs:AL):Prop:=
 Bk w b #[x0,x1,x2,.slice a xs.length c,x4] 53/\w.ownsRow base 225 8 (.slice a xs.length c) xs.length (xs.flatMap Ho)/\∀x∈xs,IV x
structure Qs(g b:Nat) (l:Bs) (o:AD) (w w':Aa):Prop where
 rest:Below 0 w w'
 block:∀k,k<w.heap.size->k≠g->k≠b->o≠some k->w'.heap[k]?=w.heap[k]?
 bh:ES w' g l
def Qs.of{g b l o w w'}(h:Rs g l w w'):Qs g b l o w w':=⟨h.1.rest,λk a c _ _=>h.1.block k a (λe=>c Xw),h.2⟩
def GN(N:Nat)(o o':AD):Prop:=o'=o∨∀k,o'=some k->N<=k
def GN.refl(N o):GN N o o:=.inl rfl
def GN.c{N b o o' O}(h:GN N o o')(a:GN b o' O)(e:N<=b):GN N o O:=by
 rcases a with rfl|a
 .exact h
 exact .inr λk d=>yi e (a k d)
def Qs.c{g b l l' o o' u v w}(h:Qs g b l o u v)(k:Qs g b l' o' v w)(d:GN u.heap.size o o'):Qs g b l' o u w:=by
 refine⟨h.rest.c k.rest,λj hj e a f=>?_,k.bh⟩;refine(k.block j (yg hj h.rest.size) e a ?_).c (h.block j hj e a f);rcases d with rfl|d
 all_goals grind
def QB.rs{w w' l g b base x0 x1 j i a c xs}(h:QB w b base x0 x1 j i a c xs)(f:Rs g l w w')(m:b≠g)(n:g<base):QB w' b base x0 x1 j i a c xs:=
 ⟨DX f h.1 m,Ci h.2.1 (λk d=>f.1.block k (h.2.1.lt k d).2 (λe=>by injection e with e;have:=(h.2.1.lt k d).1;omega)),h.2.2⟩
def QB.C{w w' b base x0 x1 f e a c xs}(h:QB w b base x0 x1 f e a c xs)(d:Bw w w'):QB w' b base x0 x1 f e a c xs:=
 ⟨(d.block b (Ap h.1)).c h.1,Ci h.2.1 (λk g=>d.block k (h.2.1.lt k g).2),h.2.2⟩
def QB.N{w w' b base d x0 x1 i g a c xs}(h:QB w b base x0 x1 i g a c xs)(f:Turned w w' d)(hd:d≠b)(l:(Value.slice a xs.length c).ownBlock≠some d):QB w' b base x0 x1 i g a c xs:=
 ⟨(f.block b (WU hd)).c h.1,Ci h.2.1 (λk j=>f.block k (λe=>l (by rw[j,e]))),h.2.2⟩
def LM(K:AG)(w:Aa)(g b base:Nat)(a:Af)(n:Nat):Prop:=(n<=1048576/\n=K.length)/\∀j,j<n->∃(k o:Nat)(s:ByteArray),a=some ⟨k,o,none⟩/\g<k/\k≠b/\k<base/\(GK K s/\K[j]?=some s)/\w.cell? ⟨k,o+j,none⟩=some (.string s)
def LM.keep{K w w' g b base a n}(h:LM K w g b base a n)(l:∀k,k<base->k<w.heap.size->g<k->k≠b->w'.heap[k]?=w.heap[k]?):LM K w' g b base a n:=by
 refine⟨h.1,λj hj=>?_⟩;obtain⟨k,o,s,m,e,d,f,i,c⟩:=h.2 j hj;refine⟨k,o,s,m,e,d,f,i,?_⟩;rw[<-c];exact yP (w:=w) (l k f (yI w ⟨k,_,none⟩ c) e d)
def LM.qs{K w w' g b base l o a n}(h:LM K w g b base a n)(c:Qs g b l o w w')(f:∀k,o=some k->base<=k):LM K w' g b base a n:=
 h.keep (λk i hl j d=>c.block k hl qd d (λe=>by have:=f k e;omega))
def fD:Nat->Nat
 |0=>1
 |d+1=>2*fD d+1
def Mm(K:AG)(l:Bs)(g b base:Nat)(x0 x1 x2 x4:Value)(a:Af)(c:Nat)(xs:AL)(d:Nat)(w:Aa)(e:Ending)(w':Aa):Prop:=
 ∃a' c' xs',QB w' b base x0 x1 x2 x4 a' c' xs'/\xs.length+1<=xs'.length/\xs'.length<=xs.length+fD d/\e=.returned (.int .i64 ((xs'.length:Int)-1))/\Qs g b (ED d K xs l).2 (Value.slice a xs.length c).ownBlock w w'/\GN w.heap.size (Value.slice a xs.length c).ownBlock (Value.slice a' xs'.length c').ownBlock/\(∃ys,xs'=xs++ys/\EA K d xs.length ys)/\(52<=xs.length->xs'.length<=xs.length+1)/\Hid (xs'=(ED d K xs l).1)
def Zd{l g b base x0 x1 A w q r O u wt y n o E f d}(t:QB wt b base x0 x1 A w q r O)(N:IV E)(s:Qs g b l o u wt)(p:GN u.heap.size o (Value.slice q O.length r).ownBlock)(m:Bw wt y)(D:n.ownsRow base 225 8 (.slice f (O.length+1) d) (O.length+1) (O.flatMap Ho++Ho E))(v:y.grownBy n (Value.slice q O.length r).ownBlock)(hl:(Value.slice f (O.length+1) d).ownBlock=(Value.slice q O.length r).ownBlock∨(Value.slice f (O.length+1) d).ownBlock=some y.heap.size)(R:g<b)(K:b<base)(_hbase:base<=wt.heap.size) :
  QB (n.setCell ⟨b,3,none⟩ (.slice f (O.length+1) d)) b base x0 x1 A w f d (O++[E])/\Qs g b l o u (n.setCell ⟨b,3,none⟩ (.slice f (O.length+1) d))/\GN u.heap.size o (Value.slice f (O.length+1) d).ownBlock:=by
 have C:∀k,(Value.slice q O.length r).ownBlock=some k->base<=k/\k<wt.heap.size:=λk a=>t.2.1.lt k a;have G:b<wt.heap.size:=Ap t.1;have M:Bk n b #[x0,x1,A,.slice q O.length r,w] 53:=by
  refine(v.block b (yg G m.size) (λe=>?_)).c ((m.block b G).c t.1);have:=(C b e.z).1;omega
 have J:∀k,(Value.slice f (O.length+1) d).ownBlock=some k->base<=k:=λk a=>(D.lt k a).1;refine⟨⟨?_,?_,?_⟩,⟨?_,?_,?_⟩,?_⟩
 .have:=C7 (i:=3) M (.slice f (O.length+1) d);simpa using this
 .have:=Ci (w':=n.setCell ⟨b,3,none⟩ (.slice f (O.length+1) d)) D (λk a=>yD _ _ _ _ (by have:=J k a;simp;omega));simpa using this
 .intro x I;rcases yp.1 I with h|h
  .exact t.2.2 x h
  simp at h;exact h▸N
 .refine Kz ?_ (yn _) _;exact(s.rest.c (m.j (yn _))).grown v (yn _) (λ_ _=>yn _)
 .intro k a L h2 B;have H:k<wt.heap.size:=yg a s.rest.size;refine(yD _ _ _ _ qw).c ?_;refine(v.block k (yg H m.size) (λe=>?_)).c ((m.block k H).c (s.block k a L h2 B));rcases p with p|p
  .exact B (by rw[<-p,e])
  have:=p k e.z;omega
 .refine ES.cq s.bh ?_;refine Kz ?_ qe _;exact(m.j qd).grown v (by have:=m.size;omega) (λk a=>by have:=(C k a).1;omega)
 rcases hl with h|h
 .rw[h];exact p
 refine .inr λk a=>?_;rw[h]at a;injection a with a;have:=s.rest.size;have:=m.size;omega
def jh{w:Aa}{b:Nat}{t a p q}(h:Hid (Bk w b ((Ho ⟨2,a,⟨#[]⟩,(0,0,⟨#[]⟩),p,q⟩).toArray) t))(d:Eh a=true)(O:0<=a)(c:a<256):∃E,IV E/\((∃a,Eh a=true/\E=LF a p q)/\Hid (E=⟨2,a,wS [],Jv,p,q⟩))/\Hid (Bk w b ((Ho E).toArray) t):=⟨LF a p q,⟨yn 20,S8,O,c⟩,⟨⟨a,d,rfl⟩,show _=_ from rfl⟩,h⟩
def zS{K d xs O b E}(g:∃ys,O=xs++ys/\EA K d xs.length ys)(c:∃ys,b=O++ys/\EA K d O.length ys)(j:∃a,Eh a=true/\E=LF a ((O.length:Int)-1) ((b.length:Int)-1)):∃ys,b++[E]=xs++ys/\EA K (d+1) xs.length ys:=by
 obtain⟨A,rfl,e⟩:=g;obtain⟨B,rfl,f⟩:=c;obtain⟨a,i,rfl⟩:=j;refine⟨A++(B++[LF a (((xs++A).length:Int)-1) (((xs++A++B).length:Int)-1)]),qf,.inr ⟨A,B,a,i,e,by simpa using f,?_⟩⟩;simp[Kd]
def Qs.C{g b l o u v w}(h:Qs g b l o u v)(a:Bw v w):Qs g b l o u w:=
 ⟨h.rest.c (a.j (yn _)),λk d i e f=>(a.block k (yg d h.rest.size)).c (h.block k d i e f),h.bh.C a⟩
def Qs.N{g b d l o u v w}(h:Qs g b l o u v)(a:Turned v w d)(hd:u.heap.size<=d)(n:g<u.heap.size):Qs g b l o u w:=
 ⟨h.rest.c (a.e (yn _)),λk j m f i=>(a.block k qd).c (h.block k j m f i),h.bh.cq (a.e qd)⟩
def GN.j{N O o o'}(h:GN O o o')(a:N<=O):GN N o o':=by
 rcases h with h|h
 .exact .inl h
 exact .inr λk b=>yi a (h k b)
def gR{b base x0 x1 n m a d O wt l f}(g:QB wt b base x0 x1 n m a d O)(k:Bw wt l)(p:l.grownBy f (Value.slice a O.length d).ownBlock)(o:b<base) :
  At f b 3 (.slice a O.length d)/\f.frozen? ⟨b,3,none⟩=false:=by
 have i:b<wt.heap.size:=Ap g.1;have j:Bk f b #[x0,x1,n,.slice a O.length d,m] 53:=by
  refine(p.block b (yg i k.size) (λe=>?_)).c ((k.block b i).c g.1);have:=(g.2.1.lt b e.z).1;omega
 exact⟨by simp[World.cell?,j],by simp[World.frozen?,j]⟩
def QB.grown{w w' b base x0 x1 l j a c xs row t}(h:QB w b base x0 x1 l j a c xs)(g:w.grownBy w' row)(i:∀k,row=some k->∃c,Bk w k c t)(n:t≠53)(o:t≠225):QB w' b base x0 x1 l j a c xs:=by
 refine⟨(g.block b (Ap h.1) (λe=>?_)).c h.1,Ci h.2.1 (λk f=>g.block k (h.2.1.lt k f).2 (λe=>?_)),h.2.2⟩
 .obtain⟨m,d⟩:=i b e.z;exact Cw d h.1 n
 obtain⟨m,d⟩:=i k e.z;obtain⟨p,O⟩:=A7 h.2.1 f;exact Cw d O o
def Qs.grown{g b l o row u v w}(h:Qs g b l o u v)(d:v.grownBy w row)(m:∀k,row=some k->u.heap.size<=k)(O:g<u.heap.size):Qs g b l o u w:=by
 refine⟨h.rest.grown d (yn _) (λ_ _=>yn _),λk a f i j=>(d.block k (yg a h.rest.size) (λe=>?_)).c (h.block k a f i j),h.bh.cq (Au.grown d jU (λk a=>by have:=m k a;omega))⟩
 grind
def Za{w w' l base g b o e t m v n xs}(h:w.ownsRow base e m v n xs)(d:Qs g b l o w w')(j:g<base)(i:b<base)(p:∀k,o=some k->∃c,Bk w k c t)(f:t≠e):w'.ownsRow base e m v n xs:=by
 refine Ci h λk a=>d.block k (h.lt k a).2 (by have:=(h.lt k a).1;omega) (by have:=(h.lt k a).1;omega) (λe=>?_)
 grind[A7,Cw,Ci]
def CN(t:Tt):Aj:=[.int .i64 t.aj,.int .i64 t.op,.int .i64 t.other,.int .i64 t.val.w,.int .i64 t.val.num,.string t.val.O]
theorem Ty:∀S:Dn,(S.flatMap CN).length=S.length*6
 |[]=>rfl
 |s::r=>by rw[yX,yM,Ty r];simp[CN];omega
def gG:∀(S:Dn)(i:Nat)(s:Tt)(j:Nat)(v:Value),S[i]?=some s->(CN s)[j]?=some v->(S.flatMap CN)[i*6+j]?=some v
 |[],i,s,j,v,h,_=>by simp at h
 |x::r,0,s,j,v,h,hj=>by
  simp at h
  subst h
  have hl:j<(CN x).length:=(yf.1 hj).1
  rw[yX,yr qd]
  simpa using hj
 |x::r,i+1,s,j,v,h,hj=>by
  have:=gG r i s j v qu hj
  rw[yX,yB (by simp[CN];omega),show(i+1)*6+j-(CN x).length=i*6+j by simp[CN];omega]
  exact this
def F7.owns{w base n a c S}(h:w.ownsRow base 320 6 (.slice a n c) n (S.flatMap CN)):F7 none w a S:=by
 intro i s b;obtain⟨g,rfl,_,_,_⟩:=CG h (gG S i s 0 _ b rfl);refine⟨g,0,CN s,rfl,Qb.ac _ _ _,rfl,?_,rfl⟩;intro j v hj;obtain⟨e,O,_,d,_⟩:=CG h (gG S i s j v b hj);cases O;rwa [Yj]
theorem PZ(s):∀u∈CN s,u.oneCell'=true:=by
 intro u hu;simp[CN]at hu;rcases hu with rfl|rfl|rfl|rfl|rfl|rfl<;>rfl
def Rl:(prog.info? 320).map (λi=>(i.zero,i.size,i.bytes))=some (some (.agg #[I6 0,I6 0,I6 0,I6 0,I6 0,.string ⟨#[]⟩]),6,56):=qg
def C3(w:Aa)(b:Nat)(x0 x1 x2:Value):Prop:=w.cell? ⟨b,0,none⟩=some x0/\w.cell? ⟨b,1,none⟩=some x1/\w.cell? ⟨b,2,none⟩=some x2/\w.frozen? ⟨b,0,none⟩=false/\w.frozen? ⟨b,1,none⟩=false/\w.frozen? ⟨b,2,none⟩=false
def C3.ay{w w' b B x0 x1 a}(h:C3 w b x0 x1 a)(c:Below B w w')(d:b<B):C3 w' b x0 x1 a:=by
 obtain⟨f,j,k,i,g,O⟩:=h;have e:=c.block b d;refine⟨?_,?_,?_,?_,?_,?_⟩<;>simp only[World.cell?,World.frozen?,e]<;>assumption
theorem C3.lt{w b x0 x1 c}(h:C3 w b x0 x1 c):b<w.heap.size:=by
 by_cases a:b<w.heap.size
 .exact a
 have:w.heap[b]?=none:=Ki qd;have O:=h.1;simp[World.cell?,this]at O
theorem C3.e{w w' b x0 x1 a}(h:C3 w b x0 x1 a)(c:Bw w w'):C3 w' b x0 x1 a:=h.ay c h.lt
def C3.aO(w:Aa)(t x0 x1 a):C3 (w.alloc (.cells #[x0,x1,a] t)) w.heap.size x0 x1 a:=by
 refine⟨?_,?_,?_,?_,?_,?_⟩<;>simp[go_sem]
def C3.er{w b x0 x1 a}(h:C3 w b x0 x1 a)(y):C3 (w.setCell ⟨b,2,none⟩ y) b x0 x1 y:=by
 have hl:=h.lt;obtain⟨c,f,g,e,d,O⟩:=h;refine⟨?_,?_,?_,?_,?_,?_⟩<;>simp[go_sem, *]
def Z5{e wr O B x0 x1 v t b m a xs}(k:C3 wr B x0 x1 v)(f:Below (B+1) wr O)(d:O.ownsRow (B+1) t 6 (.slice b m a) m xs)(i:Below B e wr) :
  C3 (O.setCell ⟨B,2,none⟩ (.slice b m a)) B x0 x1 (.slice b m a)/\(O.setCell ⟨B,2,none⟩ (.slice b m a)).ownsRow (B+1) t 6 (.slice b m a) m xs/\Below B e (O.setCell ⟨B,2,none⟩ (.slice b m a)):=by
 refine⟨(k.ay f qd).er _,Ci d (λg l=>?_),(i.c (f.j qd)).setCell qf _⟩;have:=(d.lt g l).1;exact yD _ _ _ _ qe
def zma{s:ByteArray}(h:s.toList.isEmpty=true):s=⟨#[]⟩:=by
 exact uE
def mP{v}(h:E4 v=true):v=K1:=by
 simp only[E4,DA,ym,beq_iff_eq]at h;obtain⟨O,b,c⟩:=h;have a:=zma c;exact Prod.ext O (Prod.ext b a)
def ztz{t}(h:DC t=true)(hv:t.F.toList.isEmpty=false):t.val=K1:=by
 have a:DA t.F=false:=hv;unfold DC Ng at h;rw[a]at h;split at h
 .simp at h
 split at h
 .simp at h
 split at h
 .simp only[ym]at h;exact mP h.2.2
 split at h
 .simp only[Km,Bool.false_or,ym]at h;exact mP h.2.2.2
 cases h
def lw{p}(h:Ej p=true){i:Nat}{t}(a:p.s[i]?=some t):DC t=true:=by grind[DS,Ej,DC]
theorem Zj{p}(h:Ej p=true):p.s.length<=6:=by grind[DS,Ej,DC]
def zoR{ts k t}(h:ts[k]?=some t):Cy ts (k+1)=Cy ts k++(FO ts k t).toList:=by
 simp[Cy,h]
theorem Vu(ts):∀k,(Cy ts k).length<=k
 |0=>yA _
 |k+1=>by
  have:=Vu ts k
  unfold Cy
  rw[yM]
  cases ts[k]? with
  |none=>simp;omega
  |some t=>cases h:FO ts k t<;>simp[h]<;>omega
def Tt.bq(t:Tt):Int × Int × Int × Int × Int × ByteArray:=(t.aj,t.op,t.other,t.val.w,t.val.num,t.val.O)
def Al.bq(x:Al):ByteArray × Int × List (Int × Int × Int × Int × Int × ByteArray):=(x.E,x.al,x.y.map Tt.bq)
def Tt.br{x y:Tt}(h:x.bq=y.bq):x=y:=by
 obtain⟨a,c,l,i,O,f⟩:=x;obtain⟨d,e,j,g,b,k⟩:=y;simp only[Tt.bq,V.w,V.num,V.O,YF]at h;obtain⟨rfl,rfl,rfl,rfl,rfl,rfl⟩:=h;rfl
def mL:∀{xs ys:Dn},xs.map Tt.bq=ys.map Tt.bq->xs=ys
 |[],[],_=>rfl
 |[],_::_,h=>by simp at h
 |_::_,[],h=>by simp at h
 |x::xs,y::ys,h=>by
  simp only[yx,Yv]at h
  rw[Tt.br h.1,mL h.2]
def Al.br{x y:Al}(h:x.bq=y.bq):x=y:=by
 obtain⟨b,c,g⟩:=x;obtain⟨d,e,f⟩:=y;simp only[Al.bq,YF]at h;obtain⟨rfl,rfl,a⟩:=h;rw[mL a]
def M8(x y:Al):Bool:=decide (x.E=y.E)&&(decide (x.al=y.al)&&decide (x.y.map Tt.bq=y.y.map Tt.bq))
theorem Z3{x y}:M8 x y=true↔x=y:=by
 unfold M8;simp only[ym,decide_eq_true_eq];exact⟨λh=>Al.br (by simp[Al.bq,h.1,h.2.1,h.2.2]),λh=>by rw[h];exact⟨rfl,rfl,rfl⟩⟩
def Fv(x:Al):Dm->Nat
 |[]=>0
 |y::r=>if M8 y x then 0 else Fv x r+1
def zsF(x):∀A:Dm,Fv x A<=A.length:=by intro A;induction A<;>grind[M8,Fv]
theorem zts{x}:∀{A:Dm},Fv x A<A.length->A[Fv x A]?=some x:=by intro A;induction A<;>grind[Fv,M8,Z3]
def Gf(A:Dm)(x:Al):Dm:=if Fv x A<A.length then A else A++[x]
theorem nI{A x}(h:Fv x A<A.length):Gf A x=A:=if_pos h
theorem nB{A x}(h:¬Fv x A<A.length):Gf A x=A++[x]:=if_neg h
theorem n_{A x}(h:¬Fv x A<A.length):Fv x A=A.length:=by have:=zsF x A;omega
def znM(A x):(Gf A x).length<=A.length+1:=by
 unfold Gf;split<;>simp
def VR(p):(DW p).y.length<=6:=by grind[DW,Cy,Ej,Zj,Vu]
abbrev QS:=Al × Value
abbrev CD:=List QS
def QT(w:Aa)(base:Nat)(x:QS):Prop:=(∃a c,x.2=.slice a x.1.y.length c)/\w.ownsRow base 320 6 x.2 x.1.y.length (x.1.y.flatMap CN)
def QT.C{w w' base x}(h:QT w base x)(a:Bw w w'):QT w' base x:=⟨h.1,AZ h.2 a⟩
section
open Go.Maps
def zT:Tt:=⟨0,0,0,(0,0,⟨#[]⟩)⟩
def Iy(ts:Dn):Dn:=ts++List.replicate (6-ts.length) zT
def JV(cls:ByteArray)(n:Int)(ts:Dn):Aj:=.string cls::.int .i64 n::ts.flatMap CN
def Di(x:Al):Aj:=JV x.E x.al (Iy x.y)
def kZ(ts:Dn):∀x∈ts.flatMap CN,x.oneCell'=true:=by grind[CN,PZ]
def Tx(a n ts):(JV a n ts).length=ts.length*6+2:=by grind[CN,JV,Ty]
def gS(b n ts):∀x∈JV b n ts,x.oneCell'=true:=by
 intro x a;simp only[JV,yW]at a;rcases a with rfl|rfl|a
 .rfl
 .rfl
 exact kZ ts x a
def S2(ts)(h:ts.length<=6):(Iy ts).length=6:=by simp[Iy];omega
def sj(h:P:=by intro k hk;rcases(show k=0∨k=1∨k=2∨k=3∨k=4∨k=5∨k=6 by omega) with rfl|rfl|rfl|rfl|rfl|rfl|rfl<;>rfl):=h
def zmE(a n ts)(h:ts.length<=6) :
  (JV a n (List.replicate 6 zT)).take 2++(ts.flatMap CN++(JV a n (List.replicate 6 zT)).drop (2+(ts.flatMap CN).length))=JV a n (Iy ts):=by
 have e:∀k,k<=6->((List.replicate 6 zT).flatMap CN).drop (k*6)=(List.replicate (6-k) zT).flatMap CN:=by
  exact sj
 rw[Ty];unfold JV Iy;rw[Yy,<-e ts.length h,show 2+ts.length*6=ts.length*6+1+1 by omega];rfl
def vQ(ts:Dn)(j x)(h:(ts.flatMap CN)[j]?=some x):∃t,ts[j/6]?=some t/\(CN t)[j%6]?=some x:=by
 induction ts generalizing j with
 |nil=>simp at h
 |cons t r O=>
  have a:(CN t).length=6:=rfl;rw[yX]at h;by_cases hj:j<6
  .rw[yr qd]at h;refine⟨t,?_,?_⟩
   .rw[show j/6=0 by omega];rfl
   rwa [show j%6=j by omega]
  rw[yB qd]at h;obtain⟨u,b,c⟩:=O (j-(CN t).length) h;rw[a]at b c;refine⟨u,?_,?_⟩
  .rw[show j/6=(j-6)/6+1 by omega];exact b
  rwa [show j%6=(j-6)%6 by omega]
def F7.bO{q w a ts}(h:F7 q w (some a) ts)(j x)(d:(ts.flatMap CN)[j]?=some x):w.cell? (a.add j)=some x:=by
 obtain⟨t,i,k⟩:=vQ ts j x d;obtain⟨b,o,r,e,_,_,f,g⟩:=h _ t i;cases e;have c:r=CN t:=g;have O:(⟨b,o,none⟩:Addr).add j=⟨b,o+j,none⟩:=Wu b o j;rw[O];have:=f (j%6) x (by rw[c];exact k);rw[show o+j=o+j/6*6+j%6 by omega];exact this
def F7.cZ{q w ts}(h:F7 q w none ts):ts.length=0:=by
 cases ts with
 |nil=>rfl
 |cons v r=>
  obtain⟨b,o,_,a,_⟩:=h 0 v rfl;cases a
def FP(w:Aa)(o n)(h:w.heap.size=n):(w.alloc o).heap[n]?=some o:=by
 subst h;exact heap_alloc_new _ _
def Rf:(prog.info? 323).map (·.size)=some 38:=qg
def vR:(prog.info? 320).map (·.size)=some 6:=qg
def ztU(x a c){q}(w)(hv:F7 q w a x.y)(hl:x.y.length<=6) :
  Ca 205 #[.agg #[.string x.E,.int .i64 x.al,.slice a x.y.length c]] w λe w'=>
   e=.returned (.agg (Di x).toArray)/\Bw w w':=by
 go_enter func205,ntmps205;go_wp2_with (refine Ec qh 323 (.tmp 3) (.tmp 8) qh (w.heap.size+1+1) (JV x.E x.al (List.replicate 6 zT)) qh qh _ 323 (FP _ _ _ qf) qh (by rw[Tx];exact Rf) (gS _ _ _) ?_;intro f s B)
 go_frame
 have i:=B.o;have L:f.cell? ⟨w.heap.size,2,none⟩=some (.slice a x.y.length c):=by rw[i.cell qe];simp[go_sem]
 obtain⟨b,p,A⟩:∃b:Bl,Bk f (w.heap.size+1) b 323/\b.size=38:=
  ⟨_,(i.block _ qd).c ((yN _ _ _ qf).c (FP _ _ _ qf)),rfl⟩
 have z:Hid (Bk f (w.heap.size+1) b 323):=p;have H:Hid (b.size=38):=A;clear p A;have C:Bw w f:=((Ar.alloc qf _).alloc qe _).c (i.e qd);have u:=hv.e C;have n:f.heap.size=w.heap.size+1+1+1:=by rw[i.size];simp
 have U:Hid (f.heap.size=w.heap.size+1+1+1):=n;clear n B i hv;have O:Nat.min x.y.length 6=x.y.length:=by simp[Nat.min_def];omega
 have R:Hid (Nat.min x.y.length 6=x.y.length):=O;clear O
 go_region_held3 (λw'=>w'.cell? ⟨w.heap.size,2,none⟩=some (.slice a x.y.length c)) ((first | (simp[*];done) | (rw[k.o.cell qe];simp[*])))
  ((refine ry qh (.tmp 10) (.tmp 12) 243 243 qh 320 6 underlying243 vR (w.heap.size+1+1) 2 6 6 a x.y.length c qh qh _ 323 s (x.y.flatMap CN) (by rw[R.o,Ty]) (λe=>F7.cZ (e▸u)) (λT e=>F7.bO (e▸u)) (by rw[Ty];simp[Tx];omega) (kZ _) ?_;intro g m k))
 have r:Bk g (w.heap.size+1+1) ((Di x).toArray) 323:=by
  have:=m.o;rw[List.toList_toArray,zmE _ _ _ hl]at this;exact this
 have l:=k.o;have t:Bk g (w.heap.size+1) b 323:=(l.block _ qd).c z;have d:(Di x).length=38:=by unfold Di;rw[Tx,S2 _ hl]
 have I:Bw w g:=C.drew.c (l.e qd);have J:Hid (Bk g (w.heap.size+1+1) ((Di x).toArray) 323):=r;have D:Hid (Bk g (w.heap.size+1) b 323):=t;have j:Hid ((Di x).length=38):=d;clear m k l r t d z s L;go_wp2_with (first|(refine iR qh 323 (.tmp 3) qh (w.heap.size+1+1) (Di x) qh 323 (0,0) J _ underlying323 qh (by rw[j.o];exact Rf) ?_)|(refine Ec qh 323 (.tmp 2) (.tmp 14) qh (w.heap.size+1) (Di x) qh qh b 323 D (by rw[j.o];exact H) (by rw[j.o];exact Rf) (gS _ _ _) ?_;intro G M N));have K:=run_loadVar_mid (P:=prog) G (w.heap.size+1) 0 323 (Di x) _ (Nh M) underlying323 rfl (by rw[j.o];exact Rf)
 go_frame
 exact bodyPost_ret (v:=.agg (Di x).toArray) (by simp[results,results205,asAddr,K]) rfl ⟨rfl,I.c (N.e qd)⟩
def vH:(323:TypeId)<prog.types.size:=of_decide_eq_true qg
def xl:(match prog.underlying 323 with|some (.array _ _)|some (.struct _)=>true|_=>false)=true:=qg
def xS:prog.keyType 323=true:=qg
def UH:Keyed prog 323:=Keyed.of_law (deep_law_laid U4 (m:=6) qd vH qg xl)
def lR:prog.cellsOf 323=38:=qg
def lU:prog.cellsOf 321=36:=qg
def mC:prog.cellsOf 320=6:=qg
def Zw:prog.cellsOf 187=3:=qg
def MV(t:Tt):Prop:=(Lit.int .i64 t.aj).wf=true/\(Lit.int .i64 t.op).wf=true/\(Lit.int .i64 t.other).wf=true/\ER t.val
def Oe(x:Al):Prop:=x.E.size<=maxLen/\(Lit.int .i64 x.al).wf=true/\x.y.length<=6/\∀t∈x.y,MV t/\t.op≠0
def vI:MV zT:=⟨qi,qi,qi,qi,qi,qi⟩
def kD(d v)(h:ER v):prog.keyLits (d+2) 187 [.int .i64 v.w,.int .i64 v.num,.string v.O]=some [.int .i64 v.w,.int .i64 v.num,.string v.O.data.toList]:=by
 obtain⟨b,c,a⟩:=h;simp[Program.keyLits,underlying187,underlying3,underlying2,underlying9,Zw,US,zsw,XV,b,c,a]
def QY(d t)(h:MV t):∃l,prog.keyLits (d+3) 320 (CN t)=some l:=by
 obtain⟨b,c,f,g⟩:=h;have a:∀n:Int,(Lit.int .i64 n).wf=true->prog.keyLits (d+2) 3 [.int .i64 n]=some [.int .i64 n]:=λn e=>by simp[Program.keyLits,underlying3,e]
 unfold Program.keyLits;rw[underlying320];simp only[mC];rw[if_pos ⟨qh,OL⟩];simp only[CN,Kn,KA,US,Zw,WV,We,Wk,WH,a _ b,a _ c,a _ f,kD d t.val g];exact⟨_,rfl⟩
def vj(d a b c e f g)(p:MV a)(n:MV b)(r:MV c)(o:MV e)(s:MV f)(q:MV g):(prog.keyLits (d+4) 321 ([a,b,c,e,f,g].flatMap CN)).isSome=true:=by
 obtain⟨v,O⟩:=QY d a p;obtain⟨lb,k⟩:=QY d b n;obtain⟨t,m⟩:=QY d c r;obtain⟨x,l⟩:=QY d e o;obtain⟨w,i⟩:=QY d f s;obtain⟨u,j⟩:=QY d g q;unfold CN at O k m l i j;unfold Program.keyLits;rw[underlying321];simp only[lU,mC];rw[if_pos qh];simp only[show List.range 6=[0,1,2,3,4,5] by rfl,Kn,KA];simp only[CN,yX,YY,Yz,Yg,V8,K6,WV,We,Wk,WH,O,k,m,l,i,j];rfl
def vP(d a n)(f:a.size<=maxLen)(e:(Lit.int .i64 n).wf=true)(L)(g:L.length=36)(c:(prog.keyLits (d+1) 321 L).isSome=true) :
  (prog.keyLits (d+2) 323 (.string a::.int .i64 n::L)).isSome=true:=by
 obtain⟨l,hl⟩:=Wz.1 c;have hS:prog.keyLits (d+1) 9 [.string a]=some [.string a.data.toList]:=by simp[Program.keyLits,underlying9,f]
 have b:prog.keyLits (d+1) 3 [.int .i64 n]=some [.int .i64 n]:=by simp[Program.keyLits,underlying3,e]
 have i:L.take 36=L:=yR qd;unfold Program.keyLits;rw[underlying323];simp only[lR];rw[if_pos ⟨by simp[g],OL⟩];simp only[Kn,KA,XV,US,lU,WV,We,Wk,WH,hS,b,i,hl];rfl
def ztO(d n)(m:d.size<=maxLen)(k:(Lit.int .i64 n).wf=true)(ts)(hl:ts.length=6)(hv:∀t∈ts,MV t):∃l,keyOf prog 323 (.agg (JV d n ts).toArray)=some l:=by
 match ts,hl with
 |[a,b,c,e,f,g],_=>
  have o:=vj (prog.types.size-4) a b c e f g (hv _ qf) (hv _ qf) (hv _ qf) (hv _ qf) (hv _ qf) (hv _ qf);have q:4<=prog.types.size:=of_decide_eq_true qg;have i:=vP (prog.types.size-4+3) d n m k _ qh o;rw[show prog.types.size-4+3+2=prog.types.size+1 by omega]at i;have O:(Value.agg (JV d n [a,b,c,e,f,g]).toArray).formed prog 323=true:=by
   simp[Value.formed,underlying323,lR,Tx]
  unfold keyOf;rw[underlying323];simp only[xS,O,KB,if_true];obtain⟨p,j⟩:=Wz.1 i;show∃l,(prog.keyLits (prog.types.size+1) 323 (.string d::I6 n::[a,b,c,e,f,g].flatMap CN)).map _=some l;rw[j];exact⟨_,rfl⟩
def pK:∀(a vs:Dn),a.length=vs.length->a.flatMap CN=vs.flatMap CN->a=vs
 |[],[],_,_=>rfl
 |[],_::_,h,_=>by simp at h
 |_::_,[],h,_=>by simp at h
 |u::a,v::vs,h,e=>by
  simp only[yX,CN,Yz,Yg,Yv,KK,Ke,true_and]at e
  obtain⟨c,i,d,b,g,O,f⟩:=e
  have j:=pK a vs qu f
  rw[j,Tt.br (x:=u) (y:=v) (by simp only[Tt.bq,c,i,d,b,g,O])]
def zj{x}(h:Oe x):∃l,keyOf prog 323 (.agg (Di x).toArray)=some l:=by
 obtain⟨c,d,b,e⟩:=h;refine ztO x.E x.al c d (Iy x.y) (S2 _ b) ?_;intro t a;rcases yp.1 a with a|a
 .exact(e t a).1
 rw[WC a];exact vI
def N9(kl:Al->Lit):Prop:=∀x,Oe x->keyOf prog 323 (.agg (Di x).toArray)=some (kl x)
def N9.bP:∃a,N9 a:=
 ⟨λx=>(keyOf prog 323 (.agg (Di x).toArray)).getD (.bool false),λx h=>by
  obtain⟨l,hl⟩:=zj h
  simp only[hl,YE]⟩
def TV(t:Tt):Bool:=!(t.op==0)
def o7{ts}(h:∀t∈ts,t.op≠0):(Iy ts).filter TV=ts:=by simp_all[TV,zT,Iy]
def lG{d}(K:N9 d){x y}(b:Oe x)(c:Oe y)(h:d x=d y):x=y:=by
 have e:=UH.inj (K x b) (h▸K y c);simp only[Value.agg.injEq]at e;have O:Di x=Di y:=by simpa using congrArg Array.toList e
 unfold Di JV at O;simp only[Yv,Ke,KK,true_and]at O;obtain⟨g,f,j⟩:=O;have i:=pK _ _ (by rw[S2 _ b.2.2.1,S2 _ c.2.2.1]) j;have a:x.y=y.y:=by rw[<-o7 (λt a=>(b.2.2.2 t a).2),<-o7 (λt a=>(c.2.2.2 t a).2),i]
 obtain⟨x1,o,l⟩:=x;obtain⟨m,n,k⟩:=y;simp only at g f a;subst g f a;rfl
def Ck(v:Value):Option (DataW Unit × List MemPlace):=
 match v with
 |.pointer (some ⟨b,0,none⟩)=>some (.lit (.int .i64 (b:Int)),[])
 |.pointer none=>some (.lit (.bool false),[])
 |_=>none
def mA(b):Ck (.pointer (some ⟨b,0,none⟩))=some (.lit (.int .i64 (b:Int)),[]):=rfl
def nU{v}{b:Nat}{a}(h:Ck v=some (.lit (.int .i64 (b:Int)),a)):v=.pointer (some ⟨b,0,none⟩):=by
 unfold Ck at h;split at h
 .rename_i O;simp at h;have e:O=b:=qd;rw[e]
 .simp at h
 cases h
def zP:DataW Unit:=.lit (.bool false)
structure QR(kl:Al->Lit) (A:Dm) (bs:A5) (D:DataW Unit):Prop where
 len:bs.length=A.length
 cL:∀x b,Oe x->bs[Fv x A]?=some b->has D (kl x)=true/\D.atKey (kl x) zP=.lit (.int .i64 (b:Int))
 no:∀x,Oe x->¬Fv x A<A.length->has D (kl x)=false
def QR.start(a):QR a [] [] (.map []):=⟨rfl,λx b _ h=>by simp at h,λx _ _=>by simp[has]⟩
def pP(x y):∀A:Dm,Fv x (A++[y])=if Fv x A<A.length then Fv x A else if M8 y x then A.length else A.length+1:=by intro A;induction A<;>grind[M8,Fv]
def QR.add{d}(K:N9 d){A m D y}{b:Nat}(h:QR d A m D)(n:IsMap D)(k:Oe y)(p:¬Fv y A<A.length):QR d (A++[y]) (m++[b]) (D.put (d y) (.lit (.int .i64 (b:Int)))):=by
 have l:WideAt.IsKeyLit (d y):=UH.key (K y k);have a:=h.len;refine⟨by simp[a],λx o j c=>?_,λx j O=>?_⟩
 .rw[pP]at c;by_cases g:Fv x A<A.length
  .rw[if_pos g,yr qd]at c;have f:d x≠d y:=λe=>p (by rw[<-lG K j k e];exact g);rw[has_put_other f,atKey_put_other f];exact h.cL x o j c
  rw[if_neg g]at c;by_cases i:M8 y x=true
  .rw[if_pos i,yB qd,a,Ko]at c;simp at c;subst c;have e:=Z3.1 i;subst e;exact⟨has_put_same n l _,atKey_put_same n l _ _⟩
  rw[if_neg i,yB qd,a,Nat.add_sub_cancel_left]at c;simp at c
 rw[pP]at O;by_cases g:Fv x A<A.length
 .rw[if_pos g]at O;simp at O;omega
 rw[if_neg g]at O;by_cases i:M8 y x=true
 .rw[if_pos i]at O;simp at O
 have f:d x≠d y:=λe=>i (Z3.2 (lG K j k e).z);rw[has_put_other f];exact h.no x j g
end
def tL(h:P:=by(try dsimp only);(go_split_ands;refine⟨?_,?_,?_,?_,?_,?_⟩<;>first|(simp[*];done))):=h
def sq(h:P:=by exact⟨⟨k+1,a',c',by omega,by go_num,by rw[aw.o];exact aj.e ai,by rw[aw.o];exact AZ HO ai,hb.thn ai⟩,by simp;omega⟩):=h
def tq(h:P:=by
 (try simp only[pQ]);have hHeld:=O;refine wpAnyH_done (by kernel_rfl) ?_ _;refine Yb ?_;have az:w3.ownsRow (w1.heap.size+1) 320 6 (.slice a3 (Cy p.s (k+1)).length ay) (Cy p.s (k+1)).length ((Cy p.s (k+1)).flatMap CN):=by
  have:=aA.o;rw[aw.o,Yy];simpa[CN] using this
 have hlen:(Cy p.s (k+1)).length=(Cy p.s k).length+1:=by rw[aw.o];simp
 obtain⟨u1,u2,u3⟩:=Z5 aj ar az hb;rw[hlen]at u1 u2 u3;go_wp2;exact⟨⟨k+1,a3,ay,by omega,by go_num,by rw[hlen];exact u1,by rw[hlen];exact u2,u3⟩,by simp;omega⟩
 ):=h
def zlL(p m f){q}(w)(Y:Gs q w m p.s)(hc:p.E.size<=maxLen)(hs:FD Tm.le maxLen p.s)(hl:p.s.length<=1048576)(aU:p.s.length<=f) :
  Ca 204 #[.agg #[.bool p.neg,.string p.E,.slice m p.s.length f]] w λe w'=>
   (∃a' c',e=.returned (.agg #[.string (DW p).E,I6 (DW p).al,.slice a' (DW p).y.length c'])/\w'.ownsRow w.heap.size 320 6 (.slice a' (DW p).y.length c') (DW p).y.length ((DW p).y.flatMap CN))/\Bw w w':=by
 have aH:=Ad (λw' h=>rj p m f (q:=q) w' h hc hs hl);cases u:Ej p
 .rw[u]at aH;have L:Hid (DW p=⟨⟨#[]⟩,0,[]⟩):=show DW p=_ from by simp[DW,u]
  go_enter func204,ntmps204;go_wp2_with (go_at_call 198;refine(aH _ (Y.e Br)).rtn λw1 H=>?_;have hr:=((C3.aO (w.alloc (.cells #[.bool p.neg,.string p.E,.slice m p.s.length f] 152)) 245 (.string ⟨#[]⟩) (I6 0) (.slice none 0 0)).e H);simp only[WN]at hr;obtain⟨r0,r1,r2,f0,f1,f2⟩:=hr);have aO:Bw w w1:=Br.thn H;refine bodyPost_ret (v:=.agg #[.string ⟨#[]⟩,I6 0,.slice none 0 0]) (by simp[results,results204,go_sem,r0,r1,r2]) rfl ⟨⟨none,0,by rw[L.o];rfl,by rw[L.o];exact yJ _ _ _ _⟩,?_⟩;exact((aO.setCell qf _).setCell qf _).setCell qf _
 rw[u]at aH;have L:Hid (DW p=⟨p.E,(p.s.length:Int),Cy p.s p.s.length⟩):=show DW p=_ from by simp[DW,u]
 have h6:=Zj u;have aV:=Ad (λi t ht=>lw u (i:=i) (t:=t) ht);go_enter func204,ntmps204;go_wp2_with (go_at_call 198;refine(aH _ (Y.e Br)).rtn λw1 H=>?_;have hr:=((C3.aO (w.alloc (.cells #[.bool p.neg,.string p.E,.slice m p.s.length f] 152)) 245 (.string ⟨#[]⟩) (I6 0) (.slice none 0 0)).e H);simp only[WN]at hr;have hp:=(((C3.aO w 152 (.bool p.neg) (.string p.E) (.slice m p.s.length f)).e Ar).e H);obtain⟨p0,p1,p2,_,_,_⟩:=id hp;have aX:∀o,At (w1.alloc o) w.heap.size 2 (.slice m p.s.length f):=λo=>zab Ar p2);have aO:Bw w w1:=Br.thn H;have hlt:=hr.lt;obtain⟨HR,HP⟩:=An hr hp
 go_loopw [20] (λi wr=>∃(k:Nat)(a':Af)(c':Nat),k<=p.s.length/\i=I6 k/\C3 wr w1.heap.size (.string p.E) (I6 (p.s.length:Int)) (.slice a' (Cy p.s k).length c')/\wr.ownsRow (w1.heap.size+1) 320 6 (.slice a' (Cy p.s k).length c') (Cy p.s k).length ((Cy p.s k).flatMap CN)/\Bw w1 wr) (mz p.s.length)
 .exact⟨0,none,0,qd,rfl,C3.aO _ _ _ _ _,yJ _ _ _ _,Ar⟩
 obtain⟨k,a',c',hk,rfl,aE,I,hb⟩:=hrel;obtain⟨HO,aj⟩:=An I aE;have a4:=aE.lt;have aP:Bw w wr:=aO.thn hb;have aQ:=HR.ay hb hlt;have aN:=HP.ay hb qd;by_cases aW:k<p.s.length
 .obtain⟨t,R⟩:=Bq aW;obtain⟨b,o,ea,hq,c0,c1,c2,c3,c4,c5⟩:=(Y.e aP).get R;subst ea;have aT:=aV k t R;have aJ:=Ad (zoR R);have aZ:=Vu p.s k;obtain⟨G,T,aG⟩:=AK (λw' h=>nh p (some ⟨b,o,none⟩) f (q:=q) k t w' h R hl aU) (λo=>(Y.e aP).e (Gp o)) (λw'=>rn t w');have p0:∀o,(wr.alloc o).cell? ⟨w.heap.size,0,none⟩=_:=λo=>zab (Gp o) aN.1;have p1:∀o,(wr.alloc o).cell? ⟨w.heap.size,1,none⟩=_:=λo=>zab (Gp o) aN.2.1;have p2:∀o,(wr.alloc o).cell? ⟨w.heap.size,2,none⟩=_:=λo=>zab (Gp o) aN.2.2.1;by_cases U:t.w=0
  .have aw:Hid (Cy p.s (k+1)=Cy p.s k):=show Cy p.s (k+1)=_ from by rw[aJ.o];simp[FO,U]
   rw[U]at c0;go_wp2_with (go_at_call 207;refine(G _ (T _)).rtn λn af=>?_;have x0:At n wr.heap.size 0 (I6 0):=zab af ql;have x1:At n wr.heap.size 1 (I6 t.op):=zab af ql;have x2:At n wr.heap.size 2 (.string t.F):=zab af ql;have x3:At n wr.heap.size 3 (I6 t.val.w):=zab af ql;have x4:At n wr.heap.size 4 (I6 t.val.num):=zab af ql;have x5:At n wr.heap.size 5 (.string t.val.O):=zab af ql;have ai:Bw wr n:=Ar.thn af;have J:=(aj.e ai).2.2.1;have aF:=ai.size);exact sq
  cases W:t.F.toList.isEmpty
  .have a0:=Ad (ztz aT W);cases Z:Aq p.s k t.F with
   |none=>
    have aw:Hid (Cy p.s (k+1)=Cy p.s k):=show Cy p.s (k+1)=_ from by rw[aJ.o];simp[FO,W,Z]
    rw[Z]at G;simp only[Uq]at G;go_wp2_with (go_at_call 207;refine(G _ (T _)).rtn λn af=>?_;have x0:At n wr.heap.size 0 (I6 t.w):=zab af ql;have x1:At n wr.heap.size 1 (I6 t.op):=zab af ql;have x2:At n wr.heap.size 2 (.string t.F):=zab af ql;have x3:At n wr.heap.size 3 (I6 t.val.w):=zab af ql;have x4:At n wr.heap.size 4 (I6 t.val.num):=zab af ql;have x5:At n wr.heap.size 5 (.string t.val.O):=zab af ql;have ai:Bw wr n:=Ar.thn af;have J:=(aj.e ai).2.2.1;have aF:=ai.size);exact sq
   |some D=>
    have aw:Hid (Cy p.s (k+1)=Cy p.s k++[⟨(k:Int),Ct t,(D:Int),K1⟩]):=show Cy p.s (k+1)=_ from by rw[aJ.o];simp[FO,U,W,Z]
    rw[Z]at G;simp only[Uq]at G;have aY:((D:Int) != -1)=true:=qf;go_wp2_with (go_at_call 207;refine(G _ (T _)).rtn λn af=>?_;have x0:At n wr.heap.size 0 (I6 t.w):=zab af ql;have x1:At n wr.heap.size 1 (I6 t.op):=zab af ql;have x2:At n wr.heap.size 2 (.string t.F):=zab af ql;have x3:At n wr.heap.size 3 (I6 t.val.w):=zab af ql;have x4:At n wr.heap.size 4 (I6 t.val.num):=zab af ql;have x5:At n wr.heap.size 5 (.string t.val.O):=zab af ql;have ai:Bw wr n:=Ar.thn af;have J:=(aj.e ai).2.2.1;have aF:=ai.size);refine wp_region_noPanic ?_;refine wp_region_held_drew (S:=(λw'=>At w' wr.heap.size 0 (I6 t.w)/\At w' wr.heap.size 1 (I6 t.op)/\At w' wr.heap.size 2 (.string t.F)/\At w' wr.heap.size 3 (I6 t.val.w)/\At w' wr.heap.size 4 (I6 t.val.num)/\At w' wr.heap.size 5 (.string t.val.O))) qg ?_ (λhHeld=>?_)
    .exact tL
    refine sr 0 1 ?_;refine sr 2 4 ?_;refine sr 5 6 ?_;refine r2 1 4 (λK d=>?_) λK d=>?_
    .go_simp;refine d _ _ ?hS3 (λO=>?rest3)
     case hS3=>((try dsimp only);(go_split_ands;refine⟨?_,?_,?_,?_,?_,?_⟩<;>first|(simp[*];done)))
     (try simp only[pQ]);have hHeld:=O;refine r1 4 λK d=>?_;go_simp;(go_at_call 208;refine(aG _).j ?_;rintro e' C ⟨rfl,z⟩);(try go_wp2_with fail);refine d _ _ ?hS5 (λO=>?rest5)
     case hS5=>((try dsimp only);(go_split_ands;refine⟨?_,?_,?_,?_,?_,?_⟩<;>first|exact zab z qk))
     (try simp only[pQ]);have hHeld:=O;have am:Bw wr C:=ai.drew.c (z.j Xr);refine sr 6 7 ?_;refine r1 7 λK d=>?_;go_simp;refine d _ _ ?hS7 (λO=>?rest7)
     case hS7=>((try dsimp only);(go_split_ands;refine⟨?_,?_,?_,?_,?_,?_⟩<;>first|(simp[go_sem, *];done)|exact zab Ar qk))
     (try simp only[pQ]);have hHeld:=O;have r:=am.alloc Si (.cells (CN ⟨(k:Int),Ct t,(D:Int),K1⟩).toArray 320);have ah:=r.size;refine r1 8 λK d=>?_;(refine GG qh (.tmp 51) (.tmp 57) 243 qh (w1.heap.size+1) 320 _ 6 56 underlying243 Rl qh qd _ (Cy p.s k).length _ qh (AZ HO r) (some ⟨_,0,none⟩) 1 1 qh (CN ⟨(k:Int),Ct t,(D:Int),K1⟩) qh (λe=>qo) (CH _ _ _ _ qh) (PZ _) qj qd qC ?_;intro a3 ay w3 aA x M;have A:(Value.slice a' (Cy p.s k).length c').ownBlock≠some wr.heap.size:=(λe=>qV);have ar:Below (w1.heap.size+1) wr w3:=((r.j qd).grown x qC (λg u=>(HO.lt g u).1));obtain⟨_,_,m2,_,_,N⟩:=aj.ay ar qd);refine d _ _ ?hS9 (λO=>?rest9)
     case hS9=>((try dsimp only);(go_split_ands;refine⟨?_,?_,?_,?_,?_,?_⟩<;>first|exact(Ep x A qN).c qk))
     (try simp only[pQ]);have hHeld:=O;refine sr 9 10 ?_;refine r1 10 λK d=>?_;go_simp;refine d _ _ ?hS11 (λO=>?rest11)
     case hS11=>((try dsimp only);(go_split_ands;refine⟨?_,?_,?_,?_,?_,?_⟩<;>first|(simp[go_sem, *];done)))
     exact tq
    go_simp;(go_at_call 208;refine(aG _).j ?_;rintro e' C ⟨rfl,z⟩);(try go_wp2_with fail);refine d _ _ ?hS12 (λO=>?rest12)
    case hS12=>((try dsimp only);(go_split_ands;refine⟨?_,?_,?_,?_,?_,?_⟩<;>first|exact zab z qk))
    (try simp only[pQ]);have hHeld:=O;have am:Bw wr C:=ai.drew.c (z.j Xr);have q4:=zab z (show n.drew.cell? ⟨w1.heap.size,2,none⟩=_ from J);have q5:∀o,(C.alloc o).cell? ⟨w1.heap.size,2,none⟩=_:=λo=>zab Ar q4;refine sr 6 7 ?_;refine r2 1 7 (λK d=>?_) λK d=>?_
    focus
     go_simp;refine d _ _ ?hS15 (λO=>?rest15)
     case hS15=>((try dsimp only);(go_split_ands;refine⟨?_,?_,?_,?_,?_,?_⟩<;>first|assumption|exact zab z qk))
     (try simp only[pQ]);have hHeld:=O;refine r1 7 λK d=>?_;go_simp;refine d _ _ ?hS17 (λO=>?rest17)
     case hS17=>((try dsimp only);(go_split_ands;refine⟨?_,?_,?_,?_,?_,?_⟩<;>first|(simp[go_sem, *];done)|exact zab Ar qk))
     (try simp only[pQ]);have hHeld:=O;have r:=am.alloc Si (.cells (CN ⟨(k:Int),Ct t,(D:Int),K1⟩).toArray 320);have ah:=r.size;refine r1 8 λK d=>?_;(refine GG qh (.tmp 51) (.tmp 57) 243 qh (w1.heap.size+1) 320 _ 6 56 underlying243 Rl qh qd _ (Cy p.s k).length _ qh (AZ HO r) (some ⟨_,0,none⟩) 1 1 qh (CN ⟨(k:Int),Ct t,(D:Int),K1⟩) qh (λe=>qo) (CH _ _ _ _ qh) (PZ _) qj qd qC ?_;intro a3 ay w3 aA x M;have A:(Value.slice a' (Cy p.s k).length c').ownBlock≠some wr.heap.size:=(λe=>qV);have ar:Below (w1.heap.size+1) wr w3:=((r.j qd).grown x qC (λg u=>(HO.lt g u).1));obtain⟨_,_,m2,_,_,N⟩:=aj.ay ar qd);refine d _ _ ?hS19 (λO=>?rest19)
     case hS19=>((try dsimp only);(go_split_ands;refine⟨?_,?_,?_,?_,?_,?_⟩<;>first|exact(Ep x A qN).c qk))
     (try simp only[pQ]);have hHeld:=O;refine sr 9 10 ?_;refine r1 10 λK d=>?_;go_simp;refine d _ _ ?hS21 (λO=>?rest21)
     case hS21=>((try dsimp only);(go_split_ands;refine⟨?_,?_,?_,?_,?_,?_⟩<;>first|(simp[go_sem, *];done)))
    rotate_left
    focus
     go_simp;refine d _ _ ?hS22 (λO=>?rest22)
     case hS22=>((try dsimp only);(go_split_ands;refine⟨?_,?_,?_,?_,?_,?_⟩<;>first|(simp[go_sem, *];done)|exact zab Ar qk))
     (try simp only[pQ]);have hHeld:=O;refine r1 1 λK d=>?_;go_simp;refine d _ _ ?hS24 (λO=>?rest24)
     case hS24=>((try dsimp only);(go_split_ands;refine⟨?_,?_,?_,?_,?_,?_⟩<;>first|assumption))
     (try simp only[pQ]);have hHeld:=O;have r:=am.alloc Si (.cells (CN ⟨(k:Int),Ct t,(D:Int),K1⟩).toArray 320);have ah:=r.size;refine r1 8 λK d=>?_;(refine GG qh (.tmp 51) (.tmp 57) 243 qh (w1.heap.size+1) 320 _ 6 56 underlying243 Rl qh qd _ (Cy p.s k).length _ qh (AZ HO r) (some ⟨_,0,none⟩) 1 1 qh (CN ⟨(k:Int),Ct t,(D:Int),K1⟩) qh (λe=>qo) (CH _ _ _ _ qh) (PZ _) qj qd qC ?_;intro a3 ay w3 aA x M;have A:(Value.slice a' (Cy p.s k).length c').ownBlock≠some wr.heap.size:=(λe=>qV);have ar:Below (w1.heap.size+1) wr w3:=((r.j qd).grown x qC (λg u=>(HO.lt g u).1));obtain⟨_,_,m2,_,_,N⟩:=aj.ay ar qd);refine d _ _ ?hS26 (λO=>?rest26)
     case hS26=>((try dsimp only);(go_split_ands;refine⟨?_,?_,?_,?_,?_,?_⟩<;>first|exact(Ep x A qN).c qk))
     (try simp only[pQ]);have hHeld:=O;refine sr 9 10 ?_;refine r1 10 λK d=>?_;go_simp;refine d _ _ ?hS28 (λO=>?rest28)
     case hS28=>((try dsimp only);(go_split_ands;refine⟨?_,?_,?_,?_,?_,?_⟩<;>first|(simp[go_sem, *];done)))
    rotate_left
    all_goals
     (try simp only[pQ]);have hHeld:=O;refine wpAnyH_done qg ?_ _;refine Yb ?_;have az:w3.ownsRow (w1.heap.size+1) 320 6 (.slice a3 (Cy p.s (k+1)).length ay) (Cy p.s (k+1)).length ((Cy p.s (k+1)).flatMap CN):=by
      have:=aA.o;rw[aw.o,Yy];simpa[CN] using this
     have hlen:(Cy p.s (k+1)).length=(Cy p.s k).length+1:=by rw[aw.o];simp
     obtain⟨u1,u2,u3⟩:=Z5 aj ar az hb;rw[hlen]at u1 u2 u3;go_wp2;exact⟨⟨k+1,a3,ay,qd,qm,by rw[hlen];exact u1,by rw[hlen];exact u2,u3⟩,qe⟩
  have aw:Hid (Cy p.s (k+1)=Cy p.s k++[⟨(k:Int),Ct t, -1,t.val⟩]):=show Cy p.s (k+1)=_ from by rw[aJ.o];simp[FO,U,W]
  go_wp2_with (go_at_call 207;refine(G _ (T _)).rtn λn af=>?_;have x0:At n wr.heap.size 0 (I6 t.w):=zab af ql;have x1:At n wr.heap.size 1 (I6 t.op):=zab af ql;have x2:At n wr.heap.size 2 (.string t.F):=zab af ql;have x3:At n wr.heap.size 3 (I6 t.val.w):=zab af ql;have x4:At n wr.heap.size 4 (I6 t.val.num):=zab af ql;have x5:At n wr.heap.size 5 (.string t.val.O):=zab af ql;have ai:Bw wr n:=Ar.thn af;have J:=(aj.e ai).2.2.1;have aF:=ai.size);refine wp_region_noPanic ?_;refine wp_region_held_drew (S:=(λw'=>At w' wr.heap.size 0 (I6 t.w)/\At w' wr.heap.size 1 (I6 t.op)/\At w' wr.heap.size 2 (.string t.F)/\At w' wr.heap.size 3 (I6 t.val.w)/\At w' wr.heap.size 4 (I6 t.val.num)/\At w' wr.heap.size 5 (.string t.val.O))) qg ?_ (λhHeld=>?_)
  .exact tL
  refine sr 0 1 ?_;refine sr 2 4 ?_;refine sr 5 7 ?_;refine r2 1 4 (λK d=>?_) λK d=>?_
  .go_simp;refine d _ _ ?hS31 (λO=>?rest31)
   case hS31=>((try dsimp only);(go_split_ands;refine⟨?_,?_,?_,?_,?_,?_⟩<;>first|(simp[*];done)))
   (try simp only[pQ]);have hHeld:=O;refine r1 4 λK d=>?_;go_simp;(go_at_call 208;refine(aG _).j ?_;rintro e' C ⟨rfl,z⟩);(try go_wp2_with fail);refine d _ _ ?hS33 (λO=>?rest33)
   case hS33=>((try dsimp only);(go_split_ands;refine⟨?_,?_,?_,?_,?_,?_⟩<;>first|exact zab z qk))
   (try simp only[pQ]);have hHeld:=O;have am:Bw wr C:=ai.drew.c (z.j Xr);refine sr 7 8 ?_;refine r1 8 λK d=>?_;go_simp;refine d _ _ ?hS35 (λO=>?rest35)
   case hS35=>((try dsimp only);(go_split_ands;refine⟨?_,?_,?_,?_,?_,?_⟩<;>first|(simp[go_sem, *];done)|exact zab Ar qk))
   (try simp only[pQ]);have hHeld:=O;have r:=am.alloc Si (.cells (CN ⟨(k:Int),Ct t, -1,t.val⟩).toArray 320);have ah:=r.size;refine r1 9 λK d=>?_;(refine GG qh (.tmp 37) (.tmp 44) 243 qh (w1.heap.size+1) 320 _ 6 56 underlying243 Rl qh qd _ (Cy p.s k).length _ qh (AZ HO r) (some ⟨_,0,none⟩) 1 1 qh (CN ⟨(k:Int),Ct t, -1,t.val⟩) qh (λe=>qo) (CH _ _ _ _ qh) (PZ _) qj qd qC ?_;intro a3 ay w3 aA x M;have A:(Value.slice a' (Cy p.s k).length c').ownBlock≠some wr.heap.size:=(λe=>qV);have ar:Below (w1.heap.size+1) wr w3:=((r.j qd).grown x qC (λg u=>(HO.lt g u).1));obtain⟨_,_,m2,_,_,N⟩:=aj.ay ar qd);refine d _ _ ?hS37 (λO=>?rest37)
   case hS37=>((try dsimp only);(go_split_ands;refine⟨?_,?_,?_,?_,?_,?_⟩<;>first|exact(Ep x A qN).c qk))
   (try simp only[pQ]);have hHeld:=O;refine sr 10 11 ?_;refine r1 11 λK d=>?_;go_simp;refine d _ _ ?hS39 (λO=>?rest39)
   case hS39=>((try dsimp only);(go_split_ands;refine⟨?_,?_,?_,?_,?_,?_⟩<;>first|(simp[go_sem, *];done)))
   exact tq
  go_simp;(go_at_call 208;refine(aG _).j ?_;rintro e' C ⟨rfl,z⟩);(try go_wp2_with fail);refine d _ _ ?hS40 (λO=>?rest40)
  case hS40=>((try dsimp only);(go_split_ands;refine⟨?_,?_,?_,?_,?_,?_⟩<;>first|exact zab z qk))
  (try simp only[pQ]);have hHeld:=O;have am:Bw wr C:=ai.drew.c (z.j Xr);have q4:=zab z (show n.drew.cell? ⟨w1.heap.size,2,none⟩=_ from J);have q5:∀o,(C.alloc o).cell? ⟨w1.heap.size,2,none⟩=_:=λo=>zab Ar q4;refine sr 7 8 ?_;refine r2 1 8 (λK d=>?_) λK d=>?_
  focus
   go_simp;refine d _ _ ?hS43 (λO=>?rest43)
   case hS43=>((try dsimp only);(go_split_ands;refine⟨?_,?_,?_,?_,?_,?_⟩<;>first|assumption|exact zab z qk))
   (try simp only[pQ]);have hHeld:=O;refine r1 8 λK d=>?_;go_simp;refine d _ _ ?hS45 (λO=>?rest45)
   case hS45=>((try dsimp only);(go_split_ands;refine⟨?_,?_,?_,?_,?_,?_⟩<;>first|(simp[go_sem, *];done)|exact zab Ar qk))
   (try simp only[pQ]);have hHeld:=O;have r:=am.alloc Si (.cells (CN ⟨(k:Int),Ct t, -1,t.val⟩).toArray 320);have ah:=r.size;refine r1 9 λK d=>?_;(refine GG qh (.tmp 37) (.tmp 44) 243 qh (w1.heap.size+1) 320 _ 6 56 underlying243 Rl qh qd _ (Cy p.s k).length _ qh (AZ HO r) (some ⟨_,0,none⟩) 1 1 qh (CN ⟨(k:Int),Ct t, -1,t.val⟩) qh (λe=>qo) (CH _ _ _ _ qh) (PZ _) qj qd qC ?_;intro a3 ay w3 aA x M;have A:(Value.slice a' (Cy p.s k).length c').ownBlock≠some wr.heap.size:=(λe=>qV);have ar:Below (w1.heap.size+1) wr w3:=((r.j qd).grown x qC (λg u=>(HO.lt g u).1));obtain⟨_,_,m2,_,_,N⟩:=aj.ay ar qd);refine d _ _ ?hS47 (λO=>?rest47)
   case hS47=>((try dsimp only);(go_split_ands;refine⟨?_,?_,?_,?_,?_,?_⟩<;>first|exact(Ep x A qN).c qk))
   (try simp only[pQ]);have hHeld:=O;refine sr 10 11 ?_;refine r1 11 λK d=>?_;go_simp;refine d _ _ ?hS49 (λO=>?rest49)
   case hS49=>((try dsimp only);(go_split_ands;refine⟨?_,?_,?_,?_,?_,?_⟩<;>first|(simp[go_sem, *];done)))
  rotate_left
  focus
   go_simp;refine d _ _ ?hS50 (λO=>?rest50)
   case hS50=>((try dsimp only);(go_split_ands;refine⟨?_,?_,?_,?_,?_,?_⟩<;>first|(simp[go_sem, *];done)|exact zab Ar qk))
   (try simp only[pQ]);have hHeld:=O;refine r1 1 λK d=>?_;go_simp;refine d _ _ ?hS52 (λO=>?rest52)
   case hS52=>((try dsimp only);(go_split_ands;refine⟨?_,?_,?_,?_,?_,?_⟩<;>first|assumption))
   (try simp only[pQ]);have hHeld:=O;have r:=am.alloc Si (.cells (CN ⟨(k:Int),Ct t, -1,t.val⟩).toArray 320);have ah:=r.size;refine r1 9 λK d=>?_;(refine GG qh (.tmp 37) (.tmp 44) 243 qh (w1.heap.size+1) 320 _ 6 56 underlying243 Rl qh qd _ (Cy p.s k).length _ qh (AZ HO r) (some ⟨_,0,none⟩) 1 1 qh (CN ⟨(k:Int),Ct t, -1,t.val⟩) qh (λe=>qo) (CH _ _ _ _ qh) (PZ _) qj qd qC ?_;intro a3 ay w3 aA x M;have A:(Value.slice a' (Cy p.s k).length c').ownBlock≠some wr.heap.size:=(λe=>qV);have ar:Below (w1.heap.size+1) wr w3:=((r.j qd).grown x qC (λg u=>(HO.lt g u).1));obtain⟨_,_,m2,_,_,N⟩:=aj.ay ar qd);refine d _ _ ?hS54 (λO=>?rest54)
   case hS54=>((try dsimp only);(go_split_ands;refine⟨?_,?_,?_,?_,?_,?_⟩<;>first|exact(Ep x A qN).c qk))
   (try simp only[pQ]);have hHeld:=O;refine sr 10 11 ?_;refine r1 11 λK d=>?_;go_simp;refine d _ _ ?hS56 (λO=>?rest56)
   case hS56=>((try dsimp only);(go_split_ands;refine⟨?_,?_,?_,?_,?_,?_⟩<;>first|(simp[go_sem, *];done)))
  rotate_left
  all_goals
   (try simp only[pQ]);have hHeld:=O;refine wpAnyH_done qg ?_ _;refine Yb ?_;have az:w3.ownsRow (w1.heap.size+1) 320 6 (.slice a3 (Cy p.s (k+1)).length ay) (Cy p.s (k+1)).length ((Cy p.s (k+1)).flatMap CN):=by
    have:=aA.o;rw[aw.o,Yy];simpa[CN] using this
   have hlen:(Cy p.s (k+1)).length=(Cy p.s k).length+1:=by rw[aw.o];simp
   obtain⟨u1,u2,u3⟩:=Z5 aj ar az hb;rw[hlen]at u1 u2 u3;go_wp2;exact⟨⟨k+1,a3,ay,qd,qm,by rw[hlen];exact u1,by rw[hlen];exact u2,u3⟩,qe⟩
 have aR:k=p.s.length:=qd;subst aR;obtain⟨o0,o1,o2,_,_,_⟩:=aE;obtain⟨r0,r1,r2,f0,f1,f2⟩:=aQ;go_wp2;refine bodyPost_ret (v:=.agg #[.string p.E,I6 (p.s.length:Int),.slice a' (Cy p.s p.s.length).length c']) (by simp[results,results204,go_sem,r0,r1,r2]) rfl ⟨⟨a',c',by rw[L.o],?_⟩,?_⟩
 .rw[L.o];refine C4 (Ci HO (λg u=>?_)) qd;have aS:=(HO.lt g u).1;exact(((Jb.setCell (B:=w1.heap.size+1) qd _).c (Jb.setCell qd _)).c (Jb.setCell qd _)) g aS
 exact((aP.setCell qf _).setCell qf _).setCell qf _
section
open Go.Maps
def Pz{n}(a:-9223372036854775808<=n)(b:n<=9223372036854775807):(Lit.int .i64 n).wf=true:=by
 simp[Lit.wf,IntKind.min,IntKind.max,IntKind.signed,IntKind.bits];omega
def zoA{ts}:∀{k:Nat}{u:Tt},u∈Cy ts k->∃i t,i<k/\ts[i]?=some t/\FO ts i t=some u:=by intro k;induction k<;>grind[Cy,FO]
def zoo{p}(e:p.E.size<=maxLen)(hv:∀t∈p.s,ER t.val):Oe (DW p):=by
 unfold DW;split
 .rename_i d;have g:=Zj d;refine⟨e,Pz (n:=(p.s.length:Int)) qd qd,yi (Vu _ _) g,λu hu=>?_⟩;obtain⟨i,t,m,c,hu⟩:=zoA hu;have f:=lw d c;have l:=hv t (yd c);have o:1<=Ct t/\Ct t<=6:=by
   unfold Ct;split
   .rename_i hk;have j:t.w=3:=T9;simp[DC,j]at f;omega
   omega
  have O:(Lit.int .i64 (Ct t)).wf=true:=Pz qd qd;have b:(Lit.int .i64 (i:Int)).wf=true:=Pz qd qd;unfold FO at hu;split at hu
  .cases hu
  split at hu
  .injection hu with hu;subst hu;exact⟨⟨b,O,(show(Lit.int .i64 (-1)).wf=true by decide),l⟩,by show Ct t≠0;omega⟩
  cases a:Aq p.s i t.F with
  |none=>rw[a]at hu;cases hu
  |some k=>
   rw[a]at hu;injection hu with hu;subst hu;have hk:k<0+(p.s.take i).length:=VL a;have q:k<6:=by simp at hk;omega
   exact⟨⟨b,O,Pz (n:=(k:Int)) qd qd,(show ER K1 from⟨qi,qi,qi⟩)⟩,by show Ct t≠0;omega⟩
 exact⟨qi,qi,qf,λu hu=>by simp at hu⟩
def GB(w:Aa)(gb mb:Nat)(v:Value):Prop:=w.heap[gb]?=some (.cells #[.map (some mb),v] 238 (0,0))
def XX(w:Aa)(b:Nat)(x:QS)(i:Nat):Prop:=w.heap[b]?=some (.cells #[.string x.1.E,.int .i64 x.1.al,x.2,.int .i64 (i:Int),.slice none 0 0] 247 (0,0))
def GB.J{w a mb v}(h:GB w a mb v):(At w a 0 (.map (some mb))/\At w a 1 v)/\(∀j,w.frozen? ⟨a,j,none⟩=false)/\a<w.heap.size:=by
 unfold GB at h;refine⟨⟨?_,?_⟩,λj=>?_,Ap h⟩<;>simp[World.cell?,World.frozen?,h]
def GB.db{w a mb v}(h:GB w a mb v)(x):GB (w.setCell ⟨a,1,none⟩ x) a mb x:=by
 have:=C7 (i:=1) h x;trivial
def zsO{P:Aa->Prop}{w a mb v y}(O:GB w a mb v)(h:∀wt,GB wt a mb y->Turned w wt a->P wt):P (w.setCell ⟨a,1,none⟩ y):=h _ (O.db y) (Turned.setCells [y] 1 w a)
def Gb(bs:A5):Aj:=bs.map λb=>.pointer (some ⟨b,0,none⟩)
structure NS(kl:Al->Lit) (w:Aa) (base gb mb:Nat) (la:Af) (lc:Nat) (L:CD) (bs:A5) (D:DataW Unit):Prop where
 box:GB w gb mb (.slice la L.length lc)
 map:w.ownsMap prog 323 Ck mb L.length D
 inv:QR kl (L.map Prod.fst) bs D
 row:w.ownsRow base 194 1 (.slice la L.length lc) L.length (Gb bs)
 node:∀i x b,L[i]?=some x->bs[i]?=some b->XX w b x i/\base<=b
 aM:∀x∈L,QT w base x
 bj:(L.map Prod.snd).Pairwise BH
 bd:base<=gb/\base<=mb
theorem Lt{w:Aa}{k b n D}(h:w.ownsMap prog k Ck b n D):∃es c,w.heap[b]?=some (.map es c):=by
 obtain⟨es,a,d,_⟩:=h
 grind
theorem J_{w w':Aa}{k b n D}(h:w.ownsMap prog k Ck b n D)(d:w'.heap[b]?=w.heap[b]?):w'.ownsMap prog k Ck b n D:=by
 obtain⟨es,a,e,f⟩:=h;exact⟨es,a,d.c e,f⟩
def NS.C{l w w' base f mb g j L k D}(h:NS l w base f mb g j L k D)(d:Bw w w'):NS l w' base f mb g j L k D:=
 ⟨(d.block f (Ap h.box)).c h.box,J_ h.map (d.block mb h.map.lt),h.inv,AZ h.row d,λi x b e a=>⟨(d.block b (Ap (h.node i x b e a).1)).c (h.node i x b e a).1,(h.node i x b e a).2⟩,λx e=>(h.aM x e).C d,h.bj,h.bd⟩
structure Fz(gb mb:Nat) (row:AD) (w w':Aa):Prop where
 rest:Below 0 w w'
 block:∀k,k<w.heap.size->k≠gb->k≠mb->row≠some k->w'.heap[k]?=w.heap[k]?
def Fz.u{a mb row w w'}(h:Bw w w'):Fz a mb row w w':=⟨h.j (yn _),λk b _ _ _=>h.block k b⟩
def Fz.aa{q w w' base d mb base' f g L p D e m n v xs}(r:Fz d mb (Value.slice f L.length g).ownBlock w w')(h:w.ownsRow base' e m v n xs)(b:NS q w base d mb f g L p D)(l:238≠e)(o:194≠e):w'.ownsRow base' e m v n xs:=
 Ci h λk i=>by
  obtain⟨c,a⟩:=A7 h i
  refine r.block k (h.lt k i).2 (λe=>?_) (λe=>?_) (λe=>?_)
  .subst e
   exact Cw b.box a l
  .subst e
   obtain⟨es,t,j⟩:=Lt b.map
   rw[Bk,j]at a
   cases a
  obtain⟨s,O⟩:=A7 b.row e
  exact Cw O a o
def Fz.box{n w w' base d mb f g L m D}{b:Nat}{c t i}(o:Fz d mb (Value.slice f L.length g).ownBlock w w')(h:w.heap[b]?=some (.cells c t i))(a:NS n w base d mb f g L m D)(k:238≠t)(l:194≠t):w'.heap[b]?=some (.cells c t i):=by
 refine(o.block b (Ap h) (λe=>?_) (λe=>?_) (λe=>?_)).c h
 .subst e;exact Cw a.box h k
 .subst e;obtain⟨es,q,j⟩:=Lt a.map;rw[j]at h;cases h
 obtain⟨p,O⟩:=A7 a.row e;exact Cw O h l
def zb:(prog.info? 194).map (λi=>(i.zero,i.size,i.bytes))=some (some (.pointer none),1,8):=qg
def zu(w):(zeroValue 194).run prog w=.ok (.pointer none) w:=qg
def NS.add{B}(K:N9 B){w H R q base r mb nb I p E l L T D x o}(h:NS B w base r mb I E L T D)(Z:QT w base x)(aA:∀y∈L,BH y.2 x.2)(W:Oe x.1)(aB:¬Fv x.1 (L.map Prod.fst)<(L.map Prod.fst).length)(aj:XX w nb x L.length)(ao:base<=nb)(ar:H.ownsMap prog 323 Ck mb (L.length+1) (D.put (B x.1) (.lit (.int .i64 (nb:Int)))))(C:w.grownBy H (some mb))(M:R.ownsRow base 194 1 (.slice p (L.length+1) l) (L.length+1) (Gb T++[Pn nb]))(g:(H.alloc o).grownBy R (Value.slice I L.length E).ownBlock)(au:GB q r mb (.slice p (L.length+1) l))(j:Turned R q r) :
  NS B q base r mb p l (L++[x]) (T++[nb]) (D.put (B x.1) (.lit (.int .i64 (nb:Int))))/\Fz r mb (Value.slice I L.length E).ownBlock w q:=by
 obtain⟨aD,aE,Y⟩:=Lt h.map;have aC:=C.size;have aw:=g.size;simp at aw
 -- a block that is none of the TK stays
 have stay:∀k,k<w.heap.size->k≠r->k≠mb->(Value.slice I L.length E).ownBlock≠some k->q.heap[k]?=w.heap[k]?:=λk f G N h3=>by
  rw[j.block k G,g.block k qe (λe=>h3 e.z),yN _ _ _ qd,C.block k f (λe=>N MT)]
 have aq:r≠mb:=λe=>by have:=h.box;unfold GB at this;rw[e,Y]at this;cases this
 have O:∀(k:Nat)(c:Bl)(t:TypeId)(U:Nat × Nat),w.heap[k]?=some (.cells c t U)->t≠238->t≠194->q.heap[k]?=some (.cells c t U):=λk c t U f G N=>by
  refine(stay k (Ap f) (λe=>?_) (λe=>?_) (λe=>?_)).c f
  .subst e;exact Cw f h.box G
  .subst e;rw[Y]at f;cases f
  obtain⟨c',s⟩:=A7 h.row e;exact Cw f s N
 have ai:∀{e:TypeId}{m:Nat}{v:Value}{n:Nat}{xs:Aj},w.ownsRow base e m v n xs->e≠238->e≠194->q.ownsRow base e m v n xs:=λho G N=>Ci ho λk f=>by
  obtain⟨c,J⟩:=A7 ho f;rw[O k _ _ _ J G N,J]
 have ax:∀k,(Value.slice I L.length E).ownBlock=some k->k≠mb:=λk f e=>by
  obtain⟨c',s⟩:=A7 h.row f;rw[Bk,e,Y]at s;cases s
 refine⟨⟨?_,?_,?_,?_,?_,?_,?_,h.bd⟩,⟨?_,stay⟩⟩
 .simpa using au
 .have:q.ownsMap prog 323 Ck mb (L.length+1) (D.put (B x.1) (.lit (.int .i64 (nb:Int)))):=by
   refine J_ ar ?_;have hlt:mb<H.heap.size:=ar.lt;rw[j.block mb (λe=>aq e.z),g.block mb qe (λe=>ax mb e.z rfl),yN _ _ _ hlt]
  simpa using this
 .rw[yz];exact h.inv.add K h.map.isMap W aB
 .have h7:q.ownsRow base 194 1 (.slice p (L.length+1) l) (L.length+1) (Gb T++[Pn nb]):=Ci M λk f=>j.block k (λe=>by
   obtain⟨c,J⟩:=A7 M f;subst e;have ay:R.heap[k]?=H.heap[k]?:=by
    rw[g.block k (by have:=Ap h.box;simp;omega) (λe=>by obtain⟨c',s⟩:=A7 h.row e.z;exact Cw h.box s qi),yN _ _ _ (by have:=Ap h.box;omega)]
   rw[Bk,ay,C.block k (Ap h.box) (λe=>aq MT)]at J;exact Cw h.box J qi)
  simpa[Gb] using h7
 .intro i y b d A;have am:=h.inv.len;simp at am;by_cases hi:i<L.length
  .rw[yr hi]at d;rw[yr qd]at A;exact⟨O b _ _ _ (h.node i y b d A).1 qi qi,(h.node i y b d A).2⟩
  have az:i=L.length:=by
   have:=(yf.1 d).1;simp at this;omega
  subst az;simp at d;subst d;rw[yB qd,am,Ko]at A;simp at A;subst A;exact⟨O nb _ _ _ aj qi qi,ao⟩
 .intro y d;rcases yp.1 d with d|d
  .exact⟨(h.aM y d).1,ai (h.aM y d).2 qi qi⟩
  simp at d;subst d;exact⟨Z.1,ai Z.2 qi qi⟩
 .rw[yz,YA];refine⟨h.bj,qf,λu hu v hv=>?_⟩;obtain⟨y,d,rfl⟩:=yv.1 hu;simp at hv;subst hv;exact aA y d
 refine⟨?_,?_,?_,?_,λk f=>qd⟩
 .exact(j.os.c g.os).c C.os
 .exact(j.tape.c g.tape).c C.tape
 .exact(j.output.c g.output).c C.output
 rw[j.size];omega
def zy(kl:Al->Lit)(base gb mb:Nat)(la:Af)(lc:Nat)(L:CD)(bs:A5)(p:Pt)(w:Aa)(e:Ending)(w':Aa):Prop:=
 ∃la' lc' L' bs' D' b,e=.returned (.pointer (some ⟨b,0,none⟩))/\NS kl w' base gb mb la' lc' L' bs' D'/\L'.map Prod.fst=Gf (L.map Prod.fst) (DW p)/\bs'[Fv (DW p) (L.map Prod.fst)]?=some b/\Fz gb mb (Value.slice la L.length lc).ownBlock w w'/\(∀(i n:Nat),bs[i]?=some n->bs'[i]?=some n)/\(∀g,(Value.slice la' L'.length lc').ownBlock=some g->(Value.slice la L.length lc).ownBlock=some g∨w.heap.size<=g)
def Fz.cg{a mb row u v w}(h:Bw u v)(k:Fz a mb row v w):Fz a mb row u w:=⟨(h.j (yn _)).c k.rest,λj hj e b d=>(k.block j (yg hj h.size) e b d).c (h.block j hj)⟩
def ztV{P:Aa->Prop}{w0 u o}(hu:Bw w0 u)(a:u.heap[w0.heap.size]?=some o)(h:∀wt,Bw w0 wt->wt.heap[w0.heap.size]?=some o->P wt):P u:=h u hu a
def jJ(h:P:=by
 refine' yieldsIf_load_mid (by rfl) _ _ rfl _ _ rfl _ _ ?hS ?hu ?hd ?hj
 case hS=>(intro w aw;exact aw.2)
 case hu=>exact aH
 case hd=>rfl
 case hj=>exact ao
 ):=h
def vx(kl)(K:N9 kl)(p aE aA){q}(base f mb I H L R D w)(hN:NS kl w base f mb I H L R D)(a0:Gs q w aE p.s)(ab:p.E.size<=maxLen)(aL:FD Tm.le maxLen p.s)(bj:p.s.length<=1048576)(bk:p.s.length<=aA)(bf:∀t∈p.s,ER t.val)(hL:L.length<=1000)(hbase:base<=w.heap.size) :
  Ca 149 #[.pointer (some ⟨f,0,none⟩),.agg #[.bool p.neg,.string p.E,.slice aE p.s.length aA]] w (zy kl base f mb I H L R p w):=by
 obtain⟨HN,HT,aU,HX,HA⟩:=Ei hN a0 aL (zoo ab bf) (λo=>Au.alloc Bg o:∀o,Bw w (w.alloc o));have aH:=underlying323;clear hN a0 aL bf;go_enter func149,ntmps149;go_wp2_with fail;refine(zlL p aE aA _ (HT.e (HA _)) ab aU bj bk).j ?_;rintro e B ⟨⟨m,r,rfl,aN⟩,ax⟩;obtain⟨N1,B1⟩:=An ((HN.C (HA _)).C ax) ((HA _).c (ax.j (HA _).size));have ag:=ax.size;simp at ag;have aI:=Ad (C4 aN (show w.heap.size<=_ by simp));obtain⟨X,hX⟩:=AF (DW p);have aY:X.y.length<=6:=by rw[hX];exact VR p
 rw[<-hX]at aI HX⊢;have ay:=Ad hX;clear hX aN ax HA HT aU;go_upto_region 2 with fail;refine BF ?_;intro w2 ar aD;obtain⟨g0,g1,g2⟩:=Ax aD;obtain⟨N2,B2,aC⟩:=AK (N1.C ar) (B1.thn ar) (AZ aI ar);have bC:=ar.size;have bt:B.heap.size<w2.heap.size:=Ap aD;clear ar aD N1 B1 aI;go_wp2_with fail;refine(ztU X m r w2 (F7.owns aC) aY).rtn λG ah=>?_;have aV:(Di X).length=38:=by unfold Di;rw[Tx,S2 _ aY]
 have HLK:=Ad aV;have aP:=zab ah g0;have aM:=zab ah g1;have a5:=zab ah g2;obtain⟨N3,B3,aR⟩:=AK (N2.C ah) (B2.thn ah) (AZ aC ah);have bz:=ah.size;clear aV g0 g1 g2 ah N2 B2 aC;go_upto_region 3 with(refine Ec qh 323 (.tmp 6) (.tmp 12) qh G.heap.size (Di X) qh qh _ 323 (FP _ _ _ rfl) (by rw[HLK.o];rfl) (by rw[HLK.o];exact Rf) (gS _ _ _) ?_;intro d aF aO);have af:Bw G d:=Ar.c (aO.e Bg);have G0:=zab af aP;have G1:=zab af aM;have G2:=zab af a5;obtain⟨N,B4,aZ⟩:=AK (N3.C af) (B3.thn af) (AZ aR af);have bv:=af.size;have RK:=Ad (Nh aF);have bq:G.heap.size<d.heap.size:=Ap aF;have ao:(prog.info? 323).map (·.size)=some (Di X).length:=by rw[HLK.o];exact Rf
 obtain⟨⟨m0,m1⟩,_,aB⟩:=N.box.J;obtain⟨v,ps,au,hv⟩:=(N.map.drew).look_ok UH (t:=235) underlying235 (zu _) (show Ck (.pointer none)=some (zP,[]) from rfl) (K X HX);have bi:(L.map Prod.fst).length=L.length:=qf;clear aP aM a5 af N3 B3 aR aO aF;by_cases Y:Fv X (L.map Prod.fst)<(L.map Prod.fst).length
 .obtain⟨b,hb⟩:∃b,R[Fv X (L.map Prod.fst)]?=some b:=⟨R[Fv X (L.map Prod.fst)]'(by rw[N.o.inv.len];exact Y),qf⟩
  obtain⟨hy1,hy2⟩:=N.inv.cL X b HX hb;rw[hy1]at au;rw[hy2]at hv;have bo:=nU hv;subst bo;obtain⟨HB,aq⟩:=An hb Y;clear hv hy1 hy2 hb Y;refine wp_region_noPanic ?_;refine wp_region_held_drew (S:=(λw'=>w'.cell? ⟨f,0,none⟩=some (.map (some mb))/\w'.rangeAt G.heap.size 0 (Di X))) qg ?_ (λhHeld=>?_)
  ·(try dsimp only);exact⟨m0,RK⟩
  refine sr 0 4 ?_;refine wpAnyH_take (i:=4) (oi:=?oi1) (v:=?v1) ?hi1 qg qg qg (λ_ _ _ h=>h) ?yl1 hHeld ?rest1
  case hi1=>(simp only[yj,yC,yy];rfl)
  case yl1=>
   exact jJ
  (try simp only[Act.put,yq,yF,yG]);refine r1 5 λK T=>?_;go_simp;refine T _ _ ?hS2 (λO=>?rest2)
  case hS2=>((try dsimp only);exact⟨m0,RK⟩)
  clear T K;(try simp only[Act.put,yq,yF,yG]);clear hHeld;have hHeld:=O;clear O;refine sr 6 11 ?_;refine wpAnyH_done qg ?_ _;refine Yb ?_;go_wp2;go_ret;exact⟨I,H,L,R,D,b,rfl,N.C Au.drew,by rw[<-ay.o,nI aq.o],by rw[<-ay.o];exact HB,Fz.u (B4.c Au.drew),λ_ _ h=>h,λ_ h=>.inl h⟩
 have aX:=N.inv.no X HX Y;rw[aX]at au;have aq:=Ad Y;clear hv aX Y;refine wp_region_noPanic ?_;refine wp_region_held_drew (S:=(λw'=>w'.cell? ⟨f,0,none⟩=some (.map (some mb))/\w'.rangeAt G.heap.size 0 (Di X))) qg ?_ (λhHeld=>?_)
 ·(try dsimp only);exact⟨m0,RK⟩
 refine sr 0 4 ?_;refine wpAnyH_take (i:=4) (oi:=?oi3) (v:=?v3) ?hi3 qg qg qg (λ_ _ _ h=>h) ?yl3 hHeld ?rest3
 case hi3=>(simp only[yj,yC,yy];rfl)
 case yl3=>
  exact jJ
 (try simp only[Act.put,yq,yF,yG]);refine r1 5 λK T=>?_;go_simp;refine T _ _ ?hS4 (λO=>?rest4)
 case hS4=>((try dsimp only);exact⟨m0,RK⟩)
 clear T K;(try simp only[Act.put,yq,yF,yG]);clear hHeld;have hHeld:=O;clear O;refine sr 6 11 ?_;refine wpAnyH_done qg ?_ _;refine Yb ?_;go_upto_region 5 with fail;have ak:=Ad (λo=>Au.alloc Bg o:∀o,Bw d (d.alloc o));clear au;have D0:d.drew.drew.cell? ⟨B.heap.size,0,none⟩=some (.string X.E):=G0;have E0:∀o,(d.alloc o).drew.drew.cell? ⟨B.heap.size,0,none⟩=some (.string X.E):=λo=>zab (ak o).drew.drew G0;have D1:d.drew.drew.cell? ⟨B.heap.size,1,none⟩=some (.int .i64 X.al):=G1;have E1:∀o,(d.alloc o).drew.drew.cell? ⟨B.heap.size,1,none⟩=some (.int .i64 X.al):=λo=>zab (ak o).drew.drew G1;have D2:d.drew.drew.cell? ⟨B.heap.size,2,none⟩=some (.slice m X.y.length r):=G2;have E2:∀o,(d.alloc o).drew.drew.cell? ⟨B.heap.size,2,none⟩=some (.slice m X.y.length r):=λo=>zab (ak o).drew.drew G2;have D3:d.drew.drew.cell? ⟨f,1,none⟩=some (.slice I L.length H):=m1;have E3:∀o,(d.alloc o).drew.drew.cell? ⟨f,1,none⟩=some (.slice I L.length H):=λo=>zab (ak o).drew.drew m1
 go_region_held3 (λw'=>w'.cell? ⟨B.heap.size,0,none⟩=some (.string X.E)/\w'.cell? ⟨B.heap.size,1,none⟩=some (.int .i64 X.al)/\w'.cell? ⟨B.heap.size,2,none⟩=some (.slice m X.y.length r)/\w'.cell? ⟨f,1,none⟩=some (.slice I L.length H)) (first|with_reducible exact⟨D0,D1,D2,D3⟩|with_reducible exact⟨E0 _,E1 _,E2 _,E3 _⟩) (fail)
 go_upto_region 6 with fail
 refine ztV (w0:=d) (o:=.cells #[.string X.E,.int .i64 X.al,.slice m X.y.length r,.int .i64 (L.length:Int),.slice none 0 0] 247) ((ak _).drew.drew) (heap_alloc_new _ _) ?_;intro w5 Z aK;obtain⟨A,bp,B5,aS,bd⟩:=Ei (N.C Z) (show XX w5 d.heap.size (X,.slice m X.y.length r) L.length from aK) (B4.thn Z) (AZ aZ Z) (show w5.rangeAt G.heap.size 0 (Di X) fromλj u hu=>zab Z (RK j u hu));have br:=Z.size;have bB:d.heap.size<w5.heap.size:=Ap aK;clear D0 D1 D2 D3 E0 E1 E2 E3;clear Z aK G0 G1 G2 m0 m1 aB B4 aZ RK ak;obtain⟨⟨m0,m1⟩,_,aB⟩:=A.box.J;obtain⟨bA,bu,aG⟩:=Lt A.map;have bh:f≠mb:=λe=>by have:=A.box;unfold GB at this;rw[e,aG]at this;cases this
 have bg:G.heap.size≠mb:=λe=>by have:=N.map.lt;have h2:=HN.map.lt;omega
 obtain⟨U,aJ,aQ,W⟩:=(A.map.drew).update UH (t:=235) underlying235 qj (K X HX) (mA d.heap.size);obtain⟨M6,az⟩:=An aQ (show w5.grownBy U (some mb) from⟨W.os,W.tape,W.output,W.size,W.block⟩);have bw:w5.heap.size<=U.heap.size:=W.size;obtain⟨a9,bl,R6⟩:=AK (show GB U f mb (.slice I L.length H) from(az.block f aB (λe=>bh MT)).c A.box) (show U.rangeAt G.heap.size 0 (Di X) fromλj u hu=>(yP (w:=w5) (az.block G.heap.size qd (λe=>bg MT))).c (bd j u hu)) (show U.ownsRow base 194 1 (.slice I L.length H) L.length (Gb R) from Ci A.row λk hk=>az.block k (A.row.lt k hk).2 (λe=>by injection e with e;obtain⟨c',a4⟩:=A7 A.row hk;rw[Bk,e,aG]at a4;cases a4));obtain⟨⟨k0,k1⟩,_,aW⟩:=a9.J;clear aQ W aG;refine wp_region_noPanic ?_;refine wp_region_held_drew (S:=(λw'=>w'.cell? ⟨f,0,none⟩=some (.map (some mb))/\w'.rangeAt G.heap.size 0 (Di X))) qg ?_ (λhHeld=>?_)
 ·(try dsimp only);exact⟨m0,bd⟩
 refine sr 0 4 ?_;refine wpAnyH_take (i:=4) (oi:=?oi5) (v:=?v5) ?hi5 qg qg qg (λ_ _ _ h=>h) ?yl5 hHeld ?rest5
 case hi5=>(simp only[yj,yC,yy];rfl)
 case yl5=>
  exact jJ
 (try simp only[Act.put,yq,yF,yG]);refine sr 5 6 ?_;refine r1 6 λK T=>?_;go_simp;refine T _ _ ?hS6 (λO=>?rest6)
 case hS6=>((try dsimp only);exact⟨k0,bl⟩)
 clear T K;(try simp only[Act.put,yq,yF,yG]);clear hHeld;have hHeld:=O;clear O;refine wpAnyH_done qg ?_ _;refine Yb ?_;have HW:=Ad (λo=>Au.alloc Bg o:∀o,Bw U (U.alloc o));obtain⟨bm,TY⟩:=An (λo=>show GB (U.alloc o) f mb (.slice I L.length H) from((HW o).block f aW).c a9) (λo k hk=>A7 (AZ R6 (HW o)) (k:=k) hk);clear m0 m1 aJ;go_upto_region 8 with(first|(at_builtin;refine Dp qh (.tmp 42) (.tmp 44) 236 qh base 194 _ 1 8 underlying236 zb qh qd _ L.length _ qh (AZ R6 (HW _)) (some ⟨_,0,none⟩) 1 1 qh [.pointer (some ⟨d.heap.size,0,none⟩)] qh (λe=>qo) (CH _ _ _ _ qf) qP qj qd qe ?_;intro a7 c7 w7 ad aa ae;have a6:=Ad (show GB w7 f mb (.slice I L.length H) from E5 (bm _) aa (TY _) qi);obtain⟨⟨l0,l1⟩,z,_⟩:=a6.J;have z1:=z 1;clear z)|fail);refine zsO a6 ?_;intro w8 a8 ac;have hR:=NS.add K (x:=(X,.slice m X.y.length r)) A ⟨⟨m,r,rfl⟩,C4 aS hbase⟩ (λy hy g M bn=>by have h1:=((HN.aM y hy).2.lt g M).2;have h2:=(aS.lt g bn).1;omega) HX aq bp qd M6 az ad aa a8 ac;have HR:=Ad hR;have aT:R.length=L.length:=by have:=A.inv.len;simpa using this
 have bc:=Ad aT;clear hR aT a8 ac;go_wp2;go_ret;refine⟨a7,c7,L++[(X,.slice m X.y.length r)],R++[d.heap.size],_,d.heap.size,rfl,HR.1,?_,?_,Fz.cg B5 HR.2,λi n h=>by rw[yr (yf.1 h).1];exact h,?_⟩
 .rw[<-ay.o,nB aq.o];simp
 .rw[<-ay.o,n_ aq.o,bi,yB (WP bc.o),bc.o,Ko];rfl
 intro g M;rw[yM]at M;rcases ae.o with h|h
 .rw[show L.length+[(X,Value.slice m X.y.length r)].length=L.length+1 from rfl,h]at M;exact .inl M
 rw[show L.length+[(X,Value.slice m X.y.length r)].length=L.length+1 from rfl,h]at M;injection M with M;have h5:=B5.size;simp at M;exact .inr qd
def Sv(t:TypeId):Prop:=t=238∨t=194∨t=247∨t=320
def NS.ar{s w w' base l mb u q L r D}(h:NS s w base l mb u q L r D)(o:∀k,k<w.heap.size->(∀c t a,w.heap[k]?=some (Obj.cells c t a)->Sv t)->w'.heap[k]?=w.heap[k]?):NS s w' base l mb u q L r D:=by
 have key:∀(k:Nat)(c:Bl)(t:TypeId)(a:Nat × Nat),w.heap[k]?=some (.cells c t a)->Sv t->w'.heap[k]?=some (.cells c t a):=λk c t a g A=>(o k (Ap g) (λH t' G O=>by rw[g]at O;injection O with O;injection O with _ C;rw[<-C];exact A)).c g;have p:∀{e:TypeId}{m:Nat}{v:Value}{n:Nat}{xs:Aj},w.ownsRow base e m v n xs->Sv e->w'.ownsRow base e m v n xs:=λy z=>Ci y λk g=>by
  obtain⟨c,j⟩:=A7 y g;rw[key k _ _ _ j z,j]
 refine⟨key _ _ _ _ h.box (.inl rfl),?_,h.inv,p h.row (.inr (.inl rfl)),λi x b d f=>⟨key _ _ _ _ (h.node i x b d f).1 (.inr (.inr (.inl rfl))),(h.node i x b d f).2⟩,λx d=>⟨(h.aM x d).1,p (h.aM x d).2 (.inr (.inr (.inr rfl)))⟩,h.bj,h.bd⟩;obtain⟨es,E,B⟩:=Lt h.map;exact J_ h.map (o mb h.map.lt (λc t a j=>by rw[B]at j;cases j))
def NS.grown{i w w' base b mb d f L g D t row}(h:NS i w base b mb d f L g D)(m:w.grownBy w' row)(n:∀k,row=some k->∃c,Bk w k c t)(a:¬Sv t):NS i w' base b mb d f L g D:=
 h.ar λk l O=>m.block k l (λe=>by
  obtain⟨c,j⟩:=n k e.z
  exact a (O _ _ _ j))
theorem Fz.e{a mb B row w w'}(h:Fz a mb row w w')(O:B<=w.heap.size)(f:B<=a)(c:B<=mb)(b:∀k,row=some k->B<=k):Below B w w':=
 ⟨h.rest.os,h.rest.tape,h.rest.output,h.rest.size,λk d=>h.block k qd qd qd (λe=>by have:=b k e;omega)⟩
def rq{P}(t w):(Instr.makeMap t none).run P w=.ok (.map (some w.heap.size)) (w.alloc (.map #[] 0)):=by
 simp[Instr.makeMap]
def rp(a w):Ca 89 #[] w λe w'=>e=.returned (Pn (w.heap.size+1))/\NS a w' w.heap.size (w.heap.size+1) w.heap.size none 0 [] [] (.map [])/\Bw w w':=by
 have O:=rq (P:=prog) 235;go_enter func89,ntmps89;go_wp2;go_ret;refine⟨rfl,⟨?_,?_,QR.start a,yJ _ _ _ _,λi x b hx=>qF,λx hx=>qF,List.Pairwise.nil,qd⟩,Ar.alloc qf _⟩
 .exact FP _ _ _ qf
 exact J_ (Wl w prog 323 Ck) (yN _ _ _ qf)
end
def zV:V:=(0,0,ByteArray.empty)
def Qp(vs:AH):AH:=vs++List.replicate (6-vs.length) zV
def Lr(cls:ByteArray)(n:Nat)(vs:AH):Aj:=.string cls::.int .i64 n::vs.flatMap V.cells
def Fl(f:F):Aj:=Lr f.E f.v.length (Qp f.v)
def PC(vs:AH):(vs.flatMap V.cells).length=vs.length*3:=by
 induction vs with
 |nil=>rfl
 |cons v r O=>simp[O,V.cells];omega
def Vi(vs:AH):∀x∈vs.flatMap V.cells,x.oneCell'=true:=by
 intro x a;obtain⟨v,_,hv⟩:=Yq.1 a;simp[V.cells]at hv;rcases hv with rfl|rfl|rfl<;>rfl
def Th(a n vs):(Lr a n vs).length=vs.length*3+2:=by
 show(vs.flatMap V.cells).length+1+1=_;rw[PC]
def gA(b n vs):∀x∈Lr b n vs,x.oneCell'=true:=by
 intro x a;simp only[Lr,yW]at a;rcases a with rfl|rfl|a
 .rfl
 .rfl
 exact Vi vs x a
def SV(vs)(h:vs.length<=6):(Qp vs).length=6:=by simp[Qp];omega
def zpk(a n vs)(h:vs.length<=6) :
  (Lr a n (List.replicate 6 zV)).take 2++(vs.flatMap V.cells++(Lr a n (List.replicate 6 zV)).drop (2+(vs.flatMap V.cells).length))=Lr a n (Qp vs):=by
 have e:∀k,k<=6->((List.replicate 6 zV).flatMap V.cells).drop (k*3)=(List.replicate (6-k) zV).flatMap V.cells:=by
  exact sj
 rw[PC];unfold Lr Qp;rw[Yy,<-e vs.length h,show 2+vs.length*3=vs.length*3+1+1 by omega];rfl
def l9(vs:AH)(j x)(h:(vs.flatMap V.cells)[j]?=some x):∃v,vs[j/3]?=some v/\v.cells[j%3]?=some x:=by
 induction vs generalizing j with
 |nil=>simp at h
 |cons v r O=>
  rw[yX]at h;by_cases hj:j<3
  .rw[yr (by simpa[V.cells] using hj)]at h;refine⟨v,?_,?_⟩
   .rw[show j/3=0 by omega];rfl
   rwa [show j%3=j by omega]
  rw[yB (by simp[V.cells];omega)]at h;obtain⟨u,a,b⟩:=O (j-v.cells.length) h;simp only[V.cells,Ya,YU]at a b;refine⟨u,?_,?_⟩
  .rw[show j/3=(j-(0+1+1+1))/3+1 by omega];exact a
  rwa [show j%3=(j-(0+1+1+1))%3 by omega]
def Cj.bO{w c vs}(h:Cj w (some c) vs)(j x)(d:(vs.flatMap V.cells)[j]?=some x):w.cell? (c.add j)=some x:=by
 obtain⟨v,hv,a⟩:=l9 vs j x d;obtain⟨b,o,g,f,i,k⟩:=h _ v hv;cases g;have O:(⟨b,o,none⟩:Addr).add j=⟨b,o+j,none⟩:=Wu b o j;rw[O];rcases(show j%3=0∨j%3=1∨j%3=2 by omega) with e|e|e<;>rw[e]at a<;>simp[V.cells]at a<;>subst a
 .rw[show o+j=o+j/3*3 by omega];exact f
 .rw[show o+j=o+j/3*3+1 by omega];exact i
 rw[show o+j=o+j/3*3+2 by omega];exact k
def Cj.nil{w vs}(h:Cj w none vs):vs.length=0:=by
 cases vs with
 |nil=>rfl
 |cons v r=>
  obtain⟨b,o,a,_⟩:=h 0 v rfl;cases a
def X9:(prog.info? 382).map (·.size)=some 20:=qg
def vg:(prog.info? 187).map (·.size)=some 3:=qg
def ZC(f a c w)(hv:Cj w a f.v)(hl:f.v.length<=6) :
  Ca 257 #[.agg #[.int .i64 f.tag,.string f.E,.slice a f.v.length c]] w λe w'=>
   e=.returned (.agg (Fl f).toArray)/\Bw w w':=by
 go_enter func257,ntmps257;go_wp2_with (refine Ec qh 382 (.tmp 3) (.tmp 9) qh (w.heap.size+1+1) (Lr f.E f.v.length (List.replicate 6 zV)) qh qh _ 382 (FP _ _ _ qf) qh (by rw[Th];exact X9) (gA _ _ _) ?_;intro g r y)
 go_frame
 have j:=y.o;have I:g.cell? ⟨w.heap.size,2,none⟩=some (.slice a f.v.length c):=by rw[j.cell qe];simp[go_sem]
 obtain⟨b,p,x⟩:∃b:Bl,Bk g (w.heap.size+1) b 382/\b.size=20:=
  ⟨_,(j.block _ qd).c ((yN _ _ _ qf).c (FP _ _ _ qf)),rfl⟩
 have u:Hid (Bk g (w.heap.size+1) b 382):=p;have C:Hid (b.size=20):=x;clear p x;have z:Bw w g:=((Ar.alloc qf _).alloc qe _).c (j.e qd);have t:=hv.e z;have n:g.heap.size=w.heap.size+1+1+1:=by rw[j.size];simp
 have N:Hid (g.heap.size=w.heap.size+1+1+1):=n;clear n y j hv;have O:Nat.min f.v.length 6=f.v.length:=by simp[Nat.min_def];omega
 have L:Hid (Nat.min f.v.length 6=f.v.length):=O;clear O
 go_region_held3 (λw'=>w'.cell? ⟨w.heap.size,2,none⟩=some (.slice a f.v.length c)) ((first | (simp[*];done) | (rw[k.o.cell qe];simp[*])))
  ((refine ry qh (.tmp 11) (.tmp 13) 38 38 qh 187 3 underlying38 vg (w.heap.size+1+1) 2 6 6 a f.v.length c qh qh _ 382 r (f.v.flatMap V.cells) (by rw[L.o,PC]) (λe=>Cj.nil (e▸t)) (λM e=>Cj.bO (e▸t)) (by rw[PC];simp[Th];omega) (Vi _) ?_;intro i m k))
 have q:Bk i (w.heap.size+1+1) ((Fl f).toArray) 382:=by
  have:=m.o;rw[List.toList_toArray,zpk _ _ _ hl]at this;exact this
 have l:=k.o;have s:Bk i (w.heap.size+1) b 382:=(l.block _ qd).c u;have d:(Fl f).length=20:=by unfold Fl;rw[Th,SV _ hl]
 have D:Bw w i:=z.drew.c (l.e qd);have G:Hid (Bk i (w.heap.size+1+1) ((Fl f).toArray) 382):=q;have A:Hid (Bk i (w.heap.size+1) b 382):=s;have HL:Hid ((Fl f).length=20):=d;clear m k l q s d u r I;go_wp2_with (first|(refine iR qh 382 (.tmp 3) qh (w.heap.size+1+1) (Fl f) qh 382 (0,0) G _ underlying382 qh Xu ?_)|(refine Ec qh 382 (.tmp 2) (.tmp 15) qh (w.heap.size+1) (Fl f) qh qh b 382 A (by rw[HL.o];exact C) Xu (gA _ _ _) ?_;intro B J K));have H:=run_loadVar_mid (P:=prog) B (w.heap.size+1) 0 382 (Fl f) _ (Nh J) underlying382 rfl Xu
 go_frame
 exact bodyPost_ret (v:=.agg (Fl f).toArray) (by simp[results,results257,asAddr,H]) rfl ⟨rfl,D.c (K.e qd)⟩
def BI(fs:Ab)(xs:Aj):Aj:=(fs.zip xs).flatMap λp=>Bx p.1 p.2
def BH.z{x y}(h:BH x y):BH y x:=λg a b=>h g b a
def PA{w:Aa}{base e m a n c xs}(h:w.ownsRow base e m (.slice a n c) n xs):n<=c:=by
 rcases h.2 with⟨_,d⟩|⟨g,cap,O,hv,_,_,b,_⟩
 all_goals grind
structure Cg(w:Aa) (base:Nat) (v:Value) (n:Nat) (fs:Ab) (xs:Aj):Prop where
 num:n=fs.length
 len:xs.length=fs.length
 aa:w.ownsRow base 145 3 v n (BI fs xs)
 V:∀(i:Nat)(f:F)(x:Value),fs[i]?=some f->xs[i]?=some x->(∃a c,x=.slice a f.v.length c)/\w.ownsRow base 187 3 x f.v.length (f.v.flatMap V.cells)
 apart:∀x∈xs,BH v x
 bj:xs.Pairwise BH
def SG(v:Value)(xs:Aj)(g:Nat):Prop:=v.ownBlock=some g∨∃x∈xs,x.ownBlock=some g
def Cg.bN{w base v n fs xs}(h:Cg w base v n fs xs){x}(c:x∈xs):∃f∈fs,w.ownsRow base 187 3 x f.v.length (f.v.flatMap V.cells):=by
 obtain⟨i,a,rfl⟩:=Wd c;have b:i<fs.length:=by rw[<-h.len];exact a
 exact⟨fs[i],YX b,(h.V i _ _ (yK b) (yK a)).2⟩
def Cg.range{w base v n fs xs}(h:Cg w base v n fs xs){g}(a:SG v xs g):base<=g/\g<w.heap.size:=by
 rcases a with a|⟨x,b,a⟩
 .exact h.aa.lt g a
 obtain⟨f,_,c⟩:=h.bN b;exact c.lt g a
def Cg.kept{w w' base v n fs xs}(h:Cg w base v n fs xs)(c:∀g,SG v xs g->w'.heap[g]?=w.heap[g]?):Cg w' base v n fs xs:=
 ⟨h.num,h.len,Ci h.aa (λg b=>c g (.inl b)),λi f x d a=>⟨(h.V i f x d a).1,Ci (h.V i f x d a).2 (λg b=>c g (.inr ⟨x,yd a,b⟩))⟩,h.apart,h.bj⟩
theorem Cg.e{w w' base v n fs xs}(h:Cg w base v n fs xs)(a:Bw w w'):Cg w' base v n fs xs:=
 h.kept λg b=>a.block g (h.range b).2
def Cg.lower{w base base' v n fs xs}(h:Cg w base v n fs xs)(a:base'<=base):Cg w base' v n fs xs:=
 ⟨h.num,h.len,C4 h.aa a,λi f x c b=>⟨(h.V i f x c b).1,C4 (h.V i f x c b).2 a⟩,h.apart,h.bj⟩
def Cg.set{w base v n fs xs}(h:Cg w base v n fs xs){p}(b:p.block<base)(u):Cg (w.setCell p u) base v n fs xs:=
 h.kept λg a=>yD _ _ _ _ (by have:=(h.range a).1;omega)
def Cg.dy{w base v n fs xs}(h:Cg w base v n fs xs)(o):Cg (w.alloc o) base v n fs xs:=
 h.e Ar
def Cg.nil(w base):Cg w base (.slice none 0 0) 0 [] []:=
 ⟨rfl,rfl,yJ _ _ _ _,λi f x hf=>Qh,λx hx=>qF,List.Pairwise.nil⟩
def Ry:∀(fs:Ab)(xs:Aj),xs.length=fs.length->∀(i:Nat)(f:F)(x:Value),fs[i]?=some f->xs[i]?=some x->∀j,j<3->(BI fs xs)[i*3+j]?=(Bx f x)[j]?
 |[],_,_,i,f,x,hf,_,_,_=>by simp at hf
 |g::fs,[],h,_,_,_,_,_,_,_=>by simp at h
 |g::fs,y::xs,h,i,f,x,hf,hx,j,hj=>by
  unfold BI
  rw[List.zip_cons_cons,yX]
  cases i with
  |zero=>
   simp at hf hx
   subst hf
   subst hx
   rw[yr (by simpa[Bx] using hj)]
   simp
  |succ i=>
   rw[yB (by simp[Bx];omega)]
   have:=Ry fs xs qu i f x (by simpa using hf) (by simpa using hx) j hj
   unfold BI at this
   rw[<-this]
   congr 1
   simp[Bx]
   omega
def Z9:∀(fs:Ab)(xs:Aj),xs.length=fs.length->(BI fs xs).length=fs.length*3
 |[],_,_=>by simp[BI]
 |_::_,[],h=>by simp at h
 |g::fs,y::xs,h=>by
  have:=Z9 fs xs qu
  unfold BI at this⊢
  rw[List.zip_cons_cons,yX,yM,this]
  simp[Bx]
  omega
def zgc(fs xs)(h:xs.length=fs.length)(f x):BI (fs++[f]) (xs++[x])=BI fs xs++Bx f x:=by
 unfold BI;rw[List.zip_append h.z,Yy];simp
def Cj.owns{w base a c vs}(h:w.ownsRow base 187 3 (.slice a vs.length c) vs.length (vs.flatMap V.cells)):Cj w a vs:=by
 intro i v hv;have k:i<vs.length:=(yf.1 hv).1;have key:∀j x,j<3->v.cells[j]?=some x->(vs.flatMap V.cells)[i*3+j]?=some x:=by
  intro j x hj f;have b:i*3+j<(vs.flatMap V.cells).length:=by rw[PC];omega
  obtain⟨u,d,e⟩:=l9 vs (i*3+j) _ (yK b);rw[show(i*3+j)/3=i by omega,hv]at d;cases d;rw[show(i*3+j)%3=j by omega,f]at e;rw[yK b,e]
 obtain⟨g,rfl,_,m,_⟩:=CG h (key 0 _ qd rfl);obtain⟨n,l,_,d,_⟩:=CG h (key 1 _ qd rfl);obtain⟨o,O,_,e,_⟩:=CG h (key 2 _ qd rfl)
 grind
def Cg.at{w base a n c fs xs}(h:Cg w base (.slice a n c) n fs xs):Cs w a fs:=by
 intro i f b;have o:i<fs.length:=(yf.1 b).1;have d:xs[i]?=some (xs[i]'(by rw[h.len];exact o)):=yK _;obtain⟨⟨m,p,e⟩,k⟩:=h.V i f _ b d;have key:=λj(hj:j<3)=>Ry fs xs h.len i f _ b d j hj;obtain⟨g,rfl,_,h0,_⟩:=CG h.aa ((key 0 qd).c rfl);obtain⟨q,l,_,h1,_⟩:=CG h.aa ((key 1 qd).c rfl);obtain⟨r,O,_,h2,_⟩:=CG h.aa ((key 2 qd).c rfl);cases l;cases O;rw[e]at h2 k;exact⟨g,0,rfl,qK,qx,m,p,qw,Cj.owns k⟩
def Cg.snoc{w w' base v d n fs xs f x}(h:Cg w base v n fs xs)(k:(∃a c,x=.slice a f.v.length c)/\w.ownsRow base 187 3 x f.v.length (f.v.flatMap V.cells))(o:BH v x)(q:∀y∈xs,BH y x)(ho:w'.ownsRow base 145 3 d (n+1) (BI fs xs++Bx f x))(A:w.grownBy w' v.ownBlock)(hl:d.ownBlock=v.ownBlock∨d.ownBlock=some w.heap.size):Cg w' base d (n+1) (fs++[f]) (xs++[x]):=by
 have l:∀y:Value,(y∈xs∨y=x)->∀g,y.ownBlock=some g->g<w.heap.size/\w'.heap[g]?=w.heap[g]?:=by
  intro y hy g O;have hlt:g<w.heap.size:=by
   rcases hy with hy|rfl
   .exact(h.range (.inr ⟨y,hy,O⟩)).2
   exact(k.2.lt g O).2
  refine⟨hlt,A.block g hlt ?_⟩;intro e;rcases hy with hy|rfl
  .exact h.apart y hy g e.z O
  exact o g e.z O
 have m:∀y:Value,(y∈xs∨y=x)->BH d y:=by
  intro y hy g j O;rcases hl with hl|hl
  .rw[hl]at j;rcases hy with hy|rfl
   .exact h.apart y hy g j O
   exact o g j O
  rw[hl]at j;cases j;have:=(l y hy _ O).1;omega
 refine⟨by simp[h.num],by simp[h.len],jR,?_,?_,?_⟩
 .intro i r y b hy;by_cases hi:i<fs.length
  .rw[yr hi]at b;rw[yr Xt]at hy;obtain⟨s,t⟩:=h.V i r y b hy;exact⟨s,Ci t (λg O=>(l y (.inl (yd hy)) g O).2)⟩
  have u:i<(fs++[f]).length:=(yf.1 b).1;simp at u;obtain rfl:i=fs.length:=qd;rw[yB Bg]at b;rw[yB jS,h.len]at hy;simp at b hy;subst b;subst hy;exact⟨k.1,Ci k.2 (λg O=>(l x (.inr rfl) g O).2)⟩
 .intro y hy;rcases yp.1 hy with hy|hy
  .exact m y (.inl hy)
  exact m y (.inr T0)
 rw[YA];exact⟨h.bj,WO _ _,λy hy z p=>by
  simp at p;subst p;exact q y hy⟩
def GU(Z:Nat->Prop)(w:Aa)(a:Af)(vs:AH):Prop:=
 ∀ (i:Nat) (v:V),vs[i]?=some v->∃ b o,Z b/\a=some ⟨b,o,none⟩/\w.cell? ⟨b,o+i * 3,none⟩=some (.int .i64 v.w) /\
  w.cell? ⟨b,o+i*3+1,none⟩=some (.int .i64 v.num)/\w.cell? ⟨b,o+i*3+2,none⟩=some (.string v.O)
def DN(Z:Nat->Prop)(w:Aa)(a:Af)(fs:Ab):Prop:=
 ∀ (i:Nat) (f:F),fs[i]?=some f->∃ b o,Z b/\a=some ⟨b,o,none⟩/\w.cell? ⟨b,o+i * 3,none⟩=some (.int .i64 f.tag) /\
  w.cell? ⟨b,o+i*3+1,none⟩=some (.string f.E)/\∃a' c,w.cell? ⟨b,o+i*3+2,none⟩=some (.slice a' f.v.length c)/\GU Z w a' f.v
def GU.at{Z w a vs}(h:GU Z w a vs):Cj w a vs:=λi v hv=>by
 obtain⟨b,o,_,h⟩:=h i v hv;exact⟨b,o,h⟩
def DN.at{Z w a fs}(h:DN Z w a fs):Cs w a fs:=λi f k=>by
 obtain⟨b,o,_,e,g,j,l,c,m,d⟩:=h i f k;exact⟨b,o,e,g,j,l,c,m,d.at⟩
def Nn{w w':Aa}{b o x}(c:w'.heap[b]?=w.heap[b]?)(h:w.cell? ⟨b,o,none⟩=some x):w'.cell? ⟨b,o,none⟩=some x:=by
 rw[<-h];exact yP (a:=⟨b,o,none⟩) c
def GU.kept{Z w w' a vs}(h:GU Z w a vs)(f:∀b,Z b->b<w.heap.size->w'.heap[b]?=w.heap[b]?):GU Z w' a vs:=λi v hv=>by
 obtain⟨b,o,c,g,d,e,j⟩:=h i v hv;have:=f b c (yI w ⟨b,_,none⟩ d);exact⟨b,o,c,g,Nn this d,Nn this e,Nn this j⟩
def DN.kept{Z w w' a fs}(h:DN Z w a fs)(d:∀b,Z b->b<w.heap.size->w'.heap[b]?=w.heap[b]?):DN Z w' a fs:=λi f n=>by
 obtain⟨b,o,e,k,g,l,m,c,p,j⟩:=h i f n;have:=d b e (yI w ⟨b,_,none⟩ g);exact⟨b,o,e,k,Nn this g,Nn this l,m,c,Nn this p,j.kept d⟩
def GU.j{Z Z' w a vs}(h:GU Z w a vs)(c:∀b,Z b->Z' b):GU Z' w a vs:=λi v hv=>by
 obtain⟨b,o,O,h⟩:=h i v hv;exact⟨b,o,c b O,h⟩
def DN.j{Z Z' w a fs}(h:DN Z w a fs)(d:∀b,Z b->Z' b):DN Z' w a fs:=λi f n=>by
 obtain⟨b,o,O,g,m,k,l,c,p,e⟩:=h i f n;exact⟨b,o,d b O,g,m,k,l,c,p,e.j d⟩
def Cj.on{w a vs}(h:Cj w a vs):GU (λb=>b<w.heap.size) w a vs:=λi v hv=>by
 obtain⟨b,o,d,c,e⟩:=h i v hv;exact⟨b,o,yI w ⟨b,_,none⟩ c,d,c,e⟩
def Cs.on{w a fs}(h:Cs w a fs):DN (λb=>b<w.heap.size) w a fs:=λi f k=>by
 obtain⟨b,o,g,d,j,l,c,m,e⟩:=h i f k;exact⟨b,o,yI w ⟨b,_,none⟩ d,g,d,j,l,c,m,e.on⟩
def GU.owns{w base a c vs}(h:w.ownsRow base 187 3 (.slice a vs.length c) vs.length (vs.flatMap V.cells)):GU (λb=>base<=b/\b<w.heap.size) w a vs:=λi v hv=>by
 obtain⟨b,o,rfl,e,d⟩:=Cj.owns h i v hv;exact⟨b,o,h.lt b rfl,rfl,e,d⟩
def Cg.on{w base a n c fs xs}(h:Cg w base (.slice a n c) n fs xs):DN (λb=>base<=b/\b<w.heap.size) w a fs:=by
 intro i f d;have p:i<fs.length:=(yf.1 d).1;have k:xs[i]?=some (xs[i]'(by rw[h.len];exact p)):=yK _;obtain⟨⟨o,q,e⟩,l⟩:=h.V i f _ d k;have key:=λj(hj:j<3)=>Ry fs xs h.len i f _ d k j hj;obtain⟨g,rfl,t,h0,_⟩:=CG h.aa ((key 0 qd).c rfl);obtain⟨r,m,_,h1,_⟩:=CG h.aa ((key 1 qd).c rfl);obtain⟨s,O,_,h2,_⟩:=CG h.aa ((key 2 qd).c rfl);cases m;cases O;rw[e]at h2 l;exact⟨g,0,h.aa.lt g rfl,rfl,qK,qx,o,q,qw,GU.owns l⟩
section
open Go.Maps
def Gk(w:Aa)(b:Nat)(x:QS)(i:Nat)(v:Value):Prop:=w.heap[b]?=some (.cells #[.string x.1.E,.int .i64 x.1.al,x.2,.int .i64 (i:Int),v] 247 (0,0))
def Gk.J{w b x i v}(h:Gk w b x i v):(At w b 0 (.string x.1.E)/\At w b 1 (I6 x.1.al)/\At w b 2 x.2/\At w b 4 v)/\w.frozen? ⟨b,4,none⟩=false/\b<w.heap.size:=by
 unfold Gk at h;refine⟨⟨?_,?_,?_,?_⟩,?_,Ap h⟩<;>simp[World.cell?,World.frozen?,h]
def Gk.et{w b x i v}(h:Gk w b x i v)(y):Gk (w.setCell ⟨b,4,none⟩ y) b x i y:=by
 have:=C7 (i:=4) h y;trivial
def sJ{P:Aa->Prop}{w b x i v y}(O:Gk w b x i v)(h:∀wt,Gk wt b x i y->Turned w wt b->P wt):P (w.setCell ⟨b,4,none⟩ y):=h _ (O.et y) (Turned.setCells [y] 4 w b)
def Gk.num{w b x y i j u v}(h:Gk w b x i u)(k:Gk w b y j v):i=j:=by
 unfold Gk at h k
 grind
def C8(x:Al)(Q:Fs):Fs:=Q.filter (λy=>Ah x y.2)
def rl{x Q p f}(h:Ah x f=true):C8 x (Q++[(p,f)])=C8 x Q++[(p,f)]:=by grind[Ah,C8]
def zhr{x Q p f}(h:Ah x f=false):C8 x (Q++[(p,f)])=C8 x Q:=by grind[Ah,C8]
structure EB(base:Nat) (w w':Aa):Prop where
 rest:Below base w w'
 kept:∀(k:Nat)(c:Bl)(t:TypeId)(fr:Nat × Nat),w.heap[k]?=some (.cells c t fr)->t≠247->t≠106->w'.heap[k]?=some (.cells c t fr)
 ao:∀(k:Nat)(o:Obj),w.heap[k]?=some o->(∀c t fr,o≠.cells c t fr)->w'.heap[k]?=some o
def EB.refl(base w):EB base w w:=⟨Au,λ_ _ _ _ h _ _=>h,λ_ _ h _=>h⟩
def EB.c{base u v w}(h:EB base u v)(k:EB base v w):EB base u w:=⟨h.rest.c k.rest,λj c t a hj b d=>k.kept j c t a (h.kept j c t a hj b d) b d,λj o hj e=>k.ao j o (h.ao j o hj e) e⟩
def EB.u{base w w'}(h:Bw w w')(b:base<=w.heap.size):EB base w w':=⟨h.j b,λk _ _ _ a _ _=>(h.block k (Ap a)).c a,λk _ a _=>(h.block k (yk.1 a).1).c a⟩
def EB.aa{base B w w' e m v n xs}(h:EB base w w')(b:w.ownsRow B e m v n xs)(f:e≠247)(g:e≠106):w'.ownsRow B e m v n xs:=
 Ci b λk d=>by
  obtain⟨c,a⟩:=A7 b d
  rw[h.kept k _ _ _ a f g,a]
structure NF(w:Aa) (base gb mb:Nat) (la:Af) (lc:Nat) (L:CD) (bs:A5) (V:Aj) (QQ:Nat->Fs):Prop where
 box:GB w gb mb (.slice la L.length lc)
 row:w.ownsRow base 194 1 (.slice la L.length lc) L.length (Gb bs)
 aW:bs.length=L.length
 aP:V.length=L.length
 node:∀(i:Nat)(x:QS)(b:Nat)(v:Value),L[i]?=some x->bs[i]?=some b->V[i]?=some v->Gk w b x i v/\base<=b/\(∃fa fc,v=.slice fa (C8 x.1 (QQ i)).length fc)/\w.ownsRow base 106 1 v (C8 x.1 (QQ i)).length ((C8 x.1 (QQ i)).map Prod.fst)
 aM:∀x∈L,QT w base x
 apart:∀(i j:Nat)(u v:Value),V[i]?=some u->V[j]?=some v->i≠j->BH u v
def NF.C{w w' base d mb g j L l V QQ}(h:NF w base d mb g j L l V QQ)(a:Bw w w'):NF w' base d mb g j L l V QQ:=
 ⟨(a.block d (Ap h.box)).c h.box,AZ h.row a,h.aW,h.aP,λi x b v e f hv=>by
  obtain⟨k,m,n,o⟩:=h.node i x b v e f hv
  exact⟨(a.block b (Ap k)).c k,m,n,AZ o a⟩,λx e=>(h.aM x e).C a,h.apart⟩
theorem NF.same{w base c mb d f L g V QQ O}(h:NF w base c mb d f L g V QQ)(j:∀i x,L[i]?=some x->C8 x.1 (QQ i)=C8 x.1 (O i)):NF w base c mb d f L g V O:=
 ⟨h.box,h.row,h.aW,h.aP,λi x b v e a hv=>by
  rw[<-j i x e]
  exact h.node i x b v e a hv,h.aM,h.apart⟩
def NF.dN{m w base a mb c k L l D}(h:NS m w base a mb c k L l D):NF w base a mb c k L l (List.replicate L.length (.slice none 0 0)) (λ_=>[]):=by
 refine⟨h.box,h.row,by have:=h.inv.len;simpa using this,qf,λi x b v d f hv=>?_,h.aM,λi j u v hu hv _ g n=>?_⟩
 .have e:=WC (yd hv);subst e;exact⟨(h.node i x b d f).1,(h.node i x b d f).2,⟨none,0,rfl⟩,yJ _ _ _ _⟩
 have e:=WC (yd hu);subst e;cases n
def ur(h:P:=by
 obtain⟨n1,n2,n3,n4⟩:=h.node m x b v hx hb hv;have ax:m<V.length:=(yf.1 hv).1;have aA:=hg7.size
 first
  | (have _:=tP
     simp at aA;have stay:∀k,k<w.heap.size->k≠b->v.ownBlock≠some k->w8.heap[k]?=w.heap[k]?:=λk hk h1 h2=>by
       rw[ht8.block k h1,hg7.block k (by simp;omega) (λe=>h2 e.z),yN _ _ _ hk])
  | (have stay:∀k,k<w.heap.size->k≠b->v.ownBlock≠some k->w8.heap[k]?=w.heap[k]?:=λk hk h1 h2=>by
       rw[ht8.block k h1,hg7.block k hk (λe=>h2 e.z)])
 have ai:∀(k:Nat)(c:Bl)(t:TypeId)(fr:Nat × Nat),w.heap[k]?=some (.cells c t fr)->t≠247->t≠106->w8.heap[k]?=some (.cells c t fr):=λk c t fr hk h1 h2=>by
  refine(stay k (Ap hk) (λe=>?_) (λe=>?_)).c hk
  .subst e;exact Cw hk n1 h1
  obtain⟨c',O⟩:=A7 n4 e;exact Cw hk O h2
 have am:∀{e:TypeId}{m:Nat}{v:Value}{n:Nat}{xs:Aj},w.ownsRow base e m v n xs->e≠247->e≠106->w8.ownsRow base e m v n xs:=λho h1 h2=>Ci ho λk hk=>by
  obtain⟨c,hc⟩:=A7 ho hk;rw[ai k _ _ _ hc h1 h2,hc]
 have az:b<w.heap.size:=n1.J.2.2;have ao:∀(i:Nat)(u:Value),V[i]?=some u->i≠m->∃(x':QS)(b':Nat),L[i]?=some x'/\bs[i]?=some b':=λi u hu _=>by
  have hi:i<V.length:=(yf.1 hu).1;have e1:=h.aP;have e2:=h.aW;exact⟨L[i]'(by omega),bs[i]'(by omega),by simp,by simp⟩
 first
  | (have _:=tP
     have ak:∀(i:Nat)(u:Value),V[i]?=some u->i≠m->∀g,u.ownBlock=some g->(Value.slice fa ((C8 x.1 (QQ m)).length+1) fc).ownBlock≠some g:=λi u hu hi g hg af=>by
       obtain⟨x',b',ah,hb'⟩:=ao i u hu hi;have hlt:=((h.node i x' b' u ah hb' hu).2.2.2.lt g hg).2;rcases hl7 with hl|hl
       · rw[hl]at af
         exact h.apart i m u v hu hv hi g hg af
       · rw[hl]at af
         injection af with af;simp at af;omega)
  | (have ak:∀(i:Nat)(u:Value),V[i]?=some u->i≠m->∀g,u.ownBlock=some g->(Value.slice fa (C8 x.1 Q').length fc).ownBlock≠some g:=λi u hu hi g hg af=>by
       obtain⟨x',b',ah,hb'⟩:=ao i u hu hi;have hlt:=((h.node i x' b' u ah hb' hu).2.2.2.lt g hg).2;exact h.apart i m u v hu hv hi g hg (hl7 g af))
 have ay:∀(k:Nat)(o:Obj),w.heap[k]?=some o->(∀c t fr,o≠.cells c t fr)->w8.heap[k]?=some o:=λk o hk ho=>by
  refine(stay k (yk.1 hk).1 (λe=>?_) (λe=>?_)).c hk
  .subst e;have aw:=n1;unfold Gk at aw;rw[hk]at aw;cases aw;exact ho _ _ _ rfl
  obtain⟨c',O⟩:=A7 n4 e;rw[Bk,hk]at O;cases O;exact ho _ _ _ rfl
 refine⟨⟨ai gb _ _ _ h.box (by decide) (by decide),am h.row (by decide) (by decide),h.aW,by simp[h.aP],λi x' b' u ah hb' hu=>?_,λy hy=>⟨(h.aM y hy).1,am (h.aM y hy).2 (by decide) (by decide)⟩,λi j u u' hu aj aq=>?_⟩,⟨?_,ai,ay⟩⟩
 .by_cases hi:i=m
  .subst hi;rw[hx]at ah;rw[hb]at hb';cases ah;cases hb';rw[Y3 ax]at hu;cases hu;refine⟨hN8,n2,⟨fa,fc,?_⟩,?_⟩
   . first
     | (have _:=tP
        simp[rl hp])
     |(simp)
   first
    | (have _:=tP
       have au:w8.ownsRow base 106 1 (.slice fa ((C8 x.1 (QQ i)).length+1) fc) ((C8 x.1 (QQ i)).length+1) ((C8 x.1 (QQ i)).map Prod.fst++[p]):=Ci ho7 λk hk=>ht8.block k (λe=>by
         obtain⟨c,hc⟩:=A7 ho7 hk;subst e;have ar:w7.heap[k]?=w.heap[k]?:=by
           rw[hg7.block k (by simp;omega) (λe=>by obtain⟨c',O⟩:=A7 n4 e.z;exact Cw n1 O (by decide)),yN _ _ _ az]
         rw[Bk,ar]at hc;exact Cw n1 hc (by decide))
       simpa[rl hp] using au)
    | (have au:w8.ownsRow base 106 1 (.slice fa (C8 x.1 Q').length fc) (C8 x.1 Q').length ((C8 x.1 Q').map Prod.fst):=Ci ho7 λk hk=>ht8.block k (λe=>by
         obtain⟨c,hc⟩:=A7 ho7 hk;subst e;have ar:w7.heap[k]?=w.heap[k]?:=by
           rw[hg7.block k az (λe=>by obtain⟨c',O⟩:=A7 n4 e.z;exact Cw n1 O (by decide))]
         rw[Bk,ar]at hc;exact Cw n1 hc (by decide))
       simpa using au)
  rw[YO (λe=>hi e.z)]at hu;obtain⟨k1,k2,k3,k4⟩:=h.node i x' b' u ah hb' hu;simp only[if_neg hi];refine⟨(stay b' (Ap k1) (λe=>?_) (λe=>?_)).c k1,k2,k3,?_⟩
  .subst e;exact hi (k1.num n1)
  .obtain⟨c',O⟩:=A7 n4 e;exact Cw k1 O (by decide)
  refine Ci k4 λk hk=>stay k (k4.lt k hk).2 (λe=>?_) (λe=>h.apart i m u v hu hv hi k hk e);subst e;obtain⟨c',O⟩:=A7 k4 hk;exact Cw n1 O (by decide)
 .by_cases hi:i=m
  .subst hi;rw[Y3 ax]at hu;rw[YO aq]at aj;cases hu;intro g hg af;exact ak j u' aj (λe=>aq e.z) g af hg
  rw[YO (λe=>hi e.z)]at hu;by_cases hj:j=m
  .subst hj;rw[Y3 ax]at aj;cases aj;exactλg hg=>ak i u hu hi g hg
  rw[YO (λe=>hj e.z)]at aj;exact h.apart i j u u' hu aj aq
 . first
   | (have _:=tP
      refine(((y8 base w).alloc hbase _).grown hg7 (by simp;omega) (λk hk=>(n4.lt k hk).1)).c (ht8.e n2))
   |(refine((y8 base w).grown hg7 hbase (λk hk=>(n4.lt k hk).1)).c (ht8.e n2))
 ):=h
def NF.push{w w7 w8 base gb mb d a L bs V QQ m b x v p f o fa fc}(h:NF w base gb mb d a L bs V QQ)(hx:L[m]?=some x)(hb:bs[m]?=some b)(hv:V[m]?=some v)(hp:Ah x.1 f=true)(hbase:base<=w.heap.size)(ho7:w7.ownsRow base 106 1 (.slice fa ((C8 x.1 (QQ m)).length+1) fc) ((C8 x.1 (QQ m)).length+1) ((C8 x.1 (QQ m)).map Prod.fst++[p]))(hg7:(w.alloc o).grownBy w7 v.ownBlock)(hl7:(Value.slice fa ((C8 x.1 (QQ m)).length+1) fc).ownBlock=v.ownBlock∨(Value.slice fa ((C8 x.1 (QQ m)).length+1) fc).ownBlock=some (w.alloc o).heap.size)(hN8:Gk w8 b x m (.slice fa ((C8 x.1 (QQ m)).length+1) fc))(ht8:Turned w7 w8 b) :
  NF w8 base gb mb d a L bs (V.set m (.slice fa ((C8 x.1 (QQ m)).length+1) fc)) (λi=>if i=m then QQ m++[(p,f)] else QQ i)/\EB base w w8:=by
 have tP:=trivial;exact ur
def kP:(prog.info? 106).map (λi=>(i.zero,i.size,i.bytes))=some (some (.pointer none),1,8):=qg
def mK{w p f}(h:DJ w p f):p.oneCell'=true:=by
 obtain⟨b,o,rfl,_⟩:=h;rfl
def Gk.nd{w b base x i v}(h:Gk w b x i v)(g:QT w base x):∃a c,DG w b x.1 a c:=by
 obtain⟨⟨a,c,e⟩,f⟩:=g;obtain⟨⟨O,j,d,_⟩,_⟩:=h.J;rw[e]at d f;exact⟨a,c,O,j,d,F7.owns f⟩
def zla(base r mb:Nat)(A:Af)(z:Nat)(L:CD)(a:A5)(V:Aj)(Q:Fs)(q:Value)(f:F)(B w:Aa)(T:Bw B w)(U:B.heap.size<=base)(hF:DJ B q f)(G:NF w base r mb A z L a V (λ_=>Q))(hB:base<=w.heap.size)(hL:L.length<=1000)(hQ:Q.length<=1000)(I:∀x∈L,x.1.y.length<=1048576) :
  Ca 91 #[.pointer (some ⟨r,0,none⟩),q] w λe w'=>e=.returned (.tuple #[])/\(∃V',NF w' base r mb A z L a V' (λ_=>Q++[(q,f)]))/\EB base w w':=by
 obtain⟨fb,fo,ay⟩:∃fb fo,q=.pointer (some ⟨fb,fo,none⟩):=by
  obtain⟨fb,fo,h,_⟩:=hF;exact⟨fb,fo,h⟩
 subst ay;obtain⟨HA,HF,HN,R,ax⟩:=Ei T hF G I (mK hF);obtain⟨⟨g0,g1⟩,_,az⟩:=G.box.J;go_enter func91,ntmps91;go_wp2_with fail
 go_loopw [11] (λiv wr=>∃(k:Nat)(V':Aj),iv=.int .i64 (k:Int)/\k<=L.length/\NF wr base r mb A z L a V' (λi=>if i<k then Q++[(.pointer (some ⟨fb,fo,none⟩),f)] else Q)/\EB base w wr) (mz L.length)
 .exact t_
 obtain⟨k,V',rfl,aD,H,D⟩:=hrel;obtain⟨NR,FR⟩:=An H D;have aB:=D.rest.size;have Y:=Ad (HA.c (D.rest.j U));by_cases n:k<L.length
 .obtain⟨x,s⟩:=Bq n;obtain⟨nb,t⟩:∃b,a[k]?=some b:=⟨a[k]'(by rw[NR.o.aW];exact n),qf⟩
  obtain⟨v,hv⟩:∃v,V'[k]?=some v:=⟨V'[k]'(by rw[NR.o.aP];exact n),qf⟩
  obtain⟨rb,rfl,_,r0,_⟩:=CG NR.row (show(Gb a)[k]?=some (.pointer (some ⟨nb,0,none⟩)) by simp[Gb,t]);obtain⟨d,n2,⟨fa,fc,rfl⟩,m⟩:=NR.node k x nb v s t hv;simp only[WR,if_false]at hv d m;obtain⟨K,nc,au⟩:=d.nd (NR.aM x (yd s));have HP:=Ad (RX nb x.1 K nc (.pointer (some ⟨fb,fo,none⟩)) f wr au (HF.e Y) (R x (yd s)));have aa:(C8 x.1 Q).length<=1000:=yi (Yi _ _) hQ;obtain⟨z0,z1⟩:=CZ n;obtain⟨HX,ak,ai⟩:=AK s t hv;cases hm:Ah x.1 f
  .exact tj
  have HM:=Ad hm;rw[hm]at HP;go_wp2_with fail;refine HP.rtn λw3 O=>?_;obtain⟨N3,F3⟩:=An (NR.C O) (FR.c (EB.u O qd));have aC:=O.size;obtain⟨d,_,_,m⟩:=N3.node k x nb _ HX ak ai;simp only[WR,if_false]at m;obtain⟨N1,E⟩:=An d m;obtain⟨⟨_,_,_,y4⟩,_,N⟩:=d.J;have l:=Ad (λo=>Au.alloc Bg o:∀o,Bw w3 (w3.alloc o));have aA:∀o,(w3.alloc o).cell? ⟨nb,4,none⟩=some (.slice fa (C8 x.1 Q).length fc):=λo=>zab (l o) y4;obtain⟨W,TY⟩:=An (λo=>(show Gk (w3.alloc o) nb x k (.slice fa (C8 x.1 Q).length fc) from((l o).block nb N).c N1)) (λo g M=>A7 (AZ E (l o)) (k:=g) M);have aj:base<=w3.heap.size:=qd;go_upto_region 5 with(first|(at_builtin;refine Dp qh (.tmp 22) (.tmp 24) 199 qh base 106 _ 1 8 underlying199 kP qh qd _ (C8 x.1 Q).length _ qh (AZ E (l _)) (some ⟨_,0,none⟩) 1 1 qh [.pointer (some ⟨fb,fo,none⟩)] qh (λe=>qo) (CH _ _ _ _ qD) uj qj qd (yi aj (l _).size) ?_;intro a7 c7 Z ho7 hg7 hl7;have N7:=Ad (show Gk Z nb x k (.slice fa (C8 x.1 Q).length fc) from E5 (W _) hg7 (TY _) qi);obtain⟨_,z4,_⟩:=N7.J)|fail);exact tr
 have ar:k=L.length:=qd;subst ar;exact ix
end
def oC{w w'}(h:w.grownBy w' none):Bw w w':=
 Au.grown h Bg (λk a=>by cases a)
def Ve{w:Aa}{base e size v n xs}(h:w.ownsRow base e size v n xs){p}(b:p.block<base)(u):(w.setCell p u).ownsRow base e size v n xs:=
 Ci h (λg a=>yD _ _ _ _ (by have:=(h.lt g a).1;omega))
def kE(w:Aa)(base:Nat)(x:Value)(vs:AH):Prop:=(∃a c,x=.slice a vs.length c)/\w.ownsRow base 187 3 x vs.length (vs.flatMap V.cells)
def rP(a c vs w)(hv:Cj w a vs)(hl:vs.length<=1048576) :
  Ca 178 #[.slice a vs.length c] w λe w'=>
   (∃d b,e=.returned (.slice d vs.length b)/\kE w' w.heap.size (.slice d vs.length b) vs)/\Bw w w':=by
 go_enter func178,ntmps178;go_wp2_with (at_builtin;refine Dp qh (.tmp 4) (.tmp 5) 38 qh w.heap.size 187 _ 3 32 underlying38 jw qh qd _ 0 [] qh (yJ _ _ _ _) a vs.length c qh (vs.flatMap V.cells) (PC _) (λe=>Cj.nil (e▸hv)) (λj e=>Cj.bO (e▸hv)) (Vi _) qj qd Bg ?_;intro d b k g f i);have O:=g.o;simp only[Yj,Yg]at O;go_ret;exact⟨⟨d,b,qf,⟨d,b,rfl⟩,O⟩,oC f⟩
def sS(f:F)(a c w)(hv:Cj w a f.v)(hl:f.v.length<=1048576) :
  Ca 259 #[.agg #[I6 f.tag,.string f.E,.slice a f.v.length c]] w λe w'=>
   (∃b d,e=.returned (.agg #[I6 f.tag,.string f.E,.slice b f.v.length d])/\kE w' w.heap.size (.slice b f.v.length d) f.v)/\Bw w w':=by
 have i:∀o o',Cj ((w.alloc o).alloc o') a f.v:=λo o'=>hv.e (Ar.alloc qf _);have q:w.heap.size<w.heap.size+1+1:=qd;go_enter func259,ntmps259;go_wp2_with (at_builtin;refine Dp qh _ (.tmp 4) 38 qh (w.heap.size+1+1) 187 _ 3 32 underlying38 jw qh qd _ 0 [] qh (yJ _ _ _ _) a f.v.length c qh (f.v.flatMap V.cells) (PC _) (λe=>Cj.nil (e▸hv)) (λp e=>Cj.bO (e▸i _ _)) (Vi _) qj qd qf ?_;intro b d m n k s;have O:=oC k;obtain⟨l,r⟩:=AU O);have g:=n.o;simp only[Yj,Yg]at g;refine bodyPost_ret (v:=.agg #[I6 f.tag,.string f.E,.slice b f.v.length d]) (by simp[results,results259,go_sem,l]) rfl ⟨⟨b,d,rfl,⟨b,d,rfl⟩,?_⟩,?_⟩
 .exact C4 (Ve (Ve (Ve (Ve g qe _) qf _) qf _) qf _) qd
 have hB:Bw w m:=(Ar.alloc qf _).c (O.j qe);exact tN
def RT(f a n c):∀u∈Bx f (.slice a n c),u.oneCell'=true:=by
 intro u hu;simp[Bx]at hu;rcases hu with rfl|rfl|rfl<;>rfl
def VC{w:Aa}{base B v x e c s d n b xs ys}{w':Aa}(h:w.ownsRow base e s v n xs)(a:w'.ownsRow B c d x b ys)(i:w.heap.size<=B):BH v x:=λg f O=>by
 have j:=(h.lt g f).2;have k:=(a.lt g O).1;omega
def vB(h:P:=by
 first
  | (have _:=tP
     go_enter func258,ntmps258)
  |(go_enter func177,ntmps177)
 go_wp2
 go_loopw [3,8] (λv i wr=>∃(k:Nat)(a':Af)(c':Nat)(xs:Aj),k<=fs.length/\i=I6 k/\v=.slice a' k c'/\Cg wr w.heap.size (.slice a' k c') k (fs.take k) xs/\Bw w wr) (λ_ i _=>fs.length-(intOf i).toNat)
 case atStart=>exact⟨0,none,0,[],by omega,rfl,rfl,Cg.nil _ _,Au⟩
 case round=>
  obtain⟨k,a',c',xs,hk,rfl,rfl,ho,hb⟩:=hrel;by_cases aw:k<fs.length
  .obtain⟨f,am⟩:=Bq aw;obtain⟨b,o,rfl,c0,c1,s,cs,c2,hsl⟩:=hv.e hb k f am;have au:=hs f (yd am);have HO:=Ad ho;clear ho
   first
    | (have _:=tP
       go_wp2_with (first|(go_at_call 259;refine(sS f s cs _ (hsl.e Ar) au).j ?_;rintro e w1 ⟨⟨a1,aj,rfl,af⟩,O⟩;have ah:=Ad ((HO.e Ar).e O);have HX:=Ad af;clear af)|(at_builtin;refine Dp (by rfl) (.tmp 12) (.tmp 15) 25 (by rfl) w.heap.size 145 _ 3 48 underlying25 QX (by rfl) (by omega) _ k _ (by rfl) (ah.aa.alloc _) (some ⟨w1.heap.size,0,none⟩) 1 1 (by rfl) (Bx f (.slice a1 f.v.length aj)) (by rfl) (λe=>by cases e) (by exact RS _ _ _) (RT _ _ _ _) (by unfold maxLen;omega) (by omega) (by have h1:=hb.size;have h2:=O.size;simp at h2⊢;omega) ?_;intro a2 aq w2 ao ai ar)))
    | (go_wp2
       go_region_held3 (λw'=>At w' wr.heap.size 0 (I6 f.tag)/\At w' wr.heap.size 1 (.string f.E)/\At w' wr.heap.size 2 (.slice s f.v.length cs)) ((go_split_ands;refine ⟨?_,?_,?_⟩ <;> first | (simp[*,go_sem];done) | exact zab O (by simp[*,go_sem]) | exact zab Ar (zab O (by simp[*,go_sem])) | exact ai.cell (zab Ar (zab O (by simp[*,go_sem]))) (λe=>absurd (HO.aa.lt _ e.z).2 (WR _))))
         (first|(go_at_call 178;refine(rP s cs f.v _ (hsl.e ?_) au).j ?_;exact Ar.drew;rintro e w1 ⟨⟨a1,aj,rfl,af⟩,O⟩;have ah:=Ad ((HO.e Ar.drew).e O);have HX:=Ad af;clear af)|(refine GG (by rfl) (.tmp 12) (.tmp 21) 25 (by rfl) w.heap.size 145 _ 3 48 underlying25 QX (by rfl) (by omega) _ k _ (by rfl) (ah.aa.alloc _) (some ⟨w1.heap.size,0,none⟩) 1 1 (by rfl) (Bx f (.slice a1 f.v.length aj)) (by rfl) (λe=>by cases e) (by exact RS _ _ _) (RT _ _ _ _) (by unfold maxLen;omega) (by omega) (by have h1:=hb.size;have h2:=O.size;simp at h2⊢;omega) ?_;intro a2 aq w2 ao ai ar)))
   have hX:=HX.o
   first
    | (have _:=tP
       have ak:Bw w w1:=hb.c ((Ar.thn O).j hb.size))
    |(have ak:Bw w w1:=hb.c ((Ar.drew.c (O.j (by simp))).j hb.size))
   have hsz:w.heap.size<=w1.heap.size:=ak.size;have hS:=(ah.e Ar).snoc ⟨hX.1,(C4 hX.2 (by have:=hb.size;simp;omega)).alloc _⟩ (VC HO.aa hX.2 (by simp)) (λy hy=>by
    obtain⟨f',_,ax⟩:=HO.bN hy;exact VC ax hX.2 (by simp)) ao ai ar
   first
    |(have _:=tP)
    |(go_wp2)
   go_roundw
   case rel=>
    rw[<-OA fs k f am]at hS;exact⟨k+1,a2,aq,_,by omega,by go_num,rfl,hS,((ak.alloc hsz _).grown ai (by simp;omega) (λj hj=>(ah.aa.lt j hj).1))⟩
   case measure=>simp[intOf];omega
  go_wp2;go_ret;obtain rfl:k=fs.length:=by omega
  rw[yR Bg]at ho;exact⟨⟨a',c',xs,rfl,ho⟩,hb⟩
 ):=h
def rx(a c fs w)(hv:Cs w a fs)(hl:fs.length<=1048576)(hs:∀f∈fs,f.v.length<=1048576) :
  Ca 258 #[.slice a fs.length c] w λe w'=>
   (∃a' c' xs,e=.returned (.slice a' fs.length c')/\Cg w' w.heap.size (.slice a' fs.length c') fs.length fs xs)/\Bw w w':=by
 have tP:=trivial;exact vB
def zmf(a c fs w)(hv:Cs w a fs)(hl:fs.length<=1048576)(hs:∀f∈fs,f.v.length<=1048576) :
  Ca 177 #[.slice a fs.length c] w λe w'=>
   (∃a' c' xs,e=.returned (.slice a' fs.length c')/\Cg w' w.heap.size (.slice a' fs.length c') fs.length fs xs)/\Bw w w':=by
 exact vB
section
open Go.Maps
def jO:(382:TypeId)<prog.types.size:=of_decide_eq_true qg
def kC:(match prog.underlying 382 with|some (.array _ _)|some (.struct _)=>true|_=>false)=true:=qg
def vL:prog.keyType 382=true:=qg
def NE:Keyed prog 382:=Keyed.of_law (deep_law_laid U4 (m:=5) qd jO qg kC)
def kg:prog.cellsOf 382=20:=qg
def ku:prog.cellsOf 380=18:=qg
def vN:ER zV:=⟨qi,qi,qi⟩
def j_(d a b c e f g)(O:ER a)(i:ER b)(j:ER c)(l:ER e)(m:ER f)(n:ER g):(prog.keyLits (d+3) 380 ([a,b,c,e,f,g].flatMap V.cells)).isSome=true:=by
 have k:=λv h=>kD d v h;unfold Program.keyLits;rw[underlying380];simp only[ku,Zw];rw[if_pos qh];simp only[show List.range 6=[0,1,2,3,4,5] by rfl,Kn,KA];simp only[V.cells,yX,YY,Yz,Yg,V8,K6,WV,We,Wk,WH,k a O,k b i,k c j,k e l,k f m,k g n];rfl
def j9(d a n)(f:a.size<=maxLen)(e:(Lit.int .i64 n).wf=true)(L)(g:L.length=18)(c:(prog.keyLits (d+1) 380 L).isSome=true) :
  (prog.keyLits (d+2) 382 (.string a::.int .i64 n::L)).isSome=true:=by
 obtain⟨l,hl⟩:=Wz.1 c;have hS:prog.keyLits (d+1) 9 [.string a]=some [.string a.data.toList]:=by simp[Program.keyLits,underlying9,f]
 have b:prog.keyLits (d+1) 3 [.int .i64 n]=some [.int .i64 n]:=by simp[Program.keyLits,underlying3,e]
 have i:L.take 18=L:=yR qd;unfold Program.keyLits;rw[underlying382];simp only[kg];rw[if_pos ⟨by simp[g],OL⟩];simp only[Kn,KA,XV,US,ku,WV,We,Wk,WH,hS,b,i,hl];rfl
def zp(d n)(m:d.size<=maxLen)(q:n<=6)(vs)(hl:vs.length=6)(hv:∀v∈vs,ER v):∃l,keyOf prog 382 (.agg (Lr d n vs).toArray)=some l:=by
 match vs,hl with
 |[a,b,c,e,f,g],_=>
  have i:(Lit.int .i64 (n:Int)).wf=true:=WalkArith.wf_i64 qd;have o:=j_ (prog.types.size-3) a b c e f g (hv _ qf) (hv _ qf) (hv _ qf) (hv _ qf) (hv _ qf) (hv _ qf);have r:3<=prog.types.size:=of_decide_eq_true qg;have j:=j9 (prog.types.size-3+2) d n m i _ qh o;rw[show prog.types.size-3+2+2=prog.types.size+1 by omega]at j;have O:(Value.agg (Lr d n [a,b,c,e,f,g]).toArray).formed prog 382=true:=by
   simp[Value.formed,underlying382,kg,Th]
  unfold keyOf;rw[underlying382];simp only[vL,O,KB,if_true];obtain⟨p,k⟩:=Wz.1 j;show∃l,(prog.keyLits (prog.types.size+1) 382 (.string d::I6 n::[a,b,c,e,f,g].flatMap V.cells)).map _=some l;rw[k];exact⟨_,rfl⟩
def nF:∀(a vs:AH),a.length=vs.length->a.flatMap V.cells=vs.flatMap V.cells->a=vs
 |[],[],_,_=>rfl
 |[],_::_,h,_=>by simp at h
 |_::_,[],h,_=>by simp at h
 |u::a,v::vs,h,e=>by
  simp only[yX,V.cells,Yz,Yg,Yv,KK,Ke,true_and]at e
  obtain⟨c,f,d,b⟩:=e
  have g:=nF a vs qu b
  rw[g,V.same c f d]
def Ib(f:F):Prop:=f.E.size<=maxLen/\f.v.length<=6/\∀v∈f.v,ER v
def x6{f}(h:Ib f):∃l,keyOf prog 382 (.agg (Fl f).toArray)=some l:=by
 obtain⟨c,a,b⟩:=h;refine zp f.E f.v.length c a (Qp f.v) (SV _ a) ?_;intro v hv;rcases yp.1 hv with hv|hv
 .exact b v hv
 rw[WC hv];exact vN
def KL(kl:F->Lit):Prop:=∀f,Ib f->keyOf prog 382 (.agg (Fl f).toArray)=some (kl f)
def KL.bP:∃a,KL a:=
 ⟨λf=>(keyOf prog 382 (.agg (Fl f).toArray)).getD (.bool false),λf h=>by
  obtain⟨l,hl⟩:=x6 h
  simp only[hl,YE]⟩
def KL.eu{a}(K:KL a){f g}(d:Ib f)(i:Ib g)(h:Cd f=Cd g):a f=a g:=by
 have b:=K f d;have c:=K g i;rw[SZ]at h;have e:Fl f=Fl g:=by unfold Fl;rw[h.1,h.2]
 rw[e,c]at b;exact(Option.some.inj b).z
def zlp{a}(K:KL a){f g}(b:Ib f)(c:Ib g)(h:a f=a g):Cd f=Cd g:=by
 have e:=NE.inj (K f b) (h▸K g c);simp only[Value.agg.injEq]at e;have O:Fl f=Fl g:=by simpa using congrArg Array.toList e
 unfold Fl Lr at O;simp only[Yv,Ke,KK,true_and]at O;obtain⟨d,m,k⟩:=O;have i:=nF _ _ (by rw[SV _ b.2.1,SV _ c.2.1]) k;have l:f.v.length=g.v.length:=qd;have j:f.v=g.v:=by
  have:=congrArg (List.take f.v.length) i;unfold Qp at this;rw[List.take_left,l,List.take_left]at this;exact this
 exact SZ.2 ⟨d,j⟩
def ZM{a}(K:KL a){f g}(b:Ib f)(c:Ib g):a f=a g↔Cd f=Cd g:=
 ⟨zlp K b c,K.eu b c⟩
structure H9(kl:F->Lit) (fs:Ab) (k:Nat) (D:DataW Unit):Prop where
 le:Maps.size D<=k
 iff:Maps.size D=k↔((fs.take k).map Cd).Nodup
 has:∀g,Ib g->(Maps.has D (kl g)=true↔Cd g∈(fs.take k).map Cd)
def H9.start(a fs):H9 a fs 0 (.map []):=
 ⟨yA _,by simp[Maps.size],λg _=>by simp[Maps.has]⟩
def H9.step{i}(K:KL i){fs k D f}(h:H9 i fs k D)(q:Tidy D)(w:fs[k]?=some f)(c:Ib f)(d):H9 i fs (k+1) (D.put (i f) d):=by
 have r:WideAt.IsKeyLit (i f):=NE.key (K f c);have o:=h.has f c;have O:(fs.take (k+1)).map Cd=(fs.take k).map Cd++[Cd f]:=zkh Cd fs k f w;have j:=size_put (k:=i f) q d;have x:=h.le;constructor
 .rw[j];split<;>omega
 .rw[O,j,yL];by_cases l:Cd f∈(fs.take k).map Cd
  .rw[if_pos (o.2 l)];constructor
   .intro e;omega
   rintro⟨_,_,u⟩;exact absurd rfl (u _ l _ qf)
  rw[if_neg (λe=>l (o.1 e))];constructor
  .intro e;refine⟨h.iff.1 qd,qf,?_⟩;intro a t b p;simp only[yw]at p;rintro rfl;exact l (p▸t)
  rintro⟨s,_,_⟩;have:=h.iff.2 s;omega
 intro g n;rw[O,yp,yw];by_cases e:i g=i f
 .rw[e,has_put_same q.isMap r];simp[(ZM K n c).1 e]
 rw[has_put_other e,h.has g n];have m:Cd g≠Cd f:=λv=>e ((ZM K n c).2 v);simp[m]
end
end Go.Proofs.YtikojfajahnhgaaGreat
