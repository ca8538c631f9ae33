import Derived.Test.YtikojfajahnhgaaGreatKbp
set_option linter.all false
namespace Go.Proofs.YtikojfajahnhgaaGreat
attribute [local simp] At I6 Pn mzI
attribute [local go_sem] At I6 Pn
open Go.RowKit Go.Proofs.Tryz
structure TC where
 X:List Cx
 ca:Option Addr
 cc:Nat
 va:Option Addr
 n:Nat
 vc:Nat
 mb:Nat
 cb:Nat
 nb:Nat
 wb:Nat
def TC.D(t:TC)(adr:F->Addr)(U:List F)(vw:Vw):TD:=⟨adr,U,t.X,vw,t.ca,t.cc,t.va,t.n,t.vc,t.mb,t.cb,t.nb,t.wb⟩
abbrev MK:=(RD × Option Addr) ⊕ TC
namespace MK
def X:MK->List Cx
 |.inl (R,_)=>R.X
 |.inr t=>t.X
def ca:MK->Option Addr
 |.inl (_,c)=>c
 |.inr t=>t.ca
def cb:MK->Nat
 |.inl (R,_)=>R.cb
 |.inr t=>t.cb
def nb:MK->Nat
 |.inl (R,_)=>R.nb
 |.inr t=>t.nb
def wb:MK->Nat
 |.inl (R,_)=>R.wb
 |.inr t=>t.wb
def S:MK->Nat->Prop
 |.inl (R,_),g=>R.S g
 |.inr t,g=>g=t.nb∨g=t.wb
def val:MK->Value
 |.inl (R,_)=>.iface 248 (.pointer (some ⟨R.rb,0,none⟩))
 |.inr t=>.iface 256 (.pointer (some ⟨t.mb,0,none⟩))
def Ok:MK->Prop
 |.inl (R,_)=>∀U,JE R U
 |.inr t=>(∀c∈t.X,c.cp.ah.length<=6/\c.cp.aq.ah.length<=1048576)/\t.X.length<=6/\∀U,D_ (t.X.map (BM U)) []
def St(adr:F->Addr)(U:List F)(vw:Vw)(g:Cx->List F)(old:List Kt)(w:World):MK->Prop
 |.inl (R,_)=>EA R adr U vw g old w
 |.inr t=>FD (t.D adr U vw) w/\AN (t.D adr U vw) old (BB g t.X []) w
end MK
structure GP(m:MK) (adr:F->Addr) (U:List F) (vw:Vw) (w:World):Prop where
 cx:∀(k:Nat)(c:Cx),m.X[k]?=some c->Ed adr vw m.ca w k c
 nd:∀c∈m.X,∃a n,CO w c.node c.cp.aq a n
 us:Bl adr U w
def GP.ck{m adr U vw u w}(h:GP m adr U vw u)(d:CK u w):GP m adr U vw w:=⟨λk c b=>(h.cx k c b).ck d,λc b=>by
 obtain⟨a,n,e⟩:=h.nd c b;exact⟨a,n,e.ck d⟩,h.us.ck d⟩
def gw{t adr U vw}(h:MK.Ok (.inr t))(b:Bm adr U)(hv:EB U t.X (gV vw)):Fg (t.D adr U vw):=
 ⟨h.1,h.2.1,λc a=>yi (hv c a).2.2 qd,λc a x d=>yg.1 ((hv c a).1 x d),h.2.2 U,b⟩
def MK.St.keep{m:MK}{adr U vw g old S w w'}(h:m.St adr U vw g old w)(b:CK w w')(i:Av S w w')(d:∀x,m.S x->¬S x):m.St adr U vw g old w':=by
 cases m with
 |inl O=>
  obtain⟨R,c⟩:=O;obtain⟨⟨a,f,e⟩,k⟩:=h;exact⟨⟨a,UV b i (λg j=>d g (He.1 j)) f,e⟩,b _ _ _ _ k⟩
 |inr t=>
  obtain⟨f,e⟩:=h;obtain⟨K,M,l,n,o⟩:=e.ex;exact⟨f.ck b,⟨K,M,l,n,o.aM i b (d _ (.inl rfl)) (d _ (.inr rfl))⟩⟩
def Uz{adr U cb nb wb w}:∀{l:List Ap}{a:CT l},Ey adr U cb nb wb l w a->∀n∈l,Pq adr U w n
 |[],_,_,n,b=>absurd b (by simp)
 |(.inl d,fs)::r,a,h,n,b=>by
  rcases yO.1 b with rfl|b
  .exact h.1
  .exact Uz (l:=r) (a:=a.2) h.2.2 n b
 |(.inr d,fs)::r,a,h,n,b=>by
  rcases yO.1 b with rfl|b
  .exact h.1
  exact Uz (l:=r) (a:=a.2.2) h.2.2.2 n b
structure O7(S:Nat->Prop) (w w':World):Prop where
 kept:∀(k:Nat)(c:Array Value)(t:TypeId)(fr:Nat × Nat),w.heap[k]?=some (.cells c t fr)->(t=145∨t=263∨t=339∨t=336∨t=252∨t=258)->w'.heap[k]?=some (.cells c t fr)
 maps:∀(k:Nat)es cl,S k->w.heap[k]?=some (.map es cl)->w'.heap[k]?=some (.map es cl)
def DF.k{base S w w'}(h:DF base w w'):O7 S w w':=⟨λk c t b a ht=>h.kept k c t b a qu qu,λk _ _ _ a=>h.maps k _ a (λ_ _ _ e=>qp)⟩
def Ag.fk{S w w' b L}(h:Ag w b L)(d:O7 S w w')(hS:S b):Ag w' b L:=by
 obtain⟨es,a,i,e⟩:=h.at_;exact⟨⟨es,a,d.maps b _ _ hS i,e⟩,h.nd,λy j=>(h.ok y j).bj λg c f=>d.kept g c _ _ f (.inl rfl)⟩
def CS.fk{S w w' cb nb wb T M}(h:CS w cb nb wb T M)(a:O7 S w w')(c:S nb)(b:S wb):CS w' cb nb wb T M:=⟨a.kept _ _ _ _ h.q (.inr (.inl rfl)),h.now.fk a c,h.news.fk a b,h.ne⟩
def jF{S adr adr' U g vw vw' w w' hl}(f:O7 S w w')(b:Bl adr' g w'):∀{up:Value}{cs:List Cx}{xs:List CE},(∀c∈cs,DQ w' c.ta c.cp.ah/\At w' c.node 4 (.slice (vw' c.node).1 (vw' c.node).2.2.length (vw' c.node).2.1)/\Jf w' (vw' c.node).1 (vw' c.node).2.2 adr')->(∀n∈Au vw hl up cs xs,Pq adr U w n)->∀n∈Au vw' hl up cs xs,Pq adr' g w' n
 |_,[],[],_,_,n,a=>by simp[Au]at a
 |_,[],_::_,_,_,n,a=>by simp[Au]at a
 |_,_::_,[],_,_,n,a=>by simp[Au]at a
 |up,c::cs,x::xs,hc,h,n,a=>by
  rw[Au]at h a
  obtain⟨i,Y,j⟩:=hc c qe
  rcases yO.1 a with rfl|a
  .have O:=h _ Wj
   cases e:c.cp.neg
   .rw[Ih e]at O⊢
    exact⟨f.kept _ _ _ _ O.q qe,Y,j,i,b⟩
   rw[Ic e]at O⊢
   exact⟨f.kept _ _ _ _ O.q qe,Y,j,i,b⟩
  exact jF f b (λd hd=>hc d I1) (λn a=>h n (Y2 _ a)) n a
def MK.St.bm{m adr adr' U B vw vw' g old w w'}(h:m.St adr U vw g old w)(D:m.Ok)(O:∀f∈U,adr' f=adr f)(q:EB U m.X g)(p:GP m adr' B vw' w')(hf:O7 m.S w w'):m.St adr' B vw' g old w':=by
 cases m with
 |inl W=>
  obtain⟨R,c⟩:=W;obtain⟨⟨a,r,y⟩,s⟩:=h;have C:JE R U:=D U;have Y:∀n∈R.l vw',Pq adr' B w' n:=jF hf p.us (λc A=>by
   obtain⟨k,H⟩:=YD A;obtain⟨g,_,_,G,E,q6⟩:=p.cx k c H;exact⟨G,E,q6⟩) (Uz r)
  obtain⟨N,z,u⟩:=FY (Sx:=R.S) O (λb L hS Z=>Ag.fk Z hf hS) (λK M I=>CS.fk I hf (He.1 (Id (l:=R.l vw)).1) (He.1 (Id (l:=R.l vw)).2)) (R.l vw) (R.l vw') (R.X.map g) (R.X.map (λc:Cx=>U.filter (Ae c.cp.aq))) [[]] a (λg q=>He.1 q) jl r y Y (λT d=>by
   rw[yv.1 d];exact Pj C.len C.sr qe qe) (EB.sub q) (by rw[yp];exact(UM C.len).ai)
  exact⟨⟨N,z,u⟩,s.same ((hf.kept _ _ _ _ s qe).j s.ai)⟩
 |inr t=>
  obtain⟨r,y⟩:=h;obtain⟨K,M,z,u,k3⟩:=y.ex;refine⟨⟨hf.kept _ _ _ _ r.tb qe,p.cx,p.nd,p.us⟩,⟨K,M,λx=>?_,u,k3.fk hf (.inl rfl) (.inr rfl)⟩⟩;have key:∀T,BB g t.X [] T->Ab adr' T=Ab adr T:=λT d=>OQ λf hf=>O f ((LW (D.2.2 U) (λc A x J=>yg.1 ((q c A).1 x J)) d qe qe).2 f (by simpa using hf));rw[z x];constructor
  .rintro⟨T,d,e⟩;exact⟨T,d,e.j (key T d).ai⟩
  rintro⟨T,d,e⟩;exact⟨T,d,e.j (key T d)⟩
def CK.aS{nb wb w w' cb T M}(h:CS w cb nb wb T M)(d:Av (λg=>g=nb∨g=wb) w w'):CK w w':=λg c t b a=>by
 refine(d.block g (As a) ?_).j a;rintro(e|e)
 .exact h.now.aV c t b (e▸a)
 exact h.news.aV c t b (e▸a)
def MK.cS:MK->Nat
 |.inl _=>301
 |.inr _=>306
def MK.cT:MK->Nat
 |.inl _=>303
 |.inr _=>308
def MK.cU:MK->Nat
 |.inl _=>304
 |.inr _=>309
def MK.dg:MK->Nat
 |.inl _=>302
 |.inr _=>307
def MK.ptr:MK->Value
 |.inl (R,_)=>.pointer (some ⟨R.rb,0,none⟩)
 |.inr t=>.pointer (some ⟨t.mb,0,none⟩)
def xA{p f g v}(h:FX 1 p f g v)(x):x∈v↔x∈g∨(p=true/\x=f):=by
 unfold FX at h;cases p
 .rw[if_neg qh]at h;subst h;simp
 rw[if_pos rfl,if_pos rfl]at h;rw[h.mem_iff,yO];constructor
 .rintro(e|e)
  .exact .inr ⟨rfl,e⟩
  exact .inl e
 rintro(e|⟨_,e⟩)
 .exact .inr e
 exact .inl e
def vB{p f g v}(h:FX (-1) p f g v)(b:g.Nodup)(a:∀x∈g,x=f->p=true)(x):x∈v↔x∈g/\x≠f:=by
 unfold FX at h;cases p
 .rw[if_neg qh]at h;subst h;exact⟨λq=>⟨q,λe=>by have:=a x q e;cases this⟩,λq=>q.1⟩
 rw[if_pos rfl,if_neg qh]at h;have O:=h.nodup_iff.1 b;rw[h.mem_iff,yO];constructor
 .intro q;exact⟨.inr q,λe=>(Yg.1 O).1 (e▸q)⟩
 rintro⟨q|q,e⟩
 .exact absurd q e
 exact q
def uV(m)(i:m.Ok)(adr U)(b:Bm adr U)(vw)(O:EB U m.X (gV vw))(g)(k:EB U m.X g)(old f)(j:f∈U)(w)(hS:m.St adr U vw g old w)(l:GP m adr U vw w)(d:∀c∈m.X,FX 1 (Ae c.cp.aq f) f (g c) (gV vw c)) :
  Ca m.cS #[m.ptr,.pointer (some (adr f))] w λe w'=>e=.returned (.tuple #[])/\m.St adr U vw (gV vw) old w'/\CK w w'/\Av m.S w w':=by
 cases m with
 |inl Y=>
  obtain⟨R,c⟩:=Y;exact ud R.rb _ (λw w'=>EA R adr U vw (gV vw) old w'/\CK w w'/\Av R.S w w') w (jY R adr U (i U) b vw O g k old 1 (.inl rfl) f j w hS (λc a=>⟨l.nd c a,d c a⟩))
 |inr t=>
  refine(vU (t.D adr U vw) (gw i b O) old g f w hS.1 hS.2 (λc a x=>xA (d c a) x) j).ac λe w' q=>?_;exact⟨q.1,⟨hS.1.ck q.2.2.1,q.2.1⟩,q.2.2.1,q.2.2.2⟩
def xM(m)(j:m.Ok)(adr U)(d:Bm adr U)(vw)(Y:EB U m.X (gV vw))(g)(b:EB U m.X g)(old f)(k:f∈U)(w)(hS:m.St adr U vw g old w)(p:GP m adr U vw w)(i:∀c∈m.X,FX (-1) (Ae c.cp.aq f) f (g c) (gV vw c)) :
  Ca m.cT #[m.ptr,.pointer (some (adr f))] w λe w'=>e=.returned (.tuple #[])/\m.St adr U vw (gV vw) old w'/\CK w w'/\Av m.S w w':=by
 cases m with
 |inl l=>
  obtain⟨R,c⟩:=l;exact xD R.rb _ (λw w'=>EA R adr U vw (gV vw) old w'/\CK w w'/\Av R.S w w') w (jY R adr U (j U) d vw Y g b old (-1) (.inr rfl) f k w hS (λc a=>⟨p.nd c a,i c a⟩))
 |inr t=>
  have O:∀c∈t.X,∀x∈g c,x∈U/\Ae c.cp.aq x=true:=λc a x n=>yg.1 ((b c a).1 x n);refine(xL (t.D adr U vw) (gw j d Y) old g f w hS.1 hS.2 (λc a x=>vB (i c a) (b c a).2.1 (λy o e=>e▸(O c a y o).2) x) O k).ac λe w' q=>?_;exact⟨q.1,⟨hS.1.ck q.2.2.1,q.2.1⟩,q.2.2.1,q.2.2.2⟩
def V8(m:MK){adr U vw g old w}(hS:m.St adr U vw g old w):Ca m.dg #[m.ptr] w λe w'=>e=.returned (Pn m.cb)/\w'=w:=by
 cases m with
 |inl O=>
  obtain⟨R,c⟩:=O;exact tY R vw w hS.2
 |inr t=>exact xz t.mb t.cb _ _ w hS.1.tb
def kh{α β:Type}(h:α->List β):∀l:List α,l.Nodup->(∀x∈l,(h x).Nodup)->(∀x∈l,∀y∈l,∀z,z∈h x->z∈h y->x=y)->(l.flatMap h).Nodup
 |[],_,_,_=>by simp
 |x::l,hn,h1,h2=>by
  rw[yE]
  refine yP.2 ⟨h1 x (by simp),kh h l (Yg.1 hn).2 (λy hy=>h1 y (by simp[hy])) (λy hy z Y=>h2 y (by simp[hy]) z (by simp[Y])),λa O b d e=>?_⟩
  obtain⟨y,hy,c⟩:=Yk.1 d
  have:=h2 x qe y J_ a O (e▸c)
  exact(Yg.1 hn).1 (this▸hy)
def Ll{vw}:∀(cs:List Cx)(T V:List F),V∈BV (cs.map (Cv vw)) T↔∃W,V=T++W/\BB (gV vw) cs T W
 |[],T,V=>by
  simp only[YF,BV,yv,BB,E6]
  exact⟨λh=>⟨[],by simp[h],rfl⟩,λ⟨W,h,e⟩=>by rw[h,e,yM]⟩
 |c::cs,T,V=>by
  have Y:=λT=>Ll (vw:=vw) cs T V
  rw[yn]
  cases d:c.cp.neg
  .rw[Vt (show(Cv vw c).neg=false from d),Yk]
   constructor
   .rintro⟨f,i,a⟩
    split at a
    .rename_i g
     obtain⟨W,rfl,b⟩:=(Y _).1 a
     exact⟨f::W,qe,(Hc (show Cc c=false from d)).2 ⟨f,W,rfl,i,g,b⟩⟩
    simp at a
   rintro⟨W,rfl,b⟩
   obtain⟨f,l,rfl,i,g,O⟩:=(Hc (show Cc c=false from d)).1 b
   exact⟨f,i,by rw[if_pos (show(Cv vw c).ah.all (Aq T f)=true from g)];exact(Y _).2 ⟨l,qe,O⟩⟩
  rw[Vv (show(Cv vw c).neg=true from d)]
  constructor
  .intro a
   split at a
   .simp at a
   rename_i g
   obtain⟨W,rfl,b⟩:=(Y _).1 a
   exact⟨W,rfl,(G9 (show Cc c=true from d)).2 ⟨L8.1 (Bool.eq_false_iff.2 g),b⟩⟩
  rintro⟨W,rfl,b⟩
  obtain⟨j,O⟩:=(G9 (show Cc c=true from d)).1 b
  have k:(Cv vw c).facts.any (λf=>(Cv vw c).ah.all (Aq T f))=false:=L8.2 j
  rw[if_neg (by rw[k];decide)]
  exact(Y _).2 ⟨W,rfl,O⟩
def kV{vw}:∀{cs:List Cx}{T:List F},(∀c∈cs,(gV vw c).Nodup)->(BV (cs.map (Cv vw)) T).Nodup
 |[],T,_=>by simp[BV]
 |c::cs,T,h=>by
  have O:=λT=>kV (vw:=vw) (cs:=cs) (T:=T) (λd hd=>h d I1)
  rw[yn]
  cases g:c.cp.neg
  .rw[Vt (show(Cv vw c).neg=false from g)]
   refine kh _ _ (h c qe) (λf _=>?_) (λx _ y _ z a e=>?_)
   .split
    .exact O _
    exact We
   split at a
   .split at e
    .obtain⟨W,i,_⟩:=(Ll _ _ _).1 a
     obtain⟨j,b,_⟩:=(Ll _ _ _).1 e
     rw[i]at b
     simp only[Yc,List.append_cancel_left_eq,List.singleton_append,Yh]at b
     exact b.1
    simp at e
   simp at a
  rw[Vv (show(Cv vw c).neg=true from g)]
  split
  .exact We
  exact O _
def nj{P:Prop}(h:P:=by rintro⟨T,hT,e⟩;obtain⟨W,e1,q1⟩:=(Ll _ _ _).1 hT;rw[Yj]at e1;subst e1;exact⟨_,q1,e.ai⟩):P:=h
def MK.St.now{m:MK}{adr U vw old w}(h:m.St adr U vw (gV vw) old w)(p:m.Ok)(u:Bm adr U)(Y:EB U m.X (gV vw)):∃K M,CS w m.cb m.nb m.wb K M/\BU old K M/\K.Perm ((BV (m.X.map (Cv vw)) []).map (Ab adr)):=by
 cases m with
 |inl A=>
  obtain⟨R,c⟩:=A;obtain⟨⟨a,B,o⟩,C⟩:=h;have r:JE R U:=p U;have O:(R.l vw).map Prod.snd=R.X.map (gV vw):=MI r.len;rw[<-O]at o;obtain⟨d,i⟩:=Lv.ends r.len (Hy.1 o);simp only[yE,YO,yM]at d;exact⟨_,_,Ps B,i,d⟩
 |inr t=>
  obtain⟨K,M,d,i,q⟩:=h.2.ex;refine⟨K,M,q,i,?_⟩;have b:∀T,BB (gV vw) t.X [] T->T.length<=3/\∀f∈T,f∈U:=λT hT=>LW (p.2.2 U) (λc j x y=>yg.1 ((Y c j).1 x y)) hT qe qe;have v:K.Nodup:=by
   have:=q.now.nd;rwa [Pp]at this
  have z:((BV (t.X.map (Cv vw)) []).map (Ab adr)).Nodup:=by
   refine Y1.2 ((kV (λc j=>(Y c j).2.1)).imp_of_mem ?_);intro T E hT s g e;obtain⟨W,e1,q1⟩:=(Ll _ _ _).1 hT;obtain⟨D,n,k⟩:=(Ll _ _ _).1 s;rw[Yj]at e1 n;subst e1;subst n;exact g (IW u (b _ q1).2 (b _ k).2 (b _ q1).1 (b _ k).1 e)
  refine(WY v z).2 λx=>?_;rw[d x,yz];constructor
  .rintro⟨T,hT,e⟩;exact⟨T,(Ll _ _ _).2 ⟨T,rfl,hT⟩,e.ai⟩
  exact nj
def mR(m:MK)(adr U vw old w)(h:m.St adr U vw (gV vw) old w)(u:m.Ok)(z:Bm adr U)(Y:EB U m.X (gV vw)) :
  Ca 94 #[Pn m.cb] w λe w'=>e=.returned (.tuple #[])/\(∃K,K.Perm ((BV (m.X.map (Cv vw)) []).map (Ab adr))/\m.St adr U vw (gV vw) K w')/\CK w w'/\Av m.S w w':=by
 obtain⟨K0,C,p,_,s⟩:=h.now u z Y;cases m with
 |inl B=>
  obtain⟨R,c⟩:=B;obtain⟨⟨a,n,r⟩,y⟩:=h;have f:JE R U:=u U;have O:(R.l vw).map Prod.snd=R.X.map (gV vw):=MI f.len;have o:=r;rw[<-O]at o;obtain⟨j,A⟩:=Lv.ends f.len (Hy.1 o);simp only[yE,YO,yM]at j;refine(kO R.cb R.nb R.wb _ _ w (Ps n)).ac λe w' q=>?_;obtain⟨q1,i,d⟩:=q;have b:=CK.aS (Ps n) d;refine⟨q1,⟨_,j,⟨_,Un b d (Rl f.maps (λc k=>⟨(f.small c k).1,(Y c k).2.2,(f.small c k).2.2⟩)) n i,Ul r⟩,b _ _ _ _ y⟩,b,d.ac λg v=>?_⟩;rcases v with rfl|rfl
  .exact He.1 (Id (l:=R.l vw)).1
  .exact He.1 (Id (l:=R.l vw)).2
 |inr t=>
  obtain⟨K,M,j,A,D⟩:=h.2.ex;refine(kO t.cb t.nb t.wb _ _ w p).ac λe w' q=>?_;obtain⟨q1,i,d⟩:=q;have b:=CK.aS p d;refine⟨q1,⟨K0,s,h.1.ck b,⟨K0,[],λx=>?_,kG _,i⟩⟩,b,d⟩;rw[s.mem_iff,yz];constructor
  .exact nj
  rintro⟨T,hT,e⟩;exact⟨T,(Ll _ _ _).2 ⟨T,rfl,hT⟩,e.ai⟩
def MK.sz(vw:Vw):MK->Int
 |.inl (R,_)=>N_ vw R.X
 |.inr t=>((BV (t.X.map (Cv vw)) []).length:Int)
def zj(m:MK)(adr U vw old w)(h:m.St adr U vw (gV vw) old w)(a:m.Ok)(g:Bm adr U)(O:EB U m.X (gV vw))(i:((Fs vw m.X [[]]).map List.length).sum<=1000000000) :
  Ca m.cU #[m.ptr] w λe w'=>e=.returned (I6 (m.sz vw))/\w'=w:=by
 obtain⟨K0,d,Y,_,b⟩:=h.now a g O;cases m with
 |inl f=>
  obtain⟨R,c⟩:=f;exact tA R adr U (a U) vw old w h i
 |inr t=>
  refine(zp t.mb t.cb t.nb t.wb _ _ K0 d w h.1.tb Y).ac λe w' q=>⟨?_,q.2⟩
  rw[q.1,b.length_eq,yp];rfl
def AC(w:World)(c:Cx)(x:CE)(up hv:Value):Prop:=
 match c.cp.neg with
 |true=>NN w x.nb (.bool true) (.int .i64 (c.cp.at_:Int)) (.pointer (some ⟨c.node,0,none⟩)) up hv c.ta c.cp.ah.length c.tc x.tb x.bb/\Ag w x.tb []/\Ag w x.bb []
 |false=>JN w x.nb (.bool false) (.pointer (some ⟨c.node,0,none⟩)) up hv c.cp.at_ c.ta c.cp.ah.length c.tc x.tb/\Ag w x.tb []
def Ag.ay{w w' b}(h:Ag w b [])(d:w'.heap[b]?=w.heap[b]?):Ag w' b []:=by
 obtain⟨es,a,e,c⟩:=h.at_;exact⟨⟨es,a,d.j e,c⟩,h.nd,λy f=>by simp at f⟩
def Ew(c:Cx)(x:CE):List Nat:=match c.cp.neg with|true=>[x.tb,x.bb]|false=>[x.tb]
def Va{nb wb c x}:∀{cs:List Cx}{xs:List CE},xs.length=cs.length->(Cu nb wb (cs++[c]) (xs++[x])).Perm (Ew c x++Cu nb wb cs xs)
 |[],[],_=>by
  show List.Perm (Ew c x++[nb,wb]) _
  exact .refl _
 |d::cs,y::xs,h=>by
  have O:=Va (nb:=nb) (wb:=wb) (c:=c) (x:=x) (cs:=cs) (xs:=xs) qq
  show List.Perm (Ew d y++Cu nb wb (cs++[c]) (xs++[x])) (Ew c x++(Ew d y++Cu nb wb cs xs))
  refine((Wc _).append O).j ?_
  rw[<-Yc,<-Yc]
  exact KB.append (.refl _)
 |[],_::_,h=>by simp at h
 |_::_,[],h=>by simp at h
def Uu{nb wb}:∀{cs:List Cx}{ys:List CE},nb∈Cu nb wb cs ys/\wb∈Cu nb wb cs ys
 |[],_=>by simp[Cu]
 |_::_,[]=>by simp[Cu]
 |d::cs,y::ys=>⟨YA _ (Uu (cs:=cs) (ys:=ys)).1,YA _ (Uu (cs:=cs) (ys:=ys)).2⟩
def Z4{nb wb}:∀{cs:List Cx}{ys:List CE},(Cu nb wb cs ys).Nodup->nb≠wb
 |[],_,h=>by simpa[Cu] using h
 |_::_,[],h=>by simpa[Cu] using h
 |d::cs,y::ys,h=>Z4 (cs:=cs) (ys:=ys) (yP.1 h).2.1
def AC.same{w w' c x up hv}(h:AC w c x up hv)(b:w'.heap[x.nb]?=w.heap[x.nb]?)(a:∀g∈Ew c x,w'.heap[g]?=w.heap[g]?):AC w' c x up hv:=by
 unfold AC Ew at *
 cases d:c.cp.neg
 .rw[d]at h a;exact⟨b.j h.1,h.2.ay (a _ qe)⟩
 rw[d]at h a;exact⟨b.j h.1,h.2.1.ay (a _ qe),h.2.2.ay (a _ qe)⟩
def AC.pos{w c x up hv}(a:c.cp.neg=false):AC w c x up hv↔JN w x.nb (.bool false) (Pn c.node) up hv c.cp.at_ c.ta c.cp.ah.length c.tc x.tb/\Ag w x.tb []:=by
 unfold AC;rw[a]
def AC.neg{w c x up hv}(a:c.cp.neg=true):AC w c x up hv↔NN w x.nb (.bool true) (I6 (c.cp.at_:Int)) (Pn c.node) up hv c.ta c.cp.ah.length c.tc x.tb x.bb/\Ag w x.tb []/\Ag w x.bb []:=by
 unfold AC;rw[a]
def EP(w:World)(hl:Value):Value->List Cx->List CE->Prop
 |up,c::cs,x::xs=>AC w c x up (K_ hl cs xs)/\EP w hl (DX c x) cs xs
 |_,[],[]=>True
 |_,_,_=>False
def Gm:Value->List Cx->List CE->Value
 |_,c::cs,x::xs=>Gm (DX c x) cs xs
 |up,_,_=>up
def EP.len{w hl}:∀{up:Value}{cs:List Cx}{xs:List CE},EP w hl up cs xs->xs.length=cs.length
 |_,[],[],_=>rfl
 |_,_::_,_::_,h=>by rw[yH,yH,h.2.len]
 |_,[],_::_,h=>h.elim
 |_,_::_,[],h=>h.elim
def EP.same{w w' hl}:∀{up:Value}{cs:List Cx}{xs:List CE}{nb wb:Nat},EP w hl up cs xs->(∀x∈xs,w'.heap[x.nb]?=w.heap[x.nb]?)->(∀g∈Cu nb wb cs xs,w'.heap[g]?=w.heap[g]?)->EP w' hl up cs xs
 |_,[],[],_,_,_,_,_=>trivial
 |_,c::cs,x::xs,nb,wb,h,h1,h2=>⟨h.1.same (h1 x (by simp)) (λg a=>h2 g (by show g∈Ew c x++Cu nb wb cs xs;simp[a])),h.2.same (nb:=nb) (wb:=wb) (λy b=>h1 y (by simp[b])) (λg a=>h2 g (by show g∈Ew c x++Cu nb wb cs xs;simp[a]))⟩
 |_,[],_::_,_,_,h,_,_=>h.elim
 |_,_::_,[],_,_,h,_,_=>h.elim
def EP.last{w hl}:∀{up:Value}{cs:List Cx}{xs:List CE},EP w hl up cs xs->cs≠[]->∃Y c O x a,cs=Y++[c]/\xs=O++[x]/\O.length=Y.length/\Gm up cs xs=DX c x/\AC w c x a hl
 |up,[c],[x],h,_=>⟨[],c,[],x,up,rfl,rfl,rfl,rfl,h.1⟩
 |up,c::d::cs,x::y::xs,h,_=>by
  obtain⟨Y,g,O,x',a,b,e,f,i,j⟩:=h.2.last qe
  exact⟨c::Y,g,x::O,x',a,by rw[b];rfl,by rw[e];rfl,by simp[f],i,j⟩
 |_,[_],_::_::_,h,_=>h.2.elim
 |_,_::_::_,[_],h,_=>h.2.elim
 |_,_::_,[],h,_=>h.elim
 |_,[],_,_,hne=>(hne rfl).elim
def EP.bJ{w w' f a nb wb}:∀{up:Value}{cs:List Cx}{xs:List CE}{c:Cx}{x:CE},EP w f up (cs++[c]) (xs++[x])->xs.length=cs.length->(∀y∈xs,w'.heap[y.nb]?=w.heap[y.nb]?)->(∀g∈Cu nb wb (cs++[c]) (xs++[x]),w'.heap[g]?=w.heap[g]?)->(∀O,AC w c x O f->AC w' c x O a)->EP w' a up (cs++[c]) (xs++[x])
 |up,[],[],c,x,h,_,_,_,hl=>⟨hl up h.1,trivial⟩
 |up,d::cs,y::xs,c,x,h,hlen,hx,hm,hl=>by
  refine⟨?_,h.2.bJ (nb:=nb) (wb:=wb) (by simpa using hlen) (λz Y=>hx z (by simp[Y])) (λg b=>hm g (by show g∈Ew d y++Cu nb wb (cs++[c]) (xs++[x]);simp[b])) hl⟩
  have e:K_ a (cs++[c]) (xs++[x])=K_ f (cs++[c]) (xs++[x]):=by
   match cs,xs,hlen with
   |[],[],_=>rfl
   |_::_,_::_,_=>rfl
   |[],_::_,h=>simp at h
   |_::_,[],h=>simp at h
  show AC w' d y up (K_ a (cs++[c]) (xs++[x]));rw[e];exact h.1.same (hx y qe) (λg b=>hm g (by show g∈Ew d y++Cu nb wb (cs++[c]) (xs++[x]);simp[b]))
 |_,[],_::_,_,_,_,h,_,_,_=>by simp at h
 |_,_::_,[],_,_,_,h,_,_,_=>by simp at h
def EP.snoc{w hl c x}:∀{up:Value}{cs:List Cx}{xs:List CE},EP w (hvM c x) up cs xs->AC w c x (Gm up cs xs) hl->EP w hl up (cs++[c]) (xs++[x])
 |up,[],[],_,hn=>⟨hn,trivial⟩
 |up,d::cs,y::xs,h,hn=>by
  refine⟨?_,h.2.snoc hn⟩
  have e:K_ hl (cs++[c]) (xs++[x])=K_ (hvM c x) cs xs:=by
   match cs,xs,h.2.len with
   |[],[],_=>rfl
   |_::_,_::_,_=>rfl
   |[],_::_,h=>simp at h
   |_::_,[],h=>simp at h
  show AC w d y up (K_ hl (cs++[c]) (xs++[x]));rw[e];exact h.1
 |_,[],_::_,h,_=>h.elim
 |_,_::_,[],h,_=>h.elim
def ki{c x}:∀{up:Value}{cs:List Cx}{xs:List CE},xs.length=cs.length->Gm up (cs++[c]) (xs++[x])=DX c x
 |_,[],[],_=>rfl
 |_,d::cs,y::xs,h=>ki (up:=DX d y) (cs:=cs) (xs:=xs) (by simpa using h)
 |_,[],_::_,h=>by simp at h
 |_,_::_,[],h=>by simp at h
def zl:∀{up:Value}{xs:List CE},Gm up [] xs=up
 |_,[]=>rfl
 |_,_::_=>rfl
def ke:∀{up:Value}{cs:List Cx}{xs:List CE},(up=.nilIface∨∃t v,up=.iface t v)->(Gm up cs xs=.nilIface∨∃t v,Gm up cs xs=.iface t v)
 |_,[],[],h=>h
 |_,[],_::_,h=>h
 |_,_::_,[],h=>h
 |_,c::cs,x::xs,_=>ke (up:=DX c x) (cs:=cs) (xs:=xs) (.inr (by
  unfold DX GV
  split
  .exact⟨_,_,rfl⟩
  exact⟨_,_,rfl⟩))
structure FI(X:List Cx) (w:World) (rb cb nb wb k:Nat) (xs:List CE) (wr:World):Prop where
 le:k<=X.length
 bF:EP wr .nilFunc .nilIface (X.take k) xs
 box:wr.heap[rb]?=some (.cells #[Gm .nilIface (X.take k) xs,.pointer (some ⟨cb,0,none⟩)] 252 (0,0))
 cs:wr.heap[cb]?=some (.cells #[.map (some nb),.map (some wb)] 263 (0,0))/\Ag wr nb []/\Ag wr wb []
 maps:(Cu nb wb (X.take k) xs).Nodup
 ids:(xs.map (·.nb)).Nodup
 aE:w.heap.size<=rb/\w.heap.size<=cb/\(∀x∈xs,w.heap.size<=x.nb/\x.nb≠rb/\x.nb<wr.heap.size)/\∀g∈Cu nb wb (X.take k) xs,w.heap.size<=g/\g<wr.heap.size
 ar:Bw w wr
def FI.cz{X w d cb nb wb k xs wr O}(h:FI X w d cb nb wb k xs wr)(a:Bw wr O):FI X w d cb nb wb k xs O:=
 ⟨h.le,h.bF.same (nb:=nb) (wb:=wb) (λx b=>a.block _ (h.aE.2.2.1 x b).2.2) (λg c=>a.block _ (h.aE.2.2.2 g c).2),(a.block _ (As h.box)).j h.box,⟨(a.block _ (As h.cs.1)).j h.cs.1,h.cs.2.1.ay (a.block _ h.cs.2.1.lt),h.cs.2.2.ay (a.block _ h.cs.2.2.lt)⟩,h.maps,h.ids,⟨h.aE.1,h.aE.2.1,λx b=>⟨(h.aE.2.2.1 x b).1,(h.aE.2.2.1 x b).2.1,yh (h.aE.2.2.1 x b).2.2 a.size⟩,λg c=>⟨(h.aE.2.2.2 g c).1,yh (h.aE.2.2.2 g c).2 a.size⟩⟩,h.ar.aj a⟩
def EP.maps{w hl nb wb g}(b:Ag w nb [])(c:Ag w wb []):∀{up:Value}{cs:List Cx}{xs:List CE},EP w hl up cs xs->g∈Cu nb wb cs xs->Ag w g []
 |_,[],[],_,a=>by
  simp only[Cu,yO,YI,or_false]at a
  rcases a with rfl|rfl
  .exact b
  .exact c
 |_,d::cs,y::ys,hN,a=>by
  have a:g∈Ew d y++Cu nb wb cs ys:=a
  rcases yr.1 a with a|a
  .have b:=hN.1
   unfold Ew at a
   cases hd:d.cp.neg
   .rw[hd]at a
    simp at a
    rw[a]
    exact((AC.pos hd).1 b).2
   rw[hd]at a
   simp at a
   rcases a with a|a
   .rw[a]
    exact((AC.neg hd).1 b).2.1
   rw[a]
   exact((AC.neg hd).1 b).2.2
  .exact hN.2.maps b c a
 |_,[],_::_,h,_=>h.elim
 |_,_::_,[],h,_=>h.elim
def FI.aU{X w b cb nb wb k xs wr}(h:FI X w b cb nb wb k xs wr){g}(a:g∈Cu nb wb (X.take k) xs):∀c t d,wr.heap[g]?≠some (.cells c t d):=(h.bF.maps h.cs.2.1 h.cs.2.2 a).aV
def JS:List Cx->List CE->Value
 |c::_,x::_=>DX c x
 |_,_=>.nilIface
def mC{c x}:∀{cs:List Cx}{xs:List CE},xs.length=cs.length->JS (cs++[c]) (xs++[x])=(if cs=[] then DX c x else JS cs xs)
 |[],[],_=>rfl
 |_::_,_::_,_=>by simp[JS]
 |[],_::_,h=>by simp at h
 |_::_,[],h=>by simp at h
def MX{X:List Cx}{k c}(h:X[k]?=some c):X.take (k+1)=X.take k++[c]:=by
 rw[yY,h];rfl
def FI.step{X w q O m o cb nb wb k lb xs c x}(h:FI X w o cb nb wb k xs q)(r:X[k]?=some c)(R:Bw q O)(K:AC O c x (Gm .nilIface (X.take k) xs) .nilFunc)(W:q.heap.size<=x.nb)(t:∀g∈Ew c x,q.heap.size<=g/\g<O.heap.size)(N:(Ew c x).Nodup)(J:x.nb<O.heap.size)(s:∀g,g<O.heap.size->g≠o->g≠lb->m.heap[g]?=O.heap[g]?)(H:O.heap.size<=m.heap.size)(G:Bw w m)(D:m.heap[o]?=some (.cells #[DX c x,Pn cb] 252 (0,0)))(L:lb=o∨lb<q.heap.size)(I:EP m (hvM c x) .nilIface (X.take k) xs)(u:∀g,(g∈Ew c x∨g∈Cu nb wb (X.take k) xs∨g=cb)->g≠lb):FI X w o cb nb wb (k+1) (xs++[x]) m:=by
 have i:=h.cz R;have U:=(yf.1 r).1;have av:o<q.heap.size:=As h.box;have l:=h.bF.len;have T:x.nb≠lb:=by rcases L with h|h<;>omega
 have E:m.heap[cb]?=O.heap[cb]?:=s cb (As i.cs.1) (λe=>by
  have B:=i.box;rw[<-e,i.cs.1]at B;simp at B) (u cb (.inr (.inr rfl)))
 have M:∀g,g∈Cu nb wb (X.take k) xs->g≠o:=λg f e=>by
  exact i.aU f _ _ _ (by rw[e];exact i.box)
 have A:∀g,g∈Cu nb wb (X.take k) xs->m.heap[g]?=O.heap[g]?:=λg f=>s g (i.aE.2.2.2 g f).2 (M g f) (u g (.inr (.inl f)));have Y:nb∈Cu nb wb (X.take k) xs/\wb∈Cu nb wb (X.take k) xs:=by
  have:∀{cs:List Cx}{ys:List CE},nb∈Cu nb wb cs ys/\wb∈Cu nb wb cs ys:=by
   intro cs
   induction cs with
   |nil=>intro ys;simp[Cu]
   |cons d cs ih=>
    intro ys
    match ys with
    |[]=>simp[Cu]
    |y::ys=>exact⟨YA _ ih.1,YA _ ih.2⟩
  exact this
 refine⟨U,?_,?_,⟨E.j i.cs.1,i.cs.2.1.ay (A _ Y.1),i.cs.2.2.ay (A _ Y.2)⟩,?_,?_,⟨h.aE.1,h.aE.2.1,?_,?_⟩,G⟩
 .rw[MX r];refine I.snoc (K.same (s x.nb J qd T) (λg f=>s g (t g f).2 ?_ (u g (.inl f))));have:=(t g f).1;omega
 .rw[MX r,ki l];exact D
 .rw[MX r];refine(Va l).nodup_iff.2 (yP.2 ⟨N,h.maps,λa v b p e=>?_⟩);have h1:=(t a v).1;have Z:=(h.aE.2.2.2 b p).2;omega
 .rw[yJ,yP];refine⟨h.ids,qe,λa v b p e=>?_⟩;obtain⟨y,n,rfl⟩:=yz.1 v;have:=(h.aE.2.2.1 y n).2.2;simp at p;omega
 .intro y n;rcases yr.1 n with n|n
  .obtain⟨z,C,a3⟩:=i.aE.2.2.1 y n;exact⟨z,C,qd⟩
  rw[yv.1 n];have:=h.ar.size;exact⟨qd,qd,qd⟩
 intro g f;rw[MX r,(Va l).mem_iff]at f;rcases yr.1 f with f|f
 .have:=t g f;have:=h.ar.size;exact⟨qd,qd⟩
 obtain⟨z,C⟩:=i.aE.2.2.2 g f;exact⟨z,qd⟩
def Mx:(l:List Ap)->CT l
 |[]=>([],[])
 |(.inl _,_)::r=>([],Mx r)
 |(.inr _,_)::r=>([],[],Mx r)
def Uh{adr}:∀(l:List Ap),Lv adr [] l [] (Mx l)
 |[]=>⟨.refl _,ix⟩
 |(.inl _,_)::r=>⟨.refl _,Uh r⟩
 |(.inr _,_)::r=>⟨.refl _,λT a=>(by simp at a),Uh r⟩
def iM{adr U vw cb nb wb w}(g:CS w cb nb wb [] [])(O:Bl adr U w):∀{up:Value}{cs:List Cx}{xs:List CE},EP w (DM cb) up cs xs->(∀c∈cs,DQ w c.ta c.cp.ah/\At w c.node 4 (.slice (vw c.node).1 (vw c.node).2.2.length (vw c.node).2.1)/\Jf w (vw c.node).1 (vw c.node).2.2 adr)->Ey adr U cb nb wb (Au vw (DM cb) up cs xs) w (Mx _)
 |_,[],[],_,_=>g
 |_,c::cs,x::xs,h,hc=>by
  have ih:=iM g O (vw:=vw) h.2 (λd hd=>hc d I1)
  obtain⟨i,f,e⟩:=hc c qe
  rw[Au]
  cases a:c.cp.neg
  .rw[Ih a]
   obtain⟨b,Y⟩:=(AC.pos a).1 h.1
   exact⟨⟨b,f,e,i,O⟩,Y,ih⟩
  .rw[Ic a]
   obtain⟨b,Y,j⟩:=(AC.neg a).1 h.1
   exact⟨⟨b,f,e,i,O⟩,Y,j,ih⟩
 |_,[],_::_,h,_=>h.elim
 |_,_::_,[],h,_=>h.elim
end Go.Proofs.YtikojfajahnhgaaGreat
