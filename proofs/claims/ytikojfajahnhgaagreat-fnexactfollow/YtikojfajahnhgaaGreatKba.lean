import Derived.Test.YtikojfajahnhgaaGreatKaz
import Derived.Test.YtikojfajahnhgaaGreatKar
set_option linter.all false
set_option maxRecDepth 100000
namespace Go.Proofs.YtikojfajahnhgaaGreat
attribute [local simp] At I6 Pn mzI
attribute [local go_sem] At I6 Pn
open Go.RowKit Go.Proofs.Tryz
section
open Go.Maps
structure Cx where
 cp:Cp
 node:Nat
 ta:Option Addr
 tc:Nat
def IP(c:Cx):List Value:=[.bool c.cp.neg,.int .i64 (c.cp.at_:Int),.pointer (some ⟨c.node,0,none⟩),.slice c.ta c.cp.ah.length c.tc]
def gH(c):∀u∈IP c,u.oneCell'=true:=by
 intro u hu;simp[IP]at hu;rcases hu with rfl|rfl|rfl|rfl<;>rfl
def DS:List Pt->List Vr->Nat->List Vr
 |[],vs,_=>vs
 |p::ps,vs,n=>if p.neg=true then DS ps vs n else DS ps (CI vs p.aa n p.aa.length) (n+1)
def Mb{w w' base b e t m v n xs c f}(h:w.ownsRow base e m v n xs)(g:w.heap[b]?=some (.cells c t f))(i:Turned w w' b)(a:t≠e):w'.ownsRow base e m v n xs:=
 BZ h λk d=>i.block k (λe=>by
  obtain⟨j,O⟩:=A8 h d
  subst e
  exact CB g O a)
def Ei.aP{a mb row u v w}(h:Ei a mb row u v)(k:Below u.heap.size v w):Ei a mb row u w:=⟨h.rest.j (k.ac (yA _)),λj hj d b c=>(k.block j hj).j (h.block j hj d b c)⟩
def Ei.cP{a mb row O u v w}(h:Ei a mb row u v)(k:Ei a mb O v w)(f:∀g,O=some g->row=some g∨u.heap.size<=g):Ei a mb row u w:=⟨h.rest.j k.rest,λj hj d b c=>(k.block j (yh hj h.rest.size) d b (λe=>by rcases f j e with Y|Y;exact c Y;omega)).j (h.block j hj d b c)⟩
def NS.bM{j w w' base g mb i d L f D b c t l}(h:NS j w base g mb i d L f D)(m:w.heap[b]?=some (.cells c t l))(n:Turned w w' b)(a:¬O5 t):NS j w' base g mb i d L f D:=
 h.aD λk o O=>n.block k (λe=>by
  subst e
  exact a (O _ _ _ m))
def Dg.dJ{w b a v1}(h:Dg w b a v1)(x):Dg (w.setCell ⟨b,0,none⟩ x) b x v1:=by
 have:=Fq (i:=0) h x;simpa[Dg] using this
def ju{P:World->Prop}{w b a v1 y}(O:Dg w b a v1)(h:∀wt,Dg wt b y v1->Turned w wt b->P wt):P (w.setCell ⟨b,0,none⟩ y):=h _ (O.dJ y) (Turned.setCells [y] 0 w b)
structure PN(w:World) (B pb:Nat) (ca:Option Addr) (cc:Nat) (va:Option Addr) (vc:Nat) (X:List Cx) (U:List Vr) (A:List Al) (bs:List Nat):Prop where
 box:Dg w pb (.slice ca X.length cc) (.slice va U.length vc)
 conds:w.ownsRow B 197 4 (.slice ca X.length cc) X.length (X.flatMap IP)
 vars:w.ownsRow B 330 3 (.slice va U.length vc) U.length (U.flatMap Hz)
 ah:∀c∈X,w.ownsRow B 277 4 (.slice c.ta c.cp.ah.length c.tc) c.cp.ah.length (c.cp.ah.flatMap IR)
 nodes:∀c∈X,∃i:Nat,A[i]?=some c.cp.aq/\bs[i]?=some c.node
def PN.aD{w w' B pb ca cc b j X U A d}(h:PN w B pb ca cc b j X U A d)(i:∀(k:Nat)(c:Array Value)(t:TypeId)(g:Nat × Nat),w.heap[k]?=some (.cells c t g)->(t=102∨t=197∨t=330∨t=277)->w'.heap[k]?=some (.cells c t g)):PN w' B pb ca cc b j X U A d:=by
 have O:∀{e:TypeId}{m:Nat}{v:Value}{n:Nat}{xs:List Value},w.ownsRow B e m v n xs->(e=102∨e=197∨e=330∨e=277)->w'.ownsRow B e m v n xs:=λf l=>BZ f λk o=>by
  obtain⟨c,a⟩:=A8 f o;rw[i k _ _ _ a l,a]
 exact⟨i _ _ _ _ h.box (.inl rfl),O h.conds (.inr (.inl rfl)),O h.vars (.inr (.inr (.inl rfl))),λc a=>O (h.ah c a) (.inr (.inr (.inr rfl))),h.nodes⟩
def PN.ar{w w' B pb ca cc a b X U A c}(h:PN w B pb ca cc a b X U A c)(e:Bw w w'):PN w' B pb ca cc a b X U A c:=
 h.aD λk _ _ _ d _=>(e.block k (As d)).j d
structure PD(w:World) (B:Nat) (ca:Option Addr) (cc:Nat) (va:Option Addr) (vc:Nat) (X:List Cx) (U:List Vr) (A:List Al) (bs:List Nat):Prop where
 conds:w.ownsRow B 197 4 (.slice ca X.length cc) X.length (X.flatMap IP)
 vars:w.ownsRow B 330 3 (.slice va U.length vc) U.length (U.flatMap Hz)
 ah:∀c∈X,w.ownsRow B 277 4 (.slice c.ta c.cp.ah.length c.tc) c.cp.ah.length (c.cp.ah.flatMap IR)
 nodes:∀c∈X,∃i:Nat,A[i]?=some c.cp.aq/\bs[i]?=some c.node
def PD.aD{w w' B ca cc b i X U A d}(h:PD w B ca cc b i X U A d)(o:∀(k:Nat)(c:Array Value)(t:TypeId)(g:Nat × Nat),w.heap[k]?=some (.cells c t g)->(t=197∨t=330∨t=277)->w'.heap[k]?=some (.cells c t g)):PD w' B ca cc b i X U A d:=by
 have O:∀{e:TypeId}{m:Nat}{v:Value}{n:Nat}{xs:List Value},w.ownsRow B e m v n xs->(e=197∨e=330∨e=277)->w'.ownsRow B e m v n xs:=λf j=>BZ f λk l=>by
  obtain⟨c,a⟩:=A8 f l;rw[o k _ _ _ a j,a]
 exact⟨O h.conds (.inl rfl),O h.vars (.inr (.inl rfl)),λc a=>O (h.ah c a) (.inr (.inr rfl)),h.nodes⟩
def PD.ar{w w' B ca cc a b X U A c}(h:PD w B ca cc a b X U A c)(e:Bw w w'):PD w' B ca cc a b X U A c:=
 h.aD λk _ _ _ d _=>(e.block k (As d)).j d
def PN.pd{w B pb ca cc a c X U A b}(h:PN w B pb ca cc a c X U A b):PD w B ca cc a c X U A b:=⟨h.conds,h.vars,h.ah,h.nodes⟩
structure PS(kl:Al->Lit) (w:World) (R0:Option Nat) (bs0:List Nat) (A0:List Al) (base gb mb pb:Nat) (la:Option Addr) (lc:Nat) (L:List FP) (bs:List Nat) (D:DataW Unit) (ca:Option Addr) (cc:Nat) (va:Option Addr) (vc:Nat) (X:List Cx) (U:List Vr) (wr:World):Prop where
 ns:NS kl wr base gb mb la lc L bs D
 pn:PN wr w.heap.size pb ca cc va vc X U (L.map Prod.fst) bs
 fr:Ei gb mb R0 w wr
 cE:∀g,(Value.slice la L.length lc).ownBlock=some g->R0=some g∨w.heap.size<=g
 ext:∀(i n:Nat),bs0[i]?=some n->bs[i]?=some n
 cQ:∀(i:Nat)(y:Al),A0[i]?=some y->(L.map Prod.fst)[i]?=some y
 cf:∀x∈L,x.1.ah.length<=6
def PS.ar{j w wr w' k a c base g mb pb i d L f D ca cc e l X U}(h:PS j w k a c base g mb pb i d L f D ca cc e l X U wr)(b:Bw wr w'):PS j w k a c base g mb pb i d L f D ca cc e l X U w':=
 ⟨h.ns.ar b,h.pn.ar b,h.fr.aP (b.ac h.fr.rest.size),h.cE,h.ext,h.cQ,h.cf⟩
def iZ{A x y}{i:Nat}(h:A[i]?=some y):(Ff A x)[i]?=some y:=by
 unfold Ff;split
 .exact h
 rw[yB (yf.1 h).1];exact h
def PS.of{B w wr w' I j G base o mb pb r b v f L p A d D E ca cc q C X U x}(h:PS B w I j G base o mb pb r v L A D ca cc q C X U wr)(T:NS B w' base o mb b f p d E)(Y:x.ah.length<=6)(u:p.map Prod.fst=Ff (L.map Prod.fst) x)(J:Ei o mb (Value.slice r L.length v).ownBlock wr w')(H:∀(i n:Nat),A[i]?=some n->d[i]?=some n)(R:∀g,(Value.slice b p.length f).ownBlock=some g->(Value.slice r L.length v).ownBlock=some g∨wr.heap.size<=g):PS B w I j G base o mb pb b f p d E ca cc q C X U w':=by
 have m:PN w' w.heap.size pb ca cc q C X U (L.map Prod.fst) A:=h.pn.aD λk c t fr Z ht=>J.box Z h.ns qr qr;refine⟨T,⟨m.box,m.conds,m.vars,m.ah,λc W=>?_⟩,h.fr.cP J h.cE,λg K=>?_,λi n s=>H i n (h.ext i n s),λi y s=>by rw[u];exact iZ (h.cQ i y s),λy N=>?_⟩
 .obtain⟨i,l,M⟩:=m.nodes c W;exact⟨i,by rw[u];exact iZ l,H i _ M⟩
 .rcases R g K with l|l
  .exact h.cE g l
  exact .inr (yi h.fr.rest.size l)
 have a:y.1∈Ff (L.map Prod.fst) x:=by rw[<-u];exact yz.2 ⟨y,N,rfl⟩
 unfold Ff at a;split at a
 .obtain⟨z,O,e⟩:=yz.1 a;rw[<-e];exact h.cf z O
 rcases yr.1 a with a|a
 .obtain⟨z,O,e⟩:=yz.1 a;rw[<-e];exact h.cf z O
 rw[yv.1 a];exact Y
def PS.push{C w wr m q z g v base x mb pb y B L t D ca r cc Y l n X U c o}(h:PS C w z g v base x mb pb y B L t D ca cc l n X U wr)(N:wr.ownsRow w.heap.size 277 4 (.slice c.ta c.cp.ah.length c.tc) c.cp.ah.length (c.cp.ah.flatMap IR))(G:∃i:Nat,(L.map Prod.fst)[i]?=some c.cp.aq/\t[i]?=some c.node)(p:w.heap.size<=pb)(s:m.ownsRow w.heap.size 197 4 (.slice r (X.length+1) Y) (X.length+1) (X.flatMap IP++IP c))(b:(wr.alloc o).grownBy m (Value.slice ca X.length cc).ownBlock)(E:Dg q pb (.slice r (X.length+1) Y) (.slice l U.length n))(a:Turned m q pb) :
  PS C w z g v base x mb pb y B L t D r Y l n (X++[c]) U q:=by
 have A:Bw wr (wr.alloc o):=Af;have I:=h.fr.rest.size;have e:=h.ar A;have H:=Bg N A;have f:=λk u=>A8 e.pn.conds (k:=k) u;have O:Dg m pb (.slice ca X.length cc) (.slice l U.length n):=Gq e.pn.box b f qh;have M:=e.ns.grown b f Nv;have v7:=MJ e.pn.vars b f qh;have K:=MJ H b f qh;refine⟨M.bM O a Nv,⟨by simpa using E,?_,Mb v7 O a qh,λd hd=>?_,λd hd=>?_⟩,?_,h.cE,h.ext,h.cQ,h.cf⟩
 .have:=Mb s O a qh;simpa using this
 .rcases yr.1 hd with hd|hd
  .exact Mb (MJ (e.pn.ah d hd) b f qh) O a qh
  simp at hd;subst hd;exact Mb K O a qh
 .rcases yr.1 hd with hd|hd
  .exact h.pn.nodes d hd
  simp at hd;subst hd;exact G
 refine e.fr.aP ((Aj.grown b qg (λk u=>(e.pn.conds.lt k u).1)).j (a.J p))
def PS.fill{s w wr w' t f m base q mb pb r n L p D ca cc o u X U b c x}(h:PS s w t f m base q mb pb r n L p D ca cc o u X U wr)(i:wr.heap[b]?=some (.cells c 197 x))(a:Turned wr w' b)(l:∀g,(Value.slice ca X.length cc).ownBlock=some g->g≠b)(O:w.heap.size<=b):PS s w t f m base q mb pb r n L p D ca cc o u X U w':=
 ⟨h.ns.bM i a Nv,⟨(a.block pb (λe=>by subst e;exact CB h.pn.box i qh)).j h.pn.box,BZ h.pn.conds (λk v=>a.block k (l k v)),Mb h.pn.vars i a qh,λd hd=>Mb (h.pn.ah d hd) i a qh,h.pn.nodes⟩,h.fr.aP (a.J O),h.cE,h.ext,h.cQ,h.cf⟩
def OM{w w'}{b d:Nat}{c i t Y f O}(h:w.heap[b]?=some (.cells c t f))(hd:w.heap[d]?=some (.cells i Y O))(g:Turned w w' d)(a:t≠Y):w'.heap[b]?=some (.cells c t f):=
 (g.block b (λe=>by subst e;exact CB h hd a)).j h
def PS.dp{G w wr w' A f r base u mb pb x B L C D ca cc s p H Y X U b}(h:PS G w A f r base u mb pb x B L C D ca cc s H X U wr)(I:w.heap.size<=pb)(J:Dg w' pb (.slice ca X.length cc) (.slice p b.length Y))(K:w'.ownsRow w.heap.size 330 3 (.slice p b.length Y) b.length (b.flatMap Hz))(hF:Fp pb (Value.slice s U.length H).ownBlock wr w'):PS G w A f r base u mb pb x B L C D ca cc p Y X b w':=by
 have i:=h.fr.rest.size;have far:∀(k:Nat)(c:Array Value)(t:TypeId)(o:Nat × Nat),wr.heap[k]?=some (.cells c t o)->t≠102->t≠330->w'.heap[k]?=some (.cells c t o):=λk c t o a q l=>by
  refine(hF.block k (As a) (λe=>?_) (λe=>?_)).j a
  .subst e;exact CB a h.pn.box q
  obtain⟨M,g⟩:=A8 h.pn.vars e;exact CB a g l
 have O:∀{e:TypeId}{m:Nat}{v:Value}{n:Nat}{xs:List Value},wr.ownsRow w.heap.size e m v n xs->e≠102->e≠330->w'.ownsRow w.heap.size e m v n xs:=λz q l=>BZ z λk a=>by
  obtain⟨c,E⟩:=A8 z a;rw[far k _ _ _ E q l,E]
 refine⟨h.ns.aD λk a y=>hF.block k a (λe=>?_) (λe=>?_),⟨J,O h.pn.conds qh qh,K,λd hd=>O (h.pn.ah d hd) qh qh,h.pn.nodes⟩,?_,h.cE,h.ext,h.cQ,h.cf⟩
 .subst e;exact absurd (y _ _ _ h.pn.box) Nv
 .obtain⟨M,g⟩:=A8 h.pn.vars e;exact absurd (y _ _ _ g) Nv
 exact h.fr.aP ⟨hF.rest.os,hF.rest.tape,hF.rest.output,hF.rest.size,λk a=>hF.block k (yh a i) qd (λe=>by have:=(h.pn.vars.lt k e).1;omega)⟩
def gW:(prog.info? 197).map (λi=>(i.zero,i.size,i.bytes))=some (some (.agg #[.bool false,I6 0,.pointer none,.slice none 0 0]),4,48):=qf
def gd(A x):(Ff A x)[DI x A]?=some x:=by
 by_cases h:DI x A<A.length
 .rw[ig h];exact ia h
 rw[iG h,j9 h];simp
def Qm(p a vs n):Bz (p::a) vs n=⟨p.neg,n,C0 p,Ct vs p.aa p.aa.length⟩::(if p.neg=true then Bz a vs n else Bz a (CI vs p.aa n p.aa.length) (n+1)):=rfl
def S8(p a vs n):DS (p::a) vs n=if p.neg=true then DS a vs n else DS a (CI vs p.aa n p.aa.length) (n+1):=rfl
def R_{P:World->Prop}{w b t x0 x1 f Y a d e c}(O:w.heap[b]?=some (.cells #[x0,x1,f,Y] t (0,0)))(h:∀wt,wt.heap[b]?=some (.cells #[a,d,e,c] t (0,0))->Turned w wt b->P wt):P ((((w.setCell ⟨b,0,none⟩ a).setCell ⟨b,1,none⟩ d).setCell ⟨b,2,none⟩ e).setCell ⟨b,3,none⟩ c):=by
 have k:=Fq (i:=0) O a;have j:=Fq (i:=1) k d;have g:=Fq (i:=2) j e;have l:=Fq (i:=3) g c;exact h _ (by simpa using l) (Turned.setCells [a,d,e,c] 0 w b)
end
section
open Go.Maps
attribute [local go_sem ↓] wp_at_zero wp_at_succ
def rR(kl:Al->Lit)(base gb mb:Nat)(la:Option Addr)(lc:Nat)(L:List FP)(bs:List Nat)(r:Ru)(w:World)(e:Ending)(w':World):Prop:=
 ∃la' lc' L' bs' D' ca cc va vc X,e=.returned (.agg #[.slice ca X.length cc,.slice va (DS r.af [] 0).length vc])/\X.map Cx.cp=Bz r.af [] 0/\NS kl w' base gb mb la' lc' L' bs' D'/\PD w' w.heap.size ca cc va vc X (DS r.af [] 0) (L'.map Prod.fst) bs'/\Ei gb mb (Value.slice la L.length lc).ownBlock w w'/\(∀g,(Value.slice la' L'.length lc').ownBlock=some g->(Value.slice la L.length lc).ownBlock=some g∨w.heap.size<=g)/\(∀(i n:Nat),bs[i]?=some n->bs'[i]?=some n)/\(∀(i:Nat)(y:Al),(L.map Prod.fst)[i]?=some y->(L'.map Prod.fst)[i]?=some y)/\L'.length<=L.length+r.af.length/\(∀x∈L',x.1.ah.length<=6)
def oE{P:Prop}(h:P:=by have h1:=congrArg List.length aD;have h2:=zoo (L.map Prod.fst) (C0 p);simp at h1 h2;omega):P:=h
def oW{P:Prop}(h:P:=by
 obtain⟨aK,aO,aL⟩:=AQ (show Bz r.af [] 0=(X++[cx]).map Cx.cp++Bz (r.af.drop (k+1)) (CI U p.aa n p.aa.length) (n+1) by rw[HG.o,ar.o,Qm,if_neg (by rw[hneg];simp),HCX.o];simp) (show DS r.af [] 0=DS (r.af.drop (k+1)) (CI U p.aa n p.aa.length) (n+1) by rw[aC.o,ar.o,S8,if_neg (by rw[hneg];simp)]) (zew pb n p a0 a5 va vc U (.slice a9 (X++[cx]).length c9) w.heap.size wA bo (aW.o _ O.o.fr) bJ.o O.o.pn.box O.o.pn.vars (by omega) (by omega) O.o.fr.rest.size (by omega) (by omega));rw[hneg]at aL e0;clear hneg HG aC ar;go_wp2_with fail;refine aL.o.ac ?_;rintro e bQ ⟨rfl,⟨bV,b4,aI,aF,_⟩,aw,bn⟩;obtain⟨br,bf⟩:=Ak (O.o.dp aT aI aF aw) (show Dg bQ rb (.slice none 0 0) (.slice none 0 0) from(aw.block rb (As ah.o) (by omega) (λe=>by obtain⟨c',b0⟩:=A8 O.o.pn.vars e;exact CB b0 ah.o (by decide))).j ah.o);have b9:=Xu U p.aa n p.aa.length;clear aI aF aw bn aL O ah aJ e0 e1 e2;go_wp2_with fail;have ai:=br.o;rw[aV.o,a8.o,a4.o]at ai;have ax:=Aa ai;clear ai;go_roundw
 case rel=>exact⟨k+1,n+1,bj,bk,L3,aM,D3,a9,c9,bV,b4,_,_,by go_num,by go_num,by omega,aK.o,aO.o,by omega,by simp;omega,by omega,by omega,ax.o,bf.o⟩
 case measure=>(simp[intOf];omega)
 ):P:=h
set_option maxHeartbeats 12800000 in
def znl(kl)(K:Mr kl)(r bY cD cP cK cI cL){q}(base gb mb C B L A D wA w)(hA:Bw wA w)(bS:wA.heap.size<=base)(hbase:base<=w.heap.size)(cu:CH q wA bY r.af)(hN:NS kl w base gb mb C B L A D)(di:r.af.length<=6)(ch:∀p∈r.af,p.aa.length<=6)(cf:∀p∈r.af,Pt.le 1048576 p)(co:∀p∈r.af,∀t∈p.aa,C8 t.val)(hL:L.length<=900)(h6:∀x∈L,x.1.ah.length<=6) :
  Ca 90 #[.agg #[.string r.name,.int .i64 r.aH,.slice bY r.af.length cD,.slice cP r.exprs.length cK,.slice cI r.ao.length cL],.pointer (some ⟨gb,0,none⟩)] w (rR kl base gb mb C B L A r w):=by
 obtain⟨aW,HP,HN,cQ,cO,cN,H6⟩:=H5 (show∀wr,Ei gb mb (Value.slice C L.length B).ownBlock w wr->Bw wA wr fromλwr hf=>hA.j (hf.J qd (yi bS hN.bE.1) (yi bS hN.bE.2) (λk hk=>yi bS (hN.row.lt k hk).1))) cu hN ch cf co h6;clear cu hN ch cf co hA h6;go_enter func90,ntmps90;go_upto_region 2 with fail;refine F7 ?_;intro w0 bN cd bO bR;have f2:w0.cell? ⟨w.heap.size,2,none⟩=some (.slice bY r.af.length cD):=by simp[World.cell?,cd]
 obtain⟨rb,cE⟩:∃b,b=w.heap.size+1:=⟨_,rfl⟩
 obtain⟨pb,ae⟩:∃b,b=rb+1:=⟨_,rfl⟩
 rw[<-cE]at bO⊢;rw[show w.heap.size+2=pb by omega]at bR;rw[<-ae];obtain⟨ci,cw⟩:=Ak (show Dg w0 rb (.slice none 0 0) (.slice none 0 0) from bO) (show PS kl w (Value.slice C L.length B).ownBlock A (L.map Prod.fst) base gb mb pb C B L A D none 0 none 0 [] [] w0 from⟨HN.o.ar bN,⟨bR,y9 _ _ _ _,y9 _ _ _ _,λc hc=>by simp at hc,λc hc=>by simp at hc⟩,Ei.ab bN,λg M=>.inl M,λ_ _ h=>h,λ_ _ h=>h,H6.o⟩);have aT:w.heap.size<=pb:=qd;have cX:rb<pb:=qd;have b7:w.heap.size<=rb:=qd;clear bN cd bO bR cE ae;go_wp2_with fail;clear f2
 go_loopw [13,6] (λiv cv wr=>∃(k n:Nat)(al:Option Addr)(ap:Nat)(L':List FP)(an:List Nat)(D':DataW Unit)(ca:Option Addr)(cc:Nat)(va:Option Addr)(vc:Nat)(X:List Cx)(U:List Vr),iv=.int .i64 (k:Int)/\cv=.int .i64 (n:Int)/\k<=r.af.length/\Bz r.af [] 0=X.map Cx.cp++Bz (r.af.drop k) U n/\DS r.af [] 0=DS (r.af.drop k) U n/\L'.length<=L.length+k/\X.length<=k/\U.length<=6*k/\n<=k/\PS kl w (Value.slice C L.length B).ownBlock A (L.map Prod.fst) base gb mb pb al ap L' an D' ca cc va vc X U wr/\Dg wr rb (.slice none 0 0) (.slice none 0 0)) (λiv _ _=>r.af.length-(intOf iv).toNat)
 case atStart=>exact⟨0,0,C,B,L,A,D,none,0,none,0,[],[],rfl,rfl,yA _,rfl,rfl,yX _,yX _,yX _,yX _,cw.o,ci.o⟩
 case round=>
  obtain⟨L0,bl⟩:∃v,v=L:=⟨L,rfl⟩
  obtain⟨ag,bq⟩:∃v,v=A:=⟨A,rfl⟩
  obtain⟨R0,bT⟩:∃v,v=(Value.slice C L.length B).ownBlock:=⟨_,rfl⟩
  rw[<-bT]at hrel aW;rw[<-bq]at hrel;rw[<-bl]at hrel;have cV:L0.length<=900:=by rw[bl];exact hL
  have dc:L0.length<=L.length:=by rw[bl];exact yX _
  obtain⟨aV,a4,a8⟩:=AQ bT bl bq;obtain⟨k,n,C,B,L,A,D,ca,cc,va,vc,X,U,rfl,rfl,de,hG,cn,cF,dd,df,cU,bF,cy⟩:=hrel;obtain⟨HG,aC,N,bi⟩:=BE hG cn bF cy;have dj:=bF.fr.rest.size;have da:pb<wr.heap.size:=As bF.pn.box;clear hG cn bF cy cw ci;clear bT bl bq;by_cases hk:k<r.af.length
  .obtain⟨p,hp⟩:=AJ hk;obtain⟨cY,mo,a0,a5,rfl,_,y0,y1,y2,cA,cB⟩:=HP.o.dj hp;have AR:=aW.o _ N.o.fr;have x0:=zab AR y0;have x1:=zab AR y1;have x2:=zab AR y2;have bJ:=Aa cA;have bD:=yd hp;have ar:=Aa (Ck hp);have cW:=cQ.o p bD;obtain⟨aZ,cm⟩:=Ak (cO.o p bD) (cN.o p bD);have v0:(0:Int)<=(k:Int):=qd;have v1:(k:Int)<(r.af.length:Int):=qd;obtain⟨bL,bB⟩:=Ak (λw'(h:PS kl w R0 ag (L0.map Prod.fst) base gb mb pb C B L A D ca cc va vc X U w')=>tB kl K p a0 a5 base gb mb C B L A D w' h.ns (bJ.o.J (aW.o _ h.fr)) (yi aZ.o.1 qh) ⟨yi aZ.o.2.1 qh,λt W=>⟨yi (aZ.o.2.2 t W).1 qh,yi (aZ.o.2.2 t W).2 qh⟩⟩ aZ.o.2.1 cB cm.o qd (yi hbase h.fr.rest.size)) (λw' C B L A D(h:PS kl w R0 ag (L0.map Prod.fst) base gb mb pb C B L A D ca cc va vc X U w')=>zkA pb p a0 a5 va vc U w' h.pn.box.facts.1.2 (Ji.owns h.pn.vars) (bJ.o.J (aW.o _ h.fr)) cB qd qd);clear y0 y1 y2 cA hp AR bD aZ cm;go_upto_region 6 with fail;refine Bt ?_;intro f bH bK;obtain⟨tb,ad⟩:∃b,b=wr.heap.size:=⟨_,rfl⟩
   rw[<-ad]at bK⊢;obtain⟨d0,d1,d2⟩:=Ao bK;obtain⟨aS,bE,ce⟩:=AQ ((N.o.ar bH).ar Aj.drew) (show f.drew.heap[tb]?=some (.cells #[.bool p.neg,.string p.ak,.slice a0 p.aa.length a5] 152 (0,0)) from bK) (show Dg f.drew rb (.slice none 0 0) (.slice none 0 0) from(show Dg f rb (.slice none 0 0) (.slice none 0 0) from bi.o.ar bH));have c8:=bH.size;have cS:pb<tb:=qd;have bM:=Aa (λg(M:(Value.slice ca X.length cc).ownBlock=some g)=>(aS.o.pn.conds.lt g M).2);replace bM:=Aa (show∀g,(Value.slice ca X.length cc).ownBlock=some g->g<f.heap.size from bM.o);clear bH bK ad x0 x1 x2 N bi;go_wp2_with fail;refine wp_region_noPanic ?_;refine wp_region_held_drew (S:=(λw'=>w'.cell? ⟨tb,0,none⟩=some (.bool p.neg)/\w'.cell? ⟨tb,1,none⟩=some (.string p.ak)/\w'.cell? ⟨tb,2,none⟩=some (.slice a0 p.aa.length a5))) qf ?_ (λhHeld=>?_)
   ·(try dsimp only);exact⟨d0,d1,d2⟩
   refine sr 0 5 ?_;refine sr 6 7 ?_;refine r2 5 9 (λK d=>?_) λK d=>?_
   .go_simp;(go_at_call 149;refine(bL.o _ aS.o).ac ?_;rintro e' s ⟨bj,bk,L3,aM,D3,nk,rfl,a7,aD,bd,E,bz,bw⟩);(try go_wp2_with fail);refine d.o _ _ (by(try dsimp only);exact Ao (E.box bE.o aS.o.ns qh qh)) λhHeld=>?_;clear d K;(try simp only[pA,pZ,pS,pN]);obtain⟨aB,H,aR,bZ⟩:=BE (aS.o.of a7 (SJ p) aD E bz bw) (E.box bE.o aS.o.ns qh qh) (show Dg s rb (.slice none 0 0) (.slice none 0 0) from E.box ce.o aS.o.ns qh qh) (show∃i:Nat,(L3.map Prod.fst)[i]?=some (C0 p)/\aM[i]?=some nk from⟨_,by rw[aD];exact gd _ _,bd⟩);have cC:L3.length<=L.length+1:=by
     exact oE
    have cM:f.heap.size<=s.heap.size:=E.rest.size;clear a7 aD bd E bz bw;obtain⟨x0,x1,x2⟩:=Ao H.o;refine r2 7 9 (λK d=>?_) λK d=>?_
    focus
     go_simp;(go_at_call 150;refine(bB.o _ _ _ _ _ _ aB.o).ac ?_;rintro cz w7 ⟨⟨ta,tc,rfl,aH⟩,Y⟩);(try go_wp2_with fail);refine d.o _ _ oy λhHeld=>?_;clear d K;(try simp only[pA,pZ,pS,pN]);obtain⟨bt,I,bA,bu⟩:=BE (aB.o.ar Y) ((Y.block _ (As H.o)).j H.o) (aR.o.ar Y) (DT aH (show w.heap.size<=s.heap.size by omega));have bX:=Y.size;clear aH Y x0 x1 x2 aB H aR;refine sr 8 9 ?_;have aP:=Aa (λo'=>Aj.alloc AA o':∀o',Bw w7 (w7.alloc o'));obtain⟨m0,m1,m2⟩:=Ao I.o;refine wpAnyH_ready (rs:=[9]) qf qe ?_;refine Yi (yj.j rfl) (λK d=>?_) Ys;go_simp;refine d.o _ _ qS λhHeld=>?_;clear d K;(try simp only[pA,pZ,pS,pN]);refine wpAnyH_ready (rs:=[10]) qf qe ?_;refine Yi (yj.j rfl) (λK d=>?_) Ys;go_simp;refine d.o _ _ qS λhHeld=>?_;clear d K;(try simp only[pA,pZ,pS,pN]);refine wpAnyH_done qf ?_ _;refine Yf ?_;go_upto_region 7 with fail;refine Bt ?_;intro u a6 aG;obtain⟨c0,c1,c2,c3⟩:=AO aG;obtain⟨y,Z,aX,aY⟩:=BE (bt.o.ar a6) ((a6.block _ (As I.o)).j I.o) (bA.o.ar a6) (Bg bu.o a6);have cg:=a6.size;clear a6 aG m0 m1 m2 aP
    rotate_left
    focus
     have T:=Aa (λo'=>Aj.alloc AA o':∀o',Bw s (s.alloc o'));go_simp;refine d.o _ _ (by(try dsimp only);exact⟨zab (T.o _) x0,zab (T.o _) x1,zab (T.o _) x2⟩) λhHeld=>?_;clear d K;(try simp only[pA,pZ,pS,pN]);refine wpAnyH_ready (rs:=[7]) qf qe ?_;refine Yi (yj.j rfl) (λK d=>?_) Ys;go_simp;(go_at_call 150;refine(bB.o _ _ _ _ _ _ (aB.o.ar (T.o _))).ac ?_;rintro cz w7 ⟨⟨ta,tc,rfl,aH⟩,Y⟩);(try go_wp2_with fail);refine d.o _ _ (by(try dsimp only);exact⟨zab Y (zab (T.o _) x0),zab Y (zab (T.o _) x1),zab Y (zab (T.o _) x2)⟩) λhHeld=>?_;clear d K;(try simp only[pA,pZ,pS,pN]);have aU:=(T.o _).j (Y.ac (T.o _).size);obtain⟨bt,I,bA⟩:=AQ (aB.o.ar aU) ((aU.block _ (As H.o)).j H.o) (aR.o.ar aU);have bX:=Y.size;simp at bX;obtain⟨bu,af⟩:=Ak (DT aH (show w.heap.size<=_ by simp;omega)) (show w7.heap[s.heap.size]?=some (.cells #[.bool false,.int .i64 0,.pointer none,.slice none 0 0] 197 (0,0)) from(Y.block s.heap.size qe).j (heap_alloc_new _ _));clear aH Y aU x0 x1 x2 aB H aR T;refine sr 8 9 ?_;obtain⟨m0,m1,m2⟩:=Ao I.o;obtain⟨o0,o1,o2,o3⟩:=AO af.o;have s0:w7.frozen? ⟨s.heap.size,0,none⟩=false:=qx;have s1:w7.frozen? ⟨s.heap.size,1,none⟩=false:=qx;have s2:w7.frozen? ⟨s.heap.size,2,none⟩=false:=qx;have s3:w7.frozen? ⟨s.heap.size,3,none⟩=false:=qx;have bv:=Aa (λwt(W:Turned w7 wt s.heap.size)=>Ao (OM I.o af.o W qh));refine wpAnyH_ready (rs:=[10]) qf qe ?_;refine Yi (yj.j rfl) (λK d=>?_) Ys;go_simp;refine d.o _ _ pD λhHeld=>?_;clear d K;(try simp only[pA,pZ,pS,pN]);refine wpAnyH_done qf ?_ _;refine Yf ?_;go_upto_region 7 with fail;refine R_ af.o ?_;intro u aG G;obtain⟨c0,c1,c2,c3⟩:=AO aG;obtain⟨y,Z,aX,aY⟩:=BE (bt.o.fill af.o G (λg M=>by have:=bM.o g M;omega) qd) (OM I.o af.o G qh) (show Dg u rb (.slice none 0 0) (.slice none 0 0) from OM bA.o af.o G qh) (Mb bu.o af.o G qh);have cg:w7.heap.size<=u.heap.size:=W0 G.size.ai;clear G aG m0 m1 m2 o0 o1 o2 o3 s0 s1 s2 s3 bv af
    rotate_left
    all_goals
     have b6:tb<u.heap.size:=As Z.o;clear d0 d1 d2 bL bB hHeld;obtain⟨⟨q0,q1⟩,_,cJ⟩:=y.o.pn.box.facts;have m:=Aa (λo=>Aj.alloc AA o:∀o,Bw u (u.alloc o));have bU:∀o,(u.alloc o).cell? ⟨pb,0,none⟩=some (.slice ca X.length cc):=λo=>zab (m.o o) q0;obtain⟨TY,bm,bc,bh⟩:=BE (λo g M=>A8 (Bg y.o.pn.conds (m.o o)) (k:=g) M) (λo=>y.o.pn.box.ar (m.o o)) (λo=>aX.o.ar (m.o o)) (λo=>((m.o o).block _ (As Z.o)).j Z.o);have bp:w.heap.size<=u.heap.size:=qd;go_upto_region 8 with(first|(at_builtin;refine EU qi (.tmp 27) (.tmp 29) 99 qi w.heap.size 197 _ 4 48 underlying99 gW qi qd _ X.length _ qi (Bg y.o.pn.conds (m.o _)) (some ⟨_,0,none⟩) 1 1 qi (IP ⟨⟨p.neg,n,C0 p,Ct U p.aa p.aa.length⟩,nk,ta,tc⟩) qi (λe=>qp) (Et _ _ _ _ qH) (gH _) qm qd (yi bp (m.o _).size) ?_;intro a9 c9 w9 bg R bW;have P9:=Aa (show Dg w9 pb (.slice ca X.length cc) (.slice va U.length vc) from Gq (bm.o _) R.o (TY.o _) qh);have R9:=Aa (show Dg w9 rb (.slice none 0 0) (.slice none 0 0) from Gq (bc.o _) R.o (TY.o _) qh);have B9:=Aa (Gq (bh.o _) R.o (TY.o _) qh);obtain⟨⟨l0,l1⟩,z,_⟩:=P9.o.facts;have b5:=z 0;clear z)|fail);refine ju P9.o ?_;intro bo aE ak;obtain⟨cx,aN⟩:∃c:Cx,c=⟨⟨p.neg,n,C0 p,Ct U p.aa p.aa.length⟩,nk,ta,tc⟩:=⟨_,rfl⟩
     have O:=Aa (y.o.push (c:=⟨⟨p.neg,n,C0 p,Ct U p.aa p.aa.length⟩,nk,ta,tc⟩) aY.o bZ.o aT bg.o R.o aE ak);rw[<-aN]at O;have HCX:=Aa aN;clear aN;obtain⟨ah,aJ⟩:=Ak (show Dg bo rb (.slice none 0 0) (.slice none 0 0) from(ak.block rb qd).j R9.o) ((ak.block tb qd).j B9.o);obtain⟨e0,e1,e2⟩:=Ao aJ.o;clear aE ak c0 c1 c2 c3 q0 q1 bU l0 l1 b5 m TY bm bc bh P9 R9 B9 y Z aX aY bg R bW;rcases(show p.neg=false∨p.neg=true by cases p.neg<;>simp) with hneg|hneg
     .exact oW
     obtain⟨aK,aO⟩:=Ak (show Bz r.af [] 0=(X++[cx]).map Cx.cp++Bz (r.af.drop (k+1)) U n by rw[HG.o,ar.o,Qm,if_pos hneg,HCX.o];simp) (show DS r.af [] 0=DS (r.af.drop (k+1)) U n by rw[aC.o,ar.o,S8,if_pos hneg]);rw[hneg]at e0;clear hneg HG aC ar;go_wp2_with fail;have ai:=O.o;rw[aV.o,a8.o,a4.o]at ai;have ax:=Aa ai;clear ai;go_roundw
     case rel=>exact⟨k+1,n,bj,bk,L3,aM,D3,a9,c9,va,vc,_,U,ql,rfl,qd,aK.o,aO.o,qd,qg,qd,qd,ax.o,ah.o⟩
     case measure=>(simp[intOf];omega)
   obtain⟨bI,bC⟩:=Ak (λo'=>Aj.alloc AA o':∀o',Below f.drew.heap.size f.drew (f.drew.alloc o')) (λo'=>Aj.drew.alloc qe o':∀o',Bw f (f.drew.alloc o'));go_simp;refine d.o _ _ (by(try dsimp only);exact⟨zab (bC.o _) d0,zab (bC.o _) d1,zab (bC.o _) d2⟩) λhHeld=>?_;clear d K;(try simp only[pA,pZ,pS,pN]);obtain⟨aQ,bP,cr⟩:=AQ (λo'=>aS.o.ar (bI.o o')) (λo'=>((bI.o o').block _ (As bE.o)).j bE.o) (λo'=>ce.o.ar (bI.o o'));refine wpAnyH_ready (rs:=[5]) qf qe ?_;refine Yi (yj.j rfl) (λK d=>?_) Ys;go_simp;(go_at_call 149;refine(bL.o _ (aQ.o _)).ac ?_;rintro e' s ⟨bj,bk,L3,aM,D3,nk,rfl,a7,aD,bd,E,bz,bw⟩);(try go_wp2_with fail);refine d.o _ _ (by(try dsimp only);exact Ao (E.box (bP.o _) (aQ.o _).ns qh qh)) λhHeld=>?_;clear d K;(try simp only[pA,pZ,pS,pN]);obtain⟨aB,H,aR,bG,bZ⟩:=DU ((aQ.o _).of a7 (SJ p) aD E bz bw) (E.box (bP.o _) (aQ.o _).ns qh qh) (show Dg s rb (.slice none 0 0) (.slice none 0 0) from E.box (cr.o _) (aQ.o _).ns qh qh) (show s.heap[f.heap.size]?=some (.cells #[.bool false,.int .i64 0,.pointer none,.slice none 0 0] 197 (0,0)) from E.box (heap_alloc_new f.drew _) (aQ.o _).ns qh qh) (show∃i:Nat,(L3.map Prod.fst)[i]?=some (C0 p)/\aM[i]?=some nk from⟨_,by rw[aD];exact gd _ _,bd⟩);have cC:L3.length<=L.length+1:=by
    exact oE
   have cM:f.heap.size<s.heap.size:=As bG.o;clear a7 aD bd E bz bw aQ bP cr bI bC;obtain⟨x0,x1,x2⟩:=Ao H.o;refine wpAnyH_ready (rs:=[7]) qf qe ?_;refine Yi (yj.j rfl) (λK d=>?_) Ys;go_simp;(go_at_call 150;refine(bB.o _ _ _ _ _ _ aB.o).ac ?_;rintro cz w7 ⟨⟨ta,tc,rfl,aH⟩,Y⟩);(try go_wp2_with fail);refine d.o _ _ oy λhHeld=>?_;clear d K;(try simp only[pA,pZ,pS,pN]);obtain⟨bt,I,bA,af,bu⟩:=DU (aB.o.ar Y) ((Y.block _ (As H.o)).j H.o) (aR.o.ar Y) ((Y.block _ (As bG.o)).j bG.o) (DT aH (show w.heap.size<=s.heap.size by omega));have bX:=Y.size;clear aH Y x0 x1 x2 aB H aR bG;refine sr 8 9 ?_;obtain⟨m0,m1,m2⟩:=Ao I.o;obtain⟨o0,o1,o2,o3⟩:=AO af.o;have s0:w7.frozen? ⟨f.heap.size,0,none⟩=false:=qx;have s1:w7.frozen? ⟨f.heap.size,1,none⟩=false:=qx;have s2:w7.frozen? ⟨f.heap.size,2,none⟩=false:=qx;have s3:w7.frozen? ⟨f.heap.size,3,none⟩=false:=qx;have bv:=Aa (λwt(W:Turned w7 wt f.heap.size)=>Ao (OM I.o af.o W qh));refine wpAnyH_ready (rs:=[10]) qf qe ?_;refine Yi (yj.j rfl) (λK d=>?_) Ys;go_simp;refine d.o _ _ pD λhHeld=>?_;clear d K;(try simp only[pA,pZ,pS,pN]);refine wpAnyH_done qf ?_ _;refine Yf ?_;go_upto_region 7 with fail;refine R_ af.o ?_;intro u aG G;obtain⟨c0,c1,c2,c3⟩:=AO aG;obtain⟨y,Z,aX,aY⟩:=BE (bt.o.fill af.o G (λg M=>by have:=bM.o g M;omega) qd) (OM I.o af.o G qh) (show Dg u rb (.slice none 0 0) (.slice none 0 0) from OM bA.o af.o G qh) (Mb bu.o af.o G qh);have cg:w7.heap.size<=u.heap.size:=W0 G.size.ai;clear G aG m0 m1 m2 o0 o1 o2 o3 s0 s1 s2 s3 bv af;have b6:tb<u.heap.size:=As Z.o;clear d0 d1 d2 bL bB hHeld;obtain⟨⟨q0,q1⟩,_,cJ⟩:=y.o.pn.box.facts;have m:=Aa (λo=>Aj.alloc AA o:∀o,Bw u (u.alloc o));have bU:∀o,(u.alloc o).cell? ⟨pb,0,none⟩=some (.slice ca X.length cc):=λo=>zab (m.o o) q0;obtain⟨TY,bm,bc,bh⟩:=BE (λo g M=>A8 (Bg y.o.pn.conds (m.o o)) (k:=g) M) (λo=>y.o.pn.box.ar (m.o o)) (λo=>aX.o.ar (m.o o)) (λo=>((m.o o).block _ (As Z.o)).j Z.o);have bp:w.heap.size<=u.heap.size:=qd;go_upto_region 8 with(first|(at_builtin;refine EU qi (.tmp 27) (.tmp 29) 99 qi w.heap.size 197 _ 4 48 underlying99 gW qi qd _ X.length _ qi (Bg y.o.pn.conds (m.o _)) (some ⟨_,0,none⟩) 1 1 qi (IP ⟨⟨p.neg,n,C0 p,Ct U p.aa p.aa.length⟩,nk,ta,tc⟩) qi (λe=>qp) (Et _ _ _ _ qH) (gH _) qm qd (yi bp (m.o _).size) ?_;intro a9 c9 w9 bg R bW;have P9:=Aa (show Dg w9 pb (.slice ca X.length cc) (.slice va U.length vc) from Gq (bm.o _) R.o (TY.o _) qh);have R9:=Aa (show Dg w9 rb (.slice none 0 0) (.slice none 0 0) from Gq (bc.o _) R.o (TY.o _) qh);have B9:=Aa (Gq (bh.o _) R.o (TY.o _) qh);obtain⟨⟨l0,l1⟩,z,_⟩:=P9.o.facts;have b5:=z 0;clear z)|fail);refine ju P9.o ?_;intro bo aE ak;obtain⟨cx,aN⟩:∃c:Cx,c=⟨⟨p.neg,n,C0 p,Ct U p.aa p.aa.length⟩,nk,ta,tc⟩:=⟨_,rfl⟩
   have O:=Aa (y.o.push (c:=⟨⟨p.neg,n,C0 p,Ct U p.aa p.aa.length⟩,nk,ta,tc⟩) aY.o bZ.o aT bg.o R.o aE ak);rw[<-aN]at O;have HCX:=Aa aN;clear aN;obtain⟨ah,aJ⟩:=Ak (show Dg bo rb (.slice none 0 0) (.slice none 0 0) from(ak.block rb qd).j R9.o) ((ak.block tb qd).j B9.o);obtain⟨e0,e1,e2⟩:=Ao aJ.o;clear aE ak c0 c1 c2 c3 q0 q1 bU l0 l1 b5 m TY bm bc bh P9 R9 B9 y Z aX aY bg R bW;rcases(show p.neg=false∨p.neg=true by cases p.neg<;>simp) with hneg|hneg
   .exact oW
   obtain⟨aK,aO⟩:=Ak (show Bz r.af [] 0=(X++[cx]).map Cx.cp++Bz (r.af.drop (k+1)) U n by rw[HG.o,ar.o,Qm,if_pos hneg,HCX.o];simp) (show DS r.af [] 0=DS (r.af.drop (k+1)) U n by rw[aC.o,ar.o,S8,if_pos hneg]);rw[hneg]at e0;clear hneg HG aC ar;go_wp2_with fail;have ai:=O.o;rw[aV.o,a8.o,a4.o]at ai;have ax:=Aa ai;clear ai;go_roundw
   case rel=>exact⟨k+1,n,bj,bk,L3,aM,D3,a9,c9,va,vc,_,U,ql,rfl,qd,aK.o,aO.o,qd,qg,qd,qd,ax.o,ah.o⟩
   case measure=>(simp[intOf];omega)
  have cG:k=r.af.length:=qd;subst cG;have hy:¬(r.af.length:Int)<(r.af.length:Int):=qd;obtain⟨⟨q0,q1⟩,_,_⟩:=N.o.pn.box.facts;obtain⟨⟨r0,r1⟩,rz,dk⟩:=bi.o.facts;have dh:=rz 0;have cZ:=rz 1;have cq:Bz r.af [] 0=X.map Cx.cp:=by rw[HG.o,List.drop_length];simp[Bz]
  have b8:DS r.af [] 0=U:=by rw[aC.o,List.drop_length];rfl
  obtain⟨cH,cj⟩:=Ak cq b8;have cT:rb≠pb:=qd;clear cq b8 rz;go_wp2_with fail;refine bodyPost_ret (v:=.agg #[.slice ca X.length cc,.slice va U.length vc]) (by simp[results,results90,go_sem,r0,r1]) rfl ?_;have W:Turned wr ((wr.setCell ⟨rb,0,none⟩ (.slice ca X.length cc)).setCell ⟨rb,1,none⟩ (.slice va U.length vc)) rb:=Turned.setCells [_,_] 0 wr rb;refine⟨C,B,L,A,D,ca,cc,va,vc,X,by rw[cj.o],cH.o.ai,N.o.ns.bM bi.o W Nv,?_,?_,?_,?_,?_,?_,N.o.cf⟩
  .rw[cj.o];exact N.o.pn.pd.aD λk c t fr hk cR=>(W.block k (λe=>by subst e;exact CB bi.o hk (by rcases cR with rfl|rfl|rfl<;>decide))).j hk
  .rw[<-aV.o];exact N.o.fr.aP (W.J b7)
  .rw[<-aV.o];exact N.o.cE
  .rw[<-a8.o];exact N.o.ext
  .rw[<-a4.o];exact N.o.cQ
  rw[<-a4.o];exact cF
end
section
open Go.Maps
structure Px where
 ca:Option Addr
 cc:Nat
 va:Option Addr
 vc:Nat
 X:List Cx
 U:List Vr
def Jk(x:Px):List Value:=[.slice x.ca x.X.length x.cc,.slice x.va x.U.length x.vc]
def su(x):∀u∈Jk x,u.oneCell'=true:=by
 intro u hu;simp[Jk]at hu;rcases hu with rfl|rfl<;>rfl
def tU:(prog.info? 102).map (λi=>(i.zero,i.size,i.bytes))=some (some (.agg #[.slice none 0 0,.slice none 0 0]),2,48):=qf
structure Fi(w:World) (B:Nat) (a:Option Addr) (c:Nat) (P:List Px) (A:List Al) (bs:List Nat):Prop where
 row:w.ownsRow B 102 2 (.slice a P.length c) P.length (P.flatMap Jk)
 each:∀x∈P,PD w B x.ca x.cc x.va x.vc x.X x.U A bs
def Fi.aD{w w' B a c P A e}(h:Fi w B a c P A e)(f:∀(k:Nat)(c:Array Value)(t:TypeId)(b:Nat × Nat),w.heap[k]?=some (.cells c t b)->(t=102∨t=197∨t=330∨t=277)->w'.heap[k]?=some (.cells c t b)):Fi w' B a c P A e:=
 ⟨BZ h.row λk d=>by
  obtain⟨j,O⟩:=A8 h.row d
  rw[f k _ _ _ O (.inl rfl),O],λx g=>(h.each x g).aD λk c t b d i=>f k c t b d (.inr i)⟩
def Fi.ar{w w' B a c P A b}(h:Fi w B a c P A b)(e:Bw w w'):Fi w' B a c P A b:=
 h.aD λk _ _ _ d _=>(e.block k (As d)).j d
def Fi.ft{base w w' B a c P A b}(h:Fi w B a c P A b)(e:DF base w w'):Fi w' B a c P A b:=
 h.aD λk c t d f ht=>e.kept k c t d f qr qr
def PD.ext{w B ca cc b e X U A O d a}(h:PD w B ca cc b e X U A d)(Y:∀(i:Nat)(y:Al),A[i]?=some y->O[i]?=some y)(j:∀(i n:Nat),d[i]?=some n->a[i]?=some n):PD w B ca cc b e X U O a:=
 ⟨h.conds,h.vars,h.ah,λc f=>by
  obtain⟨i,k,g⟩:=h.nodes c f
  exact⟨i,Y i _ k,j i _ g⟩⟩
def PD.lower{w B O ca cc b e X U A d}(h:PD w B ca cc b e X U A d)(a:O<=B):PD w O ca cc b e X U A d:=
 ⟨DT h.conds a,DT h.vars a,λc f=>DT (h.ah c f) a,h.nodes⟩
def Fi.push{I w O g base m mb B p s}{L l:List FP}{j b D a q c v P x o}(h:Fi w B a c P (L.map Prod.fst) j)(C:NS I w base m mb p s L j D)(G:Ei m mb (Value.slice p L.length s).ownBlock w O)(A:∀(i n:Nat),j[i]?=some n->b[i]?=some n)(H:∀(i:Nat)(y:Al),(L.map Prod.fst)[i]?=some y->(l.map Prod.fst)[i]?=some y)(E:PD O B x.ca x.cc x.va x.vc x.X x.U (l.map Prod.fst) b)(z:(O.alloc o).grownBy g (Value.slice a P.length c).ownBlock)(ho:g.ownsRow B 102 2 (.slice q (P.length+1) v) (P.length+1) (P.flatMap Jk++Jk x)):Fi g B q v (P++[x]) (l.map Prod.fst) b:=by
 have J:Fi O B a c P (L.map Prod.fst) j:=h.aD λk c t f e ht=>G.box e C qr qr;have r:Bw O (O.alloc o):=Af;have u:=J.ar r;have Y:=λk e=>A8 u.row (k:=k) e;have far:∀(k:Nat)(c:Array Value)(t:TypeId)(f:Nat × Nat),(O.alloc o).heap[k]?=some (.cells c t f)->(t=197∨t=330∨t=277)->g.heap[k]?=some (.cells c t f):=λk c t f e ht=>Gq e z Y qy;refine⟨Qz,λy d=>?_⟩;rcases yr.1 d with d|d
 .exact((u.each y d).ext H A).aD far
 rw[yv.1 d];exact(E.ar r).aD far
def gq{x}:∀(Q:List (Value × F)),(CD x Q).map Prod.snd=(Q.map Prod.snd).filter (Ae x)
 |[]=>rfl
 |y::r=>by
  unfold CD
  have O:=gq (x:=x) r
  unfold CD at O
  by_cases h:Ae x y.2=true
  .rw[yL qq,yn,yn,yL h,O]
  rw[yN qq,yn,yN h,O]
def DQ.owns{w base a c ts}(h:w.ownsRow base 277 4 (.slice a ts.length c) ts.length (ts.flatMap IR)):DQ w a ts:=by
 intro i t d;have key:=λj u(hj:(IR t)[j]?=some u)=>CC h (Ig (cells:=IR) (m:=4) (λ_=>rfl) ts i t j u d hj);obtain⟨k,rfl,_,O,_⟩:=key 0 _ rfl;obtain⟨g,f,_,h1,_⟩:=key 1 _ rfl;obtain⟨l,e,_,h2,_⟩:=key 2 _ rfl;obtain⟨n,b,_,h3,_⟩:=key 3 _ rfl;cases f;cases e;cases b;exact⟨k,0,rfl,qA,qt,qv,Nt⟩
def BM(fs:List F)(c:Cx):Cn:=⟨c.cp.neg,c.cp.at_,c.node,c.cp.ah,c.cp.aq,fs.filter (Ae c.cp.aq)⟩
def gU(fs c):IC fs (BM fs c) c.cp:=⟨rfl,rfl,rfl,rfl,rfl⟩
def PD.ei{w B base R mb T J L s V Q fs ca cc C vc X U}(h:PD w B ca cc C vc X U (L.map Prod.fst) s)(l:NF w base R mb T J L s V (λ_=>Q))(M:Q.map Prod.snd=fs)(hF:∀y∈Q,Ee w y.1 y.2):Pb w ca (X.map (BM fs)):=by
 intro i d o;rw[yx]at o;obtain⟨c,t,rfl⟩:=Ya.1 o;have key:=λj u(hj:(IP c)[j]?=some u)=>CC h.conds (Ig (cells:=IP) (m:=4) (λ_=>rfl) X i c j u t hj);obtain⟨k,rfl,_,h0,_⟩:=key 0 _ rfl;obtain⟨k1,e1,_,h1,_⟩:=key 1 _ rfl;obtain⟨k2,G,_,Z,_⟩:=key 2 _ rfl;obtain⟨k3,N,_,D,_⟩:=key 3 _ rfl;cases e1;cases G;cases N;have p:=yd t;obtain⟨m,r,hb⟩:=h.nodes c p;rw[yx]at r;obtain⟨x,n,E⟩:=Ya.1 r;have W:m<L.length:=(yf.1 n).1;obtain⟨v,hv⟩:∃v,V[m]?=some v:=⟨V[m]'(by rw[l.ba];exact W),qe⟩
 obtain⟨e,_,⟨fa,fc,rfl⟩,z⟩:=l.node m x c.node v n hb hv;obtain⟨I,H,Y⟩:=e.nd (l.aX x (yd n));rw[E]at Y e z;have a:(CD c.cp.aq Q).map Prod.snd=fs.filter (Ae c.cp.aq):=by rw[gq,M]
 have b:(CD c.cp.aq Q).length=(fs.filter (Ae c.cp.aq)).length:=by rw[<-a,yp]
 obtain⟨⟨_,_,_,K⟩,_⟩:=e.facts;refine⟨k,0,c.ta,c.tc,rfl,by simpa[BM] using h0,by simpa[BM] using h1,by simpa[BM] using Z,by simpa[BM] using D,⟨DQ.owns (h.ah c p),⟨I,H,Y⟩,fa,fc,?_,?_⟩⟩
 .show At w c.node 4 (.slice fa (fs.filter (Ae c.cp.aq)).length fc);rw[<-b];exact K
 intro j f hj;have O:((CD c.cp.aq Q).map Prod.snd)[j]?=some f:=by rw[a];exact hj
 rw[yx]at O;obtain⟨y,q,rfl⟩:=Ya.1 O;obtain⟨g,rfl,_,A,_⟩:=CC z (show((CD c.cp.aq Q).map Prod.fst)[j]?=some y.1 by rw[yx,q];rfl);exact⟨g,0,y.1,rfl,by simpa using A,hF y (yg.1 (yd q)).1⟩
def SE:∀(a:List Pt)(vs:List Vr)(n:Nat),(∀p∈a,p.aa.length<=6)->∀d∈Bz a vs n,d.ah.length<=6/\d.aq.ah.length<=6
 |[],_,_,_,d,hd=>by simp[Bz]at hd
 |p::a,vs,n,h,d,hd=>by
  rw[Qm]at hd
  have b:∀q∈a,q.aa.length<=6:=λq c=>h q (by simp[c])
  rcases yO.1 hd with rfl|hd
  .exact⟨yi (Xj _ _ _) (h p qe),SJ p⟩
  split at hd
  .exact SE a _ _ b d hd
  exact SE a _ _ b d hd
structure Pd(w:World) (fs:List F) (ca:Option Addr) (va:Option Addr) (r:Ru) (cs:List Cn):Prop where
 conds:Pb w ca cs
 vars:Ji w va (DS r.af [] 0)
 len:cs.length=(Bz r.af [] 0).length
 each:∀(k:Nat)(c:Cn)(d:Cp),cs[k]?=some c->(Bz r.af [] 0)[k]?=some d->IC fs c d
 small:∀c∈cs,rF c
def Pd.J{w w' fs ca a r cs}(h:Pd w fs ca a r cs)(b:Bw w w'):Pd w' fs ca a r cs:=⟨h.conds.J b,h.vars.J b,h.len,h.each,h.small⟩
def PD.ej{w B base i mb l g L f V Q fs ca cc e q X r}(h:PD w B ca cc e q X (DS r.af [] 0) (L.map Prod.fst) f)(m:NF w base i mb l g L f V (λ_=>Q))(Y:Q.map Prod.snd=fs)(hF:∀y∈Q,Ee w y.1 y.2)(O:X.map Cx.cp=Bz r.af [] 0)(o:∀p∈r.af,p.aa.length<=6)(s:fs.length<=40):Pd w fs ca e r (X.map (BM fs)):=by
 refine⟨h.ei m Y hF,Ji.owns h.vars,by rw[<-O];simp,λk c d a hd=>?_,λc a=>?_⟩
 .rw[<-O,yx]at hd;rw[yx]at a;obtain⟨x,b,rfl⟩:=Ya.1 a;rw[b]at hd;cases hd;exact gU fs x
 obtain⟨x,b,rfl⟩:=yz.1 a;obtain⟨j,n⟩:=SE r.af [] 0 o x.cp (by rw[<-O];exact yz.2 ⟨x,b,rfl⟩);exact⟨yi j qh,yi (Yd _ _) qd,yi n qh⟩
end
end Go.Proofs.YtikojfajahnhgaaGreat
