import Derived.Test.YtikojfajahnhgaaGreatKbu
import Derived.Test.YtikojfajahnhgaaGreatKbw
set_option linter.all false
namespace Go.Proofs.YtikojfajahnhgaaGreat
attribute [local simp] At I6 Pn mzI
attribute [local go_sem] At I6 Pn
open Go.RowKit Go.Proofs.Tryz
section
open Go.Maps
structure Er(w w':World):Prop where
 rest:Below 0 w w'
 kept:∀(k:Nat)(c:Array Value)(t:TypeId)(fr:Nat × Nat),w.heap[k]?=some (.cells c t fr)->t≠165->t≠159->w'.heap[k]?=some (.cells c t fr)
 maps:∀(k:Nat)(o:Obj),w.heap[k]?=some o->(∀c t fr,o≠.cells c t fr)->w'.heap[k]?=some o
def Er.j{u v w}(h:Er u v)(k:Er v w):Er u w:=⟨h.rest.j k.rest,λj c t b hj d a=>k.kept j c t b (h.kept j c t b hj d a) d a,λj o hj e=>k.maps j o (h.maps j o hj e) e⟩
def Er.ab{w w'}(h:Bw w w'):Er w w':=⟨h.ac (yA _),λk _ _ _ a _ _=>(h.block k (As a)).j a,λk _ a _=>(h.block k (ym.1 a).1).j a⟩
def Er.az{w w' g}(h:w.grownBy w' g)(b:∀k,g=some k->∃c,w.heap[k]?=some (.cells c 165 (0,0))):Er w w':=
 ⟨⟨h.os,h.tape,h.output,h.size,λ_ q=>absurd q qd⟩,λk _ _ _ a i _=>(h.block k (As a) (λe=>by
  obtain⟨d,O⟩:=b k e.ai
  exact CB a O i)).j a,λk o a f=>(h.block k (ym.1 a).1 (λe=>by
  obtain⟨d,O⟩:=b k e.ai
  rw[a]at O
  cases O
  exact f _ _ _ rfl)).j a⟩
def Er.bw{w w' b f O}(h:Turned w w' b)(c:w.heap[b]?=some (.cells f 159 O)):Er w w':=
 ⟨h.J (yA _),λk _ _ _ a _ d=>(h.block k (λe=>by
  subst e
  exact CB a c d)).j a,λk o a g=>(h.block k (λe=>by
  subst e
  rw[a]at c
  cases c
  exact g _ _ _ rfl)).j a⟩
def Er.k{S w w'}(h:Er w w'):O7 S w w':=⟨λk c t b a ht=>h.kept k c t b a qu qu,λk _ _ _ a=>h.maps k _ a (λ_ _ _ e=>qp)⟩
def Er.own{B w w' e m v n xs}(h:Er w w')(b:w.ownsRow B e m v n xs)(g:e≠165)(d:e≠159):w'.ownsRow B e m v n xs:=
 BZ b λk f=>by
  obtain⟨c,a⟩:=A8 b f
  rw[h.kept k _ _ _ a g d,a]
def NF.fm{w w' base g mb j e L f V QQ}(h:NF w base g mb j e L f V QQ)(a:Er w w'):NF w' base g mb j e L f V QQ:=
 ⟨a.kept _ _ _ _ h.box qh qh,a.own h.row qh qh,h.bk,h.ba,λi x b v c d hv=>by
  obtain⟨n,l,k,m⟩:=h.node i x b v c d hv
  exact⟨a.kept _ _ _ _ n qh qh,l,k,a.own m qh qh⟩,λx c=>⟨(h.aX x c).1,a.own (h.aX x c).2 qh qh⟩,h.apart⟩
def PD.fm{w w' B ca cc a d X U A b}(h:PD w B ca cc a d X U A b)(f:Er w w'):PD w' B ca cc a d X U A b:=
 h.aD λk c t g e ht=>f.kept k c t g e qy qy
def Fi.fm{w w' B a c P A b}(h:Fi w B a c P A b)(f:Er w w'):Fi w' B a c P A b:=
 h.aD λk c t e d ht=>f.kept k c t e d qr qr
def Hd.fm{adr U w w'}(h:Hd adr U w)(e:Er w w'):Hd adr U w':=λf d=>(h f d).keep λg c t b a ht=>e.kept g c t b a qs qs
structure Mg(N:NT) (adr:F->Addr) (U fs:List F) (V:List Value) (olds:List (List Kt)) (ms:List Int) (P:List Px) (w:World):Prop where
 ok:FH N
 bx:DV N adr U fs V w
 st:Ch N adr U (N.vw V fs) (λ_=>gV (N.vw V fs)) olds w
 ol:olds.length=N.Ms.length
 bu:∀(i:Nat)(m:MK),N.Ms[i]?=some m->∃x d,P[i]?=some x/\ms[i]?=some d/\m.X=x.X/\m.ca=x.ca/\m.bg d
 bC:∀(i:Nat)(m:MK)(old:List Kt),N.Ms[i]?=some m->olds[i]?=some old->old.Perm ((BV (m.X.map (Cv (N.vw V fs))) []).map (Ab adr))
def MK.dw:MK->TypeId
 |.inl _=>248
 |.inr _=>256
def MK.bZ(m:MK):m.val=.iface m.dw m.ptr:=by cases m<;>rfl
def Uf (m:MK) (u):Sem.run prog (method 525 m.dw m.ptr "loop.example/s01311/impl.conflict") u=.ok (m.dg,m.ptr) u:=by
 cases m with
 |inl O=>exact uC _ _
 |inr t=>exact sQ _ _
def UJ(m:MK):∀args w,(callFunc m.dg args).run prog w=.ok (.enter m.dg args) w:=by
 cases m with
 |inl O=>exact enters_of func302 qf rfl
 |inr t=>exact enters_of func307 qf rfl
def Lj{α:Type}{l}{x y:α}{i}(h:(l++[x])[i]?=some y):l[i]?=some y∨(i=l.length/\y=x):=by
 by_cases a:i<l.length
 .rw[yB a]at h;exact .inl h
 rw[yF qd]at h;have O:i-l.length=0:=by
  have:=(yf.1 h).1;simp at this;omega
 rw[O]at h;simp at h;exact .inr ⟨qd,h.ai⟩
def NT.more(N:NT)(ma:Option Addr)(mc:Nat)(m:MK):NT:={ N with ma:=ma,mc:=mc,Ms:=N.Ms++[m] }
def oJ{P:Prop}(h:P:=by
 rcases Lj h2 with h2|⟨_,rfl⟩
 .have:=(yf.1 h2).1;have:=h.ol;omega
 rfl
 ):P:=h
def Mg.more{N adr U fs V c y P w H s f m K x d o l}(h:Mg N adr U fs V c y P w)(hF:Gi adr U fs)(aE:N.fb<w.heap.size)(hx:P[N.Ms.length]?=some x)(hd:y[N.Ms.length]?=some d)(hl:N.Ms.length<1000)(ay:PD w N.B x.ca x.cc x.va x.vc x.X x.U (N.L.map Prod.fst) N.bs)(G:m.X=x.X)(Z:m.ca=x.ca)(p:m.Ok)(aC:m.bg d)(Y:∀g,m.S g->w.heap.size<=g)(av:Bw w H)(aA:m.St adr U (N.vw V fs) (gV (N.vw V fs)) K s)(hK:K.Perm ((BV (m.X.map (Cv (N.vw V fs))) []).map (Ab adr)))(aw:Av m.S H s)(A:Er s f)(au:f.heap[N.nw]?=some (.cells #[Pn N.gb,.map (some N.fb),.slice o (N.Ms.length+1) l] 159 (0,0)))(ar:f.ownsRow N.B 165 1 (.slice o (N.Ms.length+1) l) (N.Ms.length+1) (N.Ms.map MK.val++[m.val])) :
  Mg (N.more o l m) adr U fs V (c++[K]) y P f:=by
 have u:Bw w s:=Av.bf av aw Y;have r:=λa(O:a∈N.Ms)g(q:MK.S a g)=>h.st.lt h.ol O g q;have n:Er w f:=(Er.ab u).j A;have ax:=h.bx.nf.fm n;have az:=h.bx.us.fm n;have aD:∀a∈(N.more o l m).Ms,∃cc v D z,PD f N.B a.ca cc v D a.X z (N.L.map Prod.fst) N.bs:=λa O=>by
  rcases yr.1 O with O|O
  .obtain⟨cc,v,D,z,hp⟩:=h.bx.pd a O;exact⟨cc,v,D,z,hp.fm n⟩
  rw[yv.1 O,G,Z];exact⟨_,_,_,_,ay.fm n⟩
 have R:DV (N.more o l m) adr U fs V f:=⟨by simpa[NT.more] using au,ax,by simpa[NT.more] using ar,aD,az,yi h.bx.hb n.rest.size⟩
 have hbase:N.base<=w.heap.size:=h.bx.hb;refine⟨⟨λa O=>?_,λi j m1 m2 b h2 aB g C t=>?_,λa O q=>?_,h.ok.cf,h.ok.len,by simp[NT.more];omega,λa O g q=>?_,h.ok.dP⟩,R,λi a old b h2=>?_,by simp[NT.more,h.ol],λi a b=>?_,λi a old b h2=>?_⟩
 .rcases yr.1 O with O|O
  .exact h.ok.ok a O
  rw[yv.1 O];exact p
 .rcases Lj b with J|⟨M,f1⟩<;>rcases Lj h2 with W|⟨I,f2⟩
  .exact h.ok.apart i j m1 m2 J W aB g C t
  .have:=r m1 (yd J) g C;have:=Y g (f2▸t);omega
  .have:=r m2 (yd W) g t;have:=Y g (f1▸C);omega
  omega
 .rcases yr.1 O with O|O
  .exact h.ok.co a O q
  rw[yv.1 O]at q;have:w.heap.size<=N.fb:=Y _ q;omega
 .rcases yr.1 O with O|O
  .exact h.ok.dk a O g q
  rw[yv.1 O]at q;exact yi hbase (Y g q)
 .obtain⟨T,p2,E⟩:=R.pre hF (yd b);rcases Lj b with b|⟨M,rfl⟩
  .rcases Lj h2 with h2|⟨I,rfl⟩
   .exact((h.st i a old b h2).keep (S:=λ_=>False) (CK.ab u) (Av.ab u) (λ_ _ q=>q)).bm (h.ok.ok a (yd b)) (λ_ _=>rfl) E T A.k
   have:=(yf.1 b).1;have:=h.ol;omega
  have e:old=K:=by
   exact oJ
  rw[e];exact aA.bm p (λ_ _=>rfl) E T A.k
 .rcases Lj b with b|⟨rfl,rfl⟩
  .exact h.bu i a b
  exact⟨x,d,hx,hd,G,Z,aC⟩
 rcases Lj b with b|⟨M,rfl⟩
 .rcases Lj h2 with h2|⟨I,rfl⟩
  .exact h.bC i a old b h2
  have:=(yf.1 b).1;have:=h.ol;omega
 have e:old=K:=by
  exact oJ
 rw[e];exact hK
end
section
attribute [local go_sem ↓] wp_at_zero wp_at_succ
def Dy(m:Int):Bool:=decide (m=0)||decide (m=1)
def Hr(ms:List Int)(count:Int):Bool:=ms.all Dy&&decide ((ms.length:Int)=count)
def nI{P:Prop}(h:P:=by
 go_wp2_with fail;go_roundw
 case rel=>exact⟨k+1,by go_num,by omega,by rw[yY,HX.o,KU,HA.o];rfl,trivial⟩
 case measure=>(simp;omega)
 ):P:=h
set_option maxHeartbeats 1600000 in
def Xr(a c d count){q}(w)(hv:Bf q w a d)(hl:d.length<=1048576) :
  Ca 43 #[.slice a d.length c,I6 count] w λe w'=>e=.returned (.bool (Hr d count))/\w'=w:=by
 have j:=Aa hv;clear hv;go_enter func43,ntmps43;go_wp2_with fail
 go_loopw [9] (λiv wr=>∃k:Nat,iv=I6 (k:Int)/\k<=d.length/\(d.take k).all Dy=true/\wr=w) (mz d.length)
 case atStart=>exact⟨0,rfl,yA _,rfl,rfl⟩
 case round=>
  obtain⟨k,rfl,p,O,rfl⟩:=hrel;have HA:=Aa O;clear O;by_cases l:k<d.length
  .obtain⟨m,f⟩:=AJ l;obtain⟨b,o,rfl,_,u⟩:=j.o.get f;have x:(0:Int)<=(k:Int):=qd;have t:(k:Int)<(d.length:Int):=qd;have HX:=Aa f;clear f;by_cases h0:m=0
   .subst h0;exact nI
   by_cases h1:m=1
   .subst h1;exact nI
   have r:(m != 0)=true:=qC;have n:(m != 1)=true:=qt;go_wp2_with fail;have i:Hr d count=false:=by
    have g:d.all Dy=false:=by
     rw[Ku];exact⟨m,yd HX.o,by simp[Dy,h0,h1]⟩
    simp[Hr,g]
   exact bodyPost_ret (v:=.bool false) (by simp[results,results43,go_sem]) rfl ⟨by rw[i],rfl⟩
  obtain rfl:k=d.length:=qd;have s:¬(d.length:Int)<(d.length:Int):=qd;go_wp2_with fail;have Y:Hr d count=decide ((d.length:Int)=count):=by
   have:=HA.o;rw[yW]at this;simp[Hr,this]
  rw[Y];exact Nd
end
end Go.Proofs.YtikojfajahnhgaaGreat
