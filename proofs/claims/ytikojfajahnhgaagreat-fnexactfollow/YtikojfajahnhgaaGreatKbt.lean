import Derived.Test.YtikojfajahnhgaaGreatKbq
import Derived.Test.YtikojfajahnhgaaGreatKbs
set_option linter.all false
set_option maxRecDepth 100000
namespace Go.Proofs.YtikojfajahnhgaaGreat
attribute [local simp] At I6 Pn mzI
attribute [local go_sem] At I6 Pn
open Go.RowKit Go.Proofs.Tryz
def OZ:List Nat->Nat->Nat
 |[],_=>0
 |x::l,b=>if x=b then 0 else OZ l b+1
def gT:∀{l:List Nat}{i b:Nat},l[i]?=some b->l[OZ l b]?=some b
 |[],i,b,h=>by simp at h
 |x::l,i,b,h=>by
  unfold OZ
  by_cases e:x=b
  .rw[if_pos e]
   simp[e]
  rw[if_neg e]
  cases i with
  |zero=>exact absurd (by simpa using h) e
  |succ i=>exact gT (l:=l) (i:=i) (by simpa using h)
def Hh(L:List FP)(bs:List Nat)(V:List Value)(fs:List F):Vw:=λb=>
 match V[OZ bs b]?,L[OZ bs b]? with
 |some (.slice a _ c),some x=>(a,c,fs.filter (Ae x.1))
 |_,_=>(none,0,[])
def NF.inj{w base e mb f d L a V QQ}(h:NF w base e mb f d L a V QQ){i j b:Nat}(c:a[i]?=some b)(hj:a[j]?=some b):i=j:=by
 have g:=h.bk;have k:=h.ba;have O:=(yf.1 c).1;have Y:=(yf.1 hj).1;exact(h.node i (L[i]'(by omega)) b (V[i]'(by omega)) qe c qe).1.num (h.node j (L[j]'(by omega)) b (V[j]'(by omega)) qe hj qe).1
def TP{w base g mb j f L a V adr fs}(h:NF w base g mb j f L a V (λ_=>Eg adr fs)){i b:Nat}{x}(c:L[i]?=some x)(d:a[i]?=some b):∃fa fc,V[i]?=some (.slice fa (fs.filter (Ae x.1)).length fc)/\Hh L a V fs b=(fa,fc,fs.filter (Ae x.1)):=by
 have l:=h.ba;have O:=(yf.1 c).1;obtain⟨v,hv⟩:∃v,V[i]?=some v:=⟨V[i]'(by omega),qe⟩
 obtain⟨_,_,⟨fa,fc,e⟩,_⟩:=h.node i x b v c d hv;rw[RB,MH]at e;subst e;refine⟨fa,fc,hv,?_⟩;have k:OZ a b=i:=h.inj (gT d) d;simp only[Hh,k,hv,c]
def PD.pre{w B base N mb R K L o V adr fs m cc G W T U}(h:PD w B m.ca cc G W m.X T (L.map Prod.fst) o)(l:NF w base N mb R K L o V (λ_=>Eg adr fs))(q:Bl adr U w)(E:∀f∈fs,f∈U):GP m adr U (Hh L o V fs) w/\∀c∈m.X,gV (Hh L o V fs) c=fs.filter (Ae c.cp.aq):=by
 have p:∀c∈m.X,∃(i:Nat)(x:FP),L[i]?=some x/\x.1=c.cp.aq/\o[i]?=some c.node:=λc d=>by
  obtain⟨i,t,b⟩:=h.nodes c d;rw[yx]at t;obtain⟨x,a,O⟩:=Ya.1 t;exact⟨i,x,a,O,b⟩
 refine⟨⟨λi c d=>?_,λc d=>?_,q⟩,λc d=>?_⟩
 .have key:=λj u(hj:(IP c)[j]?=some u)=>CC h.conds (Ig (cells:=IP) (m:=4) (λ_=>rfl) m.X i c j u d hj);obtain⟨k,v,_,h0,_⟩:=key 0 _ rfl;obtain⟨k1,A,_,h1,_⟩:=key 1 _ rfl;obtain⟨Z,s,_,h2,_⟩:=key 2 _ rfl;obtain⟨k3,y,_,h3,_⟩:=key 3 _ rfl;rw[v]at A s y;cases A;cases s;cases y;have z:=yd d;obtain⟨n,x,a,O,b⟩:=p c z;obtain⟨fa,fc,hv,Y⟩:=TP l a b;obtain⟨H,_,_,C⟩:=l.node n x c.node _ a b hv;obtain⟨⟨_,_,_,M⟩,_⟩:=H.facts;rw[RB,MH,UD]at C;refine⟨k,v,⟨qC,qt,qv,Nt⟩,DQ.owns (h.ah c z),?_,?_⟩
  .rw[Y];exact M
  rw[Y];intro j f hj;obtain⟨g,e,_,D,_⟩:=CC C (show((fs.filter (Ae x.1)).map (pV adr))[j]?=some (pV adr f) by rw[yx,show(fs.filter (Ae x.1))[j]?=some f from hj];rfl);exact⟨g,0,e,by simpa[pV] using D,(q f (E f (yg.1 (yd hj)).1)).1⟩
 .obtain⟨n,x,a,O,b⟩:=p c d;obtain⟨fa,fc,hv,Y⟩:=TP l a b;obtain⟨J,I,r⟩:=(l.node n x c.node _ a b hv).1.nd (l.aX x (yd a));rw[O]at r;exact⟨J,I,r⟩
 obtain⟨n,x,a,O,b⟩:=p c d;obtain⟨fa,fc,hv,Y⟩:=TP l a b;unfold gV;rw[Y,<-O]
def fM{U fs:List F}{X vw}(b:∀c∈X,gV vw c=fs.filter (Ae c.cp.aq))(O:∀f∈fs,f∈U)(d:fs.Nodup)(hl:fs.length<=900):EB U X (gV vw):=λc e=>by
 rw[b c e];exact⟨λf a=>yg.2 ⟨O f (yg.1 a).1,(yg.1 a).2⟩,d.sublist YH,yi (Yd _ _) hl⟩
def vZ{p fs f}:FX 1 (p f) f (fs.filter p) ((fs++[f]).filter p):=by
 unfold FX;rw[yQ];cases h:p f
 .simp[h]
 simp[h]
def vg{p adr}{U fs:List F}{f}(d:Bm adr U)(O:∀g∈fs,g∈U)(i:fs.Nodup)(c:f∈fs):FX (-1) (p f) f (fs.filter p) ((fs.filter λg=>!decide (adr g=adr f)).filter p):=by
 have e:∀g∈fs,adr g=adr f↔g=f:=λg a=>⟨λq=>d g (O g a) f (O f c) q,λq=>by rw[q]⟩
 rw[lw];unfold FX;cases h:p f
 .rw[if_neg qh];refine Yv.2 λg a=>?_;obtain⟨k,b⟩:=yg.1 a;have:adr g≠adr f:=λq=>by
   rw[(e g k).1 q,h]at b;cases b
  simp[this]
 rw[if_pos rfl,if_neg qh];have j:f∈fs.filter p:=yg.2 ⟨c,h⟩;have Y:(fs.filter p).Nodup:=i.sublist YH;refine(WY Y (Yg.2 ⟨λq=>by simpa using(yg.1 q).2,Y.sublist YH⟩)).2 λg=>?_;rw[yO,yg (p:=λg=>!decide (adr g=adr f))];constructor
 .intro q;by_cases q':g=f
  .exact .inl q'
  exact .inr ⟨q,by simpa usingλr=>q' ((e g (yg.1 q).1).1 r)⟩
 rintro(q|q)
 .exact q▸j
 exact q.1
section
open Go.Maps
def ug (b w):Sem.run prog (method 525 248 (Pn b) "loop.example/s01311/impl.add") w=.ok (301,Pn b) w:=by kernel_rfl
def vp (b w):Sem.run prog (method 525 256 (Pn b) "loop.example/s01311/impl.add") w=.ok (306,Pn b) w:=by kernel_rfl
def vD (b w):Sem.run prog (method 525 248 (Pn b) "loop.example/s01311/impl.remove") w=.ok (303,Pn b) w:=by kernel_rfl
def xJ (b w):Sem.run prog (method 525 256 (Pn b) "loop.example/s01311/impl.remove") w=.ok (308,Pn b) w:=by kernel_rfl
def u7 (b w):Sem.run prog (method 525 248 (Pn b) "loop.example/s01311/impl.size") w=.ok (304,Pn b) w:=by kernel_rfl
def uo (b w):Sem.run prog (method 525 256 (Pn b) "loop.example/s01311/impl.size") w=.ok (309,Pn b) w:=by kernel_rfl
def uC (b w):Sem.run prog (method 525 248 (Pn b) "loop.example/s01311/impl.conflict") w=.ok (302,Pn b) w:=by kernel_rfl
def sQ (b w):Sem.run prog (method 525 256 (Pn b) "loop.example/s01311/impl.conflict") w=.ok (307,Pn b) w:=by kernel_rfl
structure Gh(adr:F->Addr) (fs:List F) (D:DataW Unit):Prop where
 cA:∀t:Int,Maps.has D (.int .i64 t)=true↔∃f∈fs,f.tag=t
 at_:∀f∈fs,∀zd,D.atKey (.int .i64 f.tag) zd=.lit (.int .i64 ((adr f).block:Int))
def NE(t):WideAt.IsKeyLit (.int .i64 t):=trivial
def Gh.put{adr adr' fs D f b}(h:Gh adr fs D)(c:IsMap D)(O:∀g∈fs,adr' g=adr g)(i:adr' f=⟨b,0,none⟩)(d:∀g∈fs,g.tag≠f.tag):Gh adr' (fs++[f]) (D.put (.int .i64 f.tag) (.lit (.int .i64 (b:Int)))):=by
 refine⟨λt=>?_,λg a j=>?_⟩
 .by_cases e:t=f.tag
  .subst e;rw[has_put_same c (NE _)];exact⟨λ_=>⟨f,qe,rfl⟩,λ_=>rfl⟩
  rw[has_put_other (λq=>e (by injection q)),h.cA];constructor
  .rintro⟨g,a,q⟩;exact⟨g,by simp[a],q⟩
  rintro⟨g,a,q⟩;rcases yr.1 a with a|a
  .exact⟨g,a,q⟩
  rw[yv.1 a]at q;exact absurd q.ai e
 rcases yr.1 a with a|a
 .rw[atKey_put_other (λq=>d g a (by injection q)),h.at_ g a,O g a]
 rw[yv.1 a,atKey_put_same c (NE _),i]
def Gh.del{adr U fs D f}(h:Gh adr fs D)(i:Bm adr U)(O:∀g∈fs,g∈U)(d:f∈fs)(j:∀g∈fs,∀k∈fs,g.tag=k.tag->g=k):Gh adr (fs.filter λg=>!decide (adr g=adr f)) (D.del (.int .i64 f.tag)):=by
 have key:∀g∈fs,(g.tag=f.tag↔adr g=adr f):=λg a=>⟨λq=>by rw[j g a f d q],λq=>by rw[i g (O g a) f (O f d) q]⟩
 refine⟨λt=>?_,λg a l=>?_⟩
 .by_cases e:t=f.tag
  .subst e;rw[has_del_same];refine⟨λq=>Np,?_⟩;rintro⟨g,a,q⟩;obtain⟨b,c⟩:=yg.1 a;simp[(key g b).1 q]at c
  rw[has_del_other (λq=>e (by injection q)),h.cA];constructor
  .rintro⟨g,a,q⟩;exact⟨g,yg.2 ⟨a,by simpa usingλr=>e (by rw[<-q];exact(key g a).2 r)⟩,q⟩
  rintro⟨g,a,q⟩;exact⟨g,(yg.1 a).1,q⟩
 obtain⟨b,c⟩:=yg.1 a;rw[atKey_del_other (λq=>by injection q with _ q;simp[(key g b).1 q]at c),h.at_ g b]
structure NT where
 nw:Nat
 gb:Nat
 mb:Nat
 base:Nat
 la:Option Addr
 lc:Nat
 L:List FP
 bs:List Nat
 fb:Nat
 ma:Option Addr
 mc:Nat
 Ms:List MK
 B:Nat
structure FH(N:NT):Prop where
 ok:∀m∈N.Ms,m.Ok
 apart:∀(i j:Nat)(m m':MK),N.Ms[i]?=some m->N.Ms[j]?=some m'->i≠j->∀g,m.S g->¬m'.S g
 co:∀m∈N.Ms,¬m.S N.fb
 cf:∀x∈N.L,x.1.ah.length<=1048576
 len:N.L.length<=1000
 cg:N.Ms.length<=1000
 dk:∀m∈N.Ms,∀g,m.S g->N.base<=g
 dP:N.base<=N.fb
structure DV(N:NT) (adr:F->Addr) (U fs:List F) (V:List Value) (w:World):Prop where
 box:w.heap[N.nw]?=some (.cells #[.pointer (some ⟨N.gb,0,none⟩),.map (some N.fb),.slice N.ma N.Ms.length N.mc] 159 (0,0))
 nf:NF w N.base N.gb N.mb N.la N.lc N.L N.bs V (λ_=>Eg adr fs)
 row:w.ownsRow N.B 165 1 (.slice N.ma N.Ms.length N.mc) N.Ms.length (N.Ms.map MK.val)
 pd:∀m∈N.Ms,∃cc va vc Vs,PD w N.B m.ca cc va vc m.X Vs (N.L.map Prod.fst) N.bs
 us:Hd adr U w
 hb:N.base<=w.heap.size
structure Gi(adr:F->Addr) (U fs:List F):Prop where
 inj:Bm adr U
 sub:∀f∈fs,f∈U
 nd:fs.Nodup
 few:fs.length<=900
def NT.vw(N:NT)(V:List Value)(fs:List F):Vw:=Hh N.L N.bs V fs
def Ch(N:NT)(adr:F->Addr)(U:List F)(vw:Vw)(g:Nat->Cx->List F)(olds:List (List Kt))(w:World):Prop:=∀(i:Nat)(m:MK)(old:List Kt),N.Ms[i]?=some m->olds[i]?=some old->m.St adr U vw (g i) old w
def DV.pre{N adr U fs V w}(h:DV N adr U fs V w)(a:Gi adr U fs){m}(d:m∈N.Ms):GP m adr U (N.vw V fs) w/\(∀c∈m.X,gV (N.vw V fs) c=fs.filter (Ae c.cp.aq))/\EB U m.X (gV (N.vw V fs)):=by
 obtain⟨cc,g,j,i,f⟩:=h.pd m d;obtain⟨e,b⟩:=f.pre h.nf h.us.facts a.sub;exact⟨e,b,fM b a.sub a.nd a.few⟩
end
section
attribute [local go_sem ↓] wp_at_zero wp_at_succ
def zJ{f}:∀{l:List MK}{k:Nat},(∀m∈l, -1<=f m/\f m<=1000000000)->l.length<=1000 -> -1000<=((l.take k).map f).sum/\((l.take k).map f).sum<=1000000000000:=by
 have key:∀(l:List MK),(∀m∈l, -1<=f m/\f m<=1000000000) -> -(l.length:Int)<=(l.map f).sum/\(l.map f).sum<=1000000000*(l.length:Int):=λl=>by
  induction l with
  |nil=>intro _;simp
  |cons m l O=>
   intro h;have d:=h m qe;have b:=O (λx a=>h x (by simp[a]));simp only[yn,YN,yH,Kk,Int.mul_add];omega
 intro l k h hl;have d:=key (l.take k) (λm c=>h m (Wa c));have b:(l.take k).length<=1000:=yi qg hl;omega
def n_{P:Prop}(h:P:=by
 go_roundw
 case rel=>exact⟨k+1,by go_num,by omega,by rw[HE.o],trivial⟩
 case measure=>(simp[intOf];omega)
 ):P:=h
set_option maxHeartbeats 3200000 in
def ve(N)(g:FH N)(adr U fs V a w)(h:DV N adr U fs V w)(hF:Gi adr U fs)(B:Ch N adr U (N.vw V fs) (λ_=>gV (N.vw V fs)) a w)(E:a.length=N.Ms.length)(H:∀m∈N.Ms,((Fs (N.vw V fs) m.X [[]]).map List.length).sum<=1000000000 /\ -1<=m.sz (N.vw V fs)/\m.sz (N.vw V fs)<=1000000000) :
  Ca 47 #[.pointer (some ⟨N.nw,0,none⟩)] w λe w'=>e=.returned (.int .i64 ((N.Ms.map (MK.sz (N.vw V fs))).sum))/\w'=w:=by
 obtain⟨r,x,HM,q,W,G⟩:=Hl h hF B H E g;have J:=AF (L:=[_,_,_]) h.box (j:=2) rfl;obtain⟨A,i⟩:∃A,A=N.ma:=⟨_,rfl⟩
 rw[<-i]at J;have I:=Aa i;clear i;have av:=g.cg;clear h hF B H E g;go_enter func47,ntmps47;go_wp2_with fail
 go_loopw [3,11] (λam iv wr=>∃k:Nat,iv=.int .i64 (k:Int)/\k<=N.Ms.length/\am=.int .i64 (((N.Ms.take k).map (MK.sz (N.vw V fs))).sum)/\wr=w) (λ_ iv _=>N.Ms.length-(intOf iv).toNat)
 case atStart=>exact⟨0,rfl,yA _,qe,rfl⟩
 case round=>
  obtain⟨k,rfl,ar,rfl,rfl⟩:=hrel;by_cases v:k<N.Ms.length
  .obtain⟨m,b⟩:=AJ v;obtain⟨old,s⟩:∃o,a[k]?=some o:=⟨a[k]'(by rw[W.o];exact v),qe⟩
   have Y:=yd b;obtain⟨rb,C,_,D,_⟩:=CC r.o.row (show(N.Ms.map MK.val)[k]?=some m.val by rw[yx,b];rfl);obtain⟨M,T,y⟩:=r.o.pre x.o Y;have d:=Aa (zj m adr U (N.vw V fs) old wr (HM.o k m old b s) (G.o.ok m Y) x.o.inj y (q.o m Y).1);have O:((N.Ms.take (k+1)).map (MK.sz (N.vw V fs))).sum=((N.Ms.take k).map (MK.sz (N.vw V fs))).sum+m.sz (N.vw V fs):=by
    rw[yY,b];simp
   have p:=(zJ (f:=MK.sz (N.vw V fs)) (l:=N.Ms) (k:=k) (λm b=>(q.o m b).2) G.o.cg)
   have K:=(q.o m Y).2;have au:=Aa O;obtain⟨S,hS⟩:∃S,S=((N.Ms.take k).map (MK.sz (N.vw V fs))).sum:=⟨_,rfl⟩
   obtain⟨z,n⟩:∃z,z=m.sz (N.vw V fs):=⟨_,rfl⟩
   have HE:Hid (((N.Ms.take (k+1)).map (MK.sz (N.vw V fs))).sum=S+z):=by rw[hS,n];exact O
   rw[<-hS]at p⊢;rw[<-n]at K d;have z0:(0:Int)<=(k:Int):=qd;have z1:(k:Int)<(N.Ms.length:Int):=qd;have ak:=I.o.j C;subst ak;clear hS n O b s Y M T y C;have aq:IntKind.i64.wrap (S+z)=S+z:=by
    exact Nc
   cases m with
   |inl Z=>
    obtain⟨R,c⟩:=Z;simp only[MK.val,MK.cU,MK.ptr]at d D;have q1:=λu=>u7 R.rb u;go_wp2_with (first|(go_at_call 304;refine d.o.ac ?_;rintro e w2 ⟨rfl,rfl⟩)|fail);exact n_
   |inr t=>
    simp only[MK.val,MK.cU,MK.ptr]at d D;have q1:=λu=>uo t.mb u;go_wp2_with (first|(go_at_call 309;refine d.o.ac ?_;rintro e w2 ⟨rfl,rfl⟩)|fail);exact n_
  obtain rfl:k=N.Ms.length:=qd;have hy:¬(N.Ms.length:Int)<(N.Ms.length:Int):=qd;rw[yW];go_wp2_with fail;exact bodyPost_ret (by simp[results,results47,go_sem]) rfl ⟨rfl,rfl⟩
end
section
open Go.Maps
def Rn{w w' base e m v n xs}(h:w.ownsRow base e m v n xs)(b:CK w w'):w'.ownsRow base e m v n xs:=BZ h λk O=>by
 obtain⟨c,a⟩:=A8 h O;rw[b _ _ _ _ a,a]
def NF.ck{w w' base g mb j e L f V QQ}(h:NF w base g mb j e L f V QQ)(a:CK w w'):NF w' base g mb j e L f V QQ:=
 ⟨a _ _ _ _ h.box,Rn h.row a,h.bk,h.ba,λi x b v c d hv=>by
  obtain⟨n,l,k,m⟩:=h.node i x b v c d hv
  exact⟨a _ _ _ _ n,l,k,Rn m a⟩,λx c=>⟨(h.aX x c).1,Rn (h.aX x c).2 a⟩,h.apart⟩
def DV.ck{N adr U fs V w w'}(h:DV N adr U fs V w)(a:CK w w')(e:w.heap.size<=w'.heap.size):DV N adr U fs V w':=
 ⟨a _ _ _ _ h.box,h.nf.ck a,Rn h.row a,λm g=>by
  obtain⟨cc,d,i,f,j⟩:=h.pd m g
  exact⟨cc,d,i,f,j.aD λk c t l b _=>a _ _ _ _ b⟩,h.us.ck a,yi h.hb e⟩
structure DB(N:NT) (w w':World):Prop where
 rest:Below 0 w w'
 kept:∀(k:Nat)(c:Array Value)(t:TypeId)(fr:Nat × Nat),w.heap[k]?=some (.cells c t fr)->t≠247->t≠106->w'.heap[k]?=some (.cells c t fr)
 maps:∀(k:Nat)(o:Obj),w.heap[k]?=some o->(∀c t fr,o≠.cells c t fr)->k≠N.fb->(∀m∈N.Ms,¬m.S k)->w'.heap[k]?=some o
 low:∀b,b<=N.base->b<=w.heap.size->Below b w w'
def DB.j{N u v w}(h:DB N u v)(k:DB N v w):DB N u w:=⟨h.rest.j k.rest,λj c t f hj d a=>k.kept j c t f (h.kept j c t f hj d a) d a,λj o hj e d a=>k.maps j o (h.maps j o hj e d a) e d a,λb d a=>(h.low b d a).j (k.low b d (yi a h.rest.size))⟩
def DB.cV{N w w'}(h:DF N.base w w'):DB N w w':=⟨h.rest.ac (yA _),h.kept,λk o c a _ _=>h.maps k o c a,λ_ b _=>h.rest.ac b⟩
def DB.aS{N S w w'}(i:FH N)(l:CK w w')(a:Av S w w')(f:∀g,S g->g=N.fb∨∃m∈N.Ms,m.S g):DB N w w':=⟨a.rest,λk c t p d _ _=>l k c t p d,λk o d _ r n=>(a.block k (ym.1 d).1 (λq=>by
 rcases f k q with e|⟨m,O,e⟩
 .exact r e
 .exact n m O e)).j d,λb u s=>⟨a.rest.os,a.rest.tape,a.rest.output,a.rest.size,λk Y=>a.block k qd (λq=>by
 rcases f k q with e|⟨m,O,e⟩
 .have:=i.dP;omega
 have:=i.dk m O k e;omega)⟩⟩
def CK.az{w w' b}(d:w.grownBy w' (some b))(f:∀c t a,w.heap[b]?≠some (.cells c t a)):CK w w':=λg c t a h=>(d.block g (As h) (λe=>by injection e with e;exact f c t a (e▸h))).j h
def Av.az{w w' b}(a:w.grownBy w' (some b)):Av (λg=>g=b) w w':=⟨⟨a.os,a.tape,a.output,a.size,λ_ h=>absurd h qd⟩,λg hl c=>a.block g hl (λe=>c Lu)⟩
def kz{w:World}{k b n D}(h:w.ownsMap prog k Bx b n D):∀c t a,w.heap[b]?≠some (.cells c t a):=λc t a e=>by
 obtain⟨es,f,d⟩:=IK h;rw[d]at e;cases e
def Ch.keep{N adr U vw g a S w w'}(h:Ch N adr U vw g a w)(d:CK w w')(f:Av S w w')(c:∀m∈N.Ms,∀x,m.S x->¬S x):Ch N adr U vw g a w':=λi m old b e=>(h i m old b e).keep d f (c m (yd b))
def zb{adr adr' fs}(h:∀f∈fs,adr' f=adr f):Eg adr' fs=Eg adr fs:=Yn λf a=>by
 unfold pV;rw[h f a]
def ou{P:Prop}(h:P:=by obtain⟨cc,va,vc,Vs,hp⟩:=h.pd m hm;exact⟨cc,va,vc,Vs,hp.aD λk c t fr hg ht=>O.kept _ _ _ _ hg (by rcases ht with rfl|rfl|rfl<;>decide) (by rcases ht with rfl|rfl|rfl<;>decide)⟩):P:=h
def DV.bO{N adr adr' U fs V b f w w'}(h:DV N adr U fs V w)(O:DF N.base w w')(Y:NF w' N.base N.gb N.mb N.la N.lc N.L N.bs b (λ_=>Eg adr fs++[(.pointer (some (adr' f)),f)]))(a:∀g∈U,adr' g=adr g)(i:∀g∈fs,g∈U)(e:CG w (adr' f) f):DV N adr' (U++[f]) (fs++[f]) b w':=by
 have d:Eg adr fs++[(.pointer (some (adr' f)),f)]=Eg adr' (fs++[f]):=by
  unfold Eg;rw[yJ];congr 1;exact(zb (λg hg=>a g (i g hg))).ai
 rw[d]at Y;refine⟨O.kept _ _ _ _ h.box qh qh,Y,O.own h.row qh qh,λm hm=>?_,λg hg=>?_,yi h.hb O.rest.size⟩
 .exact ou
 rcases yr.1 hg with hg|hg
 .rw[a g hg];exact(h.us g hg).ft O
 rw[yv.1 hg];exact e.ft O
def DV.gone{N adr U fs a V b w w'}(h:DV N adr U fs V w)(O:DF N.base w w')(Y:NF w' N.base N.gb N.mb N.la N.lc N.L N.bs b (λ_=>Eg adr a)):DV N adr U a b w':=by
 refine⟨O.kept _ _ _ _ h.box qh qh,Y,O.own h.row qh qh,λm hm=>?_,h.us.ft O,yi h.hb O.rest.size⟩;exact ou
def Gi.bO{adr adr' U fs f}(h:Gi adr U fs)(d:Bm adr' (U++[f]))(j:f ∉ U)(hl:fs.length<900):Gi adr' (U++[f]) (fs++[f]):=
 ⟨d,λg c=>by
  rcases yr.1 c with c|c
  .exact Wb _ (h.sub g c)
  exact YA _ c,yP.2 ⟨h.nd,qe,λa O b i e=>j (by rw[<-yv.1 i,<-e];exact h.sub a O)⟩,qg⟩
def Gi.gone{adr U fs p}(h:Gi adr U fs):Gi adr U (fs.filter p):=
 ⟨h.inj,λg a=>h.sub g (yg.1 a).1,h.nd.sublist YH,yi (Yd _ _) h.few⟩
def Ch.bm{N adr adr' U O fs b V e a w w'}(h:Ch N adr U (N.vw V fs) (λ_=>gV (N.vw V fs)) a w)(l:FH N)(p:DV N adr U fs V w)(hF:Gi adr U fs)(d:DV N adr' O b e w')(Y:Gi adr' O b)(j:∀g∈U,adr' g=adr g)(o:DF N.base w w'):Ch N adr' O (N.vw e b) (λ_=>gV (N.vw V fs)) a w':=λi m old f n=>by
 have c:=yd f;exact(h i m old f n).bm (l.ok m c) j (p.pre hF c).2.2 (d.pre Y c).1 o.k
end
end Go.Proofs.YtikojfajahnhgaaGreat
