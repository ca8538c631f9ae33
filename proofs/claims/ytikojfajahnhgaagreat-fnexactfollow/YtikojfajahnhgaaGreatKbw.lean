import Derived.Test.YtikojfajahnhgaaGreatKbt
import Derived.Test.YtikojfajahnhgaaGreatKbr
set_option linter.all false
namespace Go.Proofs.YtikojfajahnhgaaGreat
attribute [local simp] At I6 Pn mzI
attribute [local go_sem] At I6 Pn
open Go.RowKit Go.Proofs.Tryz
def Cy(X:List Cx):Nat:=(X.filter λc=>!c.cp.neg).length
def Rd(vw B)(j:1<=B):∀(X:List Cx)(TT:List (List F)),(∀c∈X,(gV vw c).length<=B)->((Fs vw X TT).map List.length).sum<=(X.length+1)*(TT.length*B^Cy X)/\(TT.flatMap (BV (X.map (Cv vw)))).length<=TT.length*B^Cy X
 |[],TT,_=>by
  have e:TT.flatMap (BV (([]:List Cx).map (Cv vw)))=TT:=by
   exact Td
  rw[e];simp[Fs,Cy]
 |c::X,TT,h=>by
  rw[Fs,<-PK];have m:=h c qe;cases i:c.cp.neg
  focus
   have O:=Rd vw B j X (TT.flatMap (λT=>((vw c.node).2.2.filter (λf=>c.cp.ah.all (Aq T f))).map (λf=>T++[f]))) (λd hd=>h d I1);have hl:(TT.flatMap (λT=>((vw c.node).2.2.filter (λf=>c.cp.ah.all (Aq T f))).map (λf=>T++[f]))).length<=TT.length*B:=by
    rw[List.length_flatMap];have key:∀l:List (List F),((l.map λT=>(((vw c.node).2.2.filter (λf=>c.cp.ah.all (Aq T f))).map (λf=>T++[f])).length)).sum<=l.length*B:=λl=>by
     induction l with
     |nil=>simp
     |cons T l O=>
      have p:(((vw c.node).2.2.filter (λf=>c.cp.ah.all (Aq T f))).map (λf=>T++[f])).length<=B:=by
       rw[yp];exact yi (Yd _ _) m
      rw[yn,YN,yH,Qp];omega
    exact key TT
   have b:Cy (c::X)=Cy X+1:=by simp[Cy,i]
   rw[if_neg qh];obtain⟨L,g⟩:∃L,L=TT.flatMap (λT=>((vw c.node).2.2.filter (λf=>c.cp.ah.all (Aq T f))).map (λf=>T++[f])):=⟨_,rfl⟩
   rw[<-g]at O hl⊢;have a:L.length*B^Cy X<=TT.length*B^Cy (c::X):=by
    rw[b,Nat.pow_succ,Nat.mul_comm (B^Cy X) B,<-Nat.mul_assoc];exact YQ _ hl
   have k:TT.length<=TT.length*B^Cy (c::X):=Ks _ (Nat.pow_pos qd)
  rotate_left
  focus
   have O:=Rd vw B j X (TT.filter (λT=>decide (nBar c.cp.ah (vw c.node).2.2 T=0))) (λd hd=>h d I1);have hl:(TT.filter (λT=>decide (nBar c.cp.ah (vw c.node).2.2 T=0))).length<=TT.length:=Yd _ _;have b:Cy (c::X)=Cy X:=by simp[Cy,i]
   rw[if_pos rfl];obtain⟨L,g⟩:∃L,L=TT.filter (λT=>decide (nBar c.cp.ah (vw c.node).2.2 T=0)):=⟨_,rfl⟩
   rw[<-g]at O hl⊢;rw[b];have a:L.length*B^Cy X<=TT.length*B^Cy X:=YQ _ hl;have k:TT.length<=TT.length*B^Cy X:=Ks _ (Nat.pow_pos qd)
  rotate_left
  all_goals
   refine⟨?_,yi O.2 a⟩;rw[yn,YN,yH];have n:=Nat.mul_le_mul_left (X.length+1) a;have o:=O.1;rw[Qp (X.length+1) 1,KS];omega
def vR{m:MK}{vw}(j:m.X.length<=6)(g:Cy m.X<=3)(e:∀c∈m.X,(gV vw c).length<=100):((Fs vw m.X [[]]).map List.length).sum<=1000000000 /\ -1<=m.sz vw/\m.sz vw<=1000000000:=by
 obtain⟨d,a⟩:=Rd vw 100 qd m.X [[]] e;have b:100^Cy m.X<=100^3:=WL qd g;simp only[yH,YV,Yt,KS,yE,YO,yM]at d a;have i:(m.X.length+1)*100^Cy m.X<=7*100^3:=Wd qd b;have f:((Fs vw m.X [[]]).map List.length).sum<=7000000:=yi d (yi i qh);refine⟨qd,?_⟩;cases m with
 |inl O=>
  obtain⟨R,c⟩:=O;simp only[MK.sz,N_];simp only[MK.X]at f;omega
 |inr t=>
  simp only[MK.sz];simp only[MK.X]at a b;have j:(BV (t.X.map (Cv vw)) []).length<=1000000:=yi a (yi b qh);omega
def tp{X:List Cx}{r:Ru}(O:X.map Cx.cp=Bz r.af [] 0)(f:Fu r.af [] 0)(g:Ad r.af<=3)(U):D_ (X.map (BM U)) []:=by
 have hl:(X.map (BM U)).length=(Bz r.af [] 0).length:=by
  rw[<-O];simp
 have b:∀(k:Nat)(c:Cn)(d:Cp),(X.map (BM U))[k]?=some c->(Bz r.af [] 0)[k]?=some d->IC U c d:=by
  intro k c d a hd;rw[<-O,yx]at hd;rw[yx]at a;obtain⟨x,e,rfl⟩:=Ya.1 a;rw[e]at hd;cases hd;exact gU U x
 exact VN (fs:=U) r.af [] [] _ f (λv hv=>by simp at hv) qg hl b
def V7:∀(a:List Pt)(vs:List Vr)(n:Nat),((Bz a vs n).filter λd=>!d.neg).length=Ad a/\∀d∈Bz a vs n,d.neg=false->d.at_<n+Ad a
 |[],_,_=>by simp[Bz,Ad]
 |p::a,vs,n=>by
  rw[Qm]
  cases c:p.neg
  .have O:=V7 a (CI vs p.aa n p.aa.length) (n+1)
   have e:Ad (p::a)=Ad a+1:=by simp[Ad,GE,c]
   rw[if_neg qh,e]
   refine⟨by simp[O.1],λd hd b=>?_⟩
   rcases yO.1 hd with rfl|hd
   .show n<_
    omega
   have:=O.2 d hd b
   omega
  have O:=V7 a vs n
  have e:Ad (p::a)=Ad a:=by simp[Ad,GE,c]
  rw[if_pos rfl,e]
  refine⟨by simp[O.1],λd hd b=>?_⟩
  rcases yO.1 hd with rfl|hd
  .cases b
  exact O.2 d hd b
def ux{a r}(h:(Br a r).1=0):1<=Ad r.af:=by
 unfold Br at h;cases b:An r with
 |some i=>rw[b]at h;simp at h
 |none=>
  rw[b]at h;simp only at h;split at h
  .simp at h
  split at h
  .rename_i c;exact c.1
  simp at h
def jk:∀(l b:List Ru)(k:Nat),(FT b l k).1=0->∀r∈l,1<=Ad r.af
 |[],_,_,_,r,a=>by simp at a
 |q::s,b,k,h,r,a=>by
  unfold FT at h
  split at h
  .rename_i O
   rcases yO.1 a with rfl|a
   .exact ux O
   exact jk s _ _ h r a
  rename_i O
  exact absurd h O
def tj{rs}(h:(Bh rs).1=0){r}(a:r∈rs):1<=Ad r.af:=by
 unfold Bh at h;split at h
 .exact jk rs [] 0 h r a
 simp at h
structure NK(X:List Cx):Prop where
 small:∀c∈X,c.cp.ah.length<=6/\c.cp.aq.ah.length<=1048576/\(c.cp.neg=false->c.cp.at_<3)
 sr:∀U,D_ (X.map (BM U)) []
 X6:X.length<=6
 pos:Cy X<=3
 ne:X≠[]
def Rs{rs}(Y:(Bh rs).1=0){r}(f:r∈rs){X}(a:X.map Cx.cp=Bz r.af [] 0):NK X:=by
 obtain⟨q,o,g⟩:=Qf Y f;obtain⟨n,l⟩:=V7 r.af [] 0;have i:∀c∈X,c.cp∈Bz r.af [] 0:=λc b=>by rw[<-a];exact yT b
 have O:Cy X=Ad r.af:=by
  have e:Cy X=((X.map Cx.cp).filter λd=>!d.neg).length:=by
   unfold Cy;rw[Y8,yp];rfl
  rw[e,a,n]
 refine⟨λc b=>?_,tp a (P6 Y f) g,?_,by rw[O];exact g,λe=>?_⟩
 .obtain⟨p,k⟩:=SE r.af [] 0 o c.cp (i c b);refine⟨p,yi k qh,λm=>?_⟩;have:=l c.cp (i c b) m;omega
 .have:=congrArg List.length a;rw[yp,SC]at this;omega
 have j:=tj Y f;rw[<-O,e]at j;simp[Cy]at j
def NK.dS{X}(h:NK X){adr U vw ca}(hv:EB U X (gV vw))(b:Bm adr U):NV X adr U vw ca:=⟨h.small,h.sr U,h.ne,h.X6,hv,b⟩
def JE.all{R U}(h:JE R U)(b:NK R.X)(O):JE R O:=⟨h.len,h.maps,h.ids,h.small,b.sr O⟩
def MK.bg(d:Int):MK->Prop
 |.inl _=>d=0
 |.inr _=>d=1
def Q9(X:List Cx)(adr:F->Addr)(U:List F)(vw:Vw)(ca:Option Addr)(d:Int)(w:World)(e:Ending)(w':World):Prop:=
 ∃m:MK,e=.returned m.val/\m.X=X/\m.ca=ca/\m.Ok/\m.bg d/\m.St adr U vw (gV vw) [] w'/\(∀g,m.S g->w.heap.size<=g)/\Bw w w'
def zk0(X adr U vw ca cc a n f)(b:NK X)(hv:EB U X (gV vw))(g:Bm adr U)(w)(O:∀(k:Nat)(c:Cx),X[k]?=some c->Ed adr vw ca w k c)(Y:Bl adr U w) :
  Ca 92 #[.agg #[.slice ca X.length cc,.slice a n f]] w (Q9 X adr U vw ca 0 w):=by
 refine(zmq X adr U vw ca cc a n f (b.dS hv g) w O Y).ac λe w' q=>?_;obtain⟨R,d,i,m,p,j,o⟩:=q;exact⟨.inl (R,ca),i,d,rfl,λl=>m.all (d▸b) l,rfl,p,j.2.2,o⟩
def zkt(X adr U vw ca cc d n f)(O:NK X)(hv:EB U X (gV vw))(r:Bm adr U)(w)(Y:∀(k:Nat)(c:Cx),X[k]?=some c->Ed adr vw ca w k c)(af:∀c∈X,∃a n,CO w c.node c.cp.aq a n)(z:Bl adr U w) :
  Ca 93 #[.agg #[.slice ca X.length cc,.slice d n f]] w (Q9 X adr U vw ca 1 w):=by
 have p:Fg (⟨adr,U,X,vw,ca,cc,d,n,f,0,0,0,0⟩:TD):=⟨λc b=>⟨(O.small c b).1,(O.small c b).2.1⟩,O.X6,λc b=>yi (hv c b).2.2 qd,λc b x u=>yg.1 ((hv c b).1 x u),O.sr U,r⟩
 refine(zlZ ⟨adr,U,X,vw,ca,cc,d,n,f,0,0,0,0⟩ p w ⟨Y,af,z⟩).ac λe w' q=>?_;obtain⟨mb,cb,nb,wb,A,m,t,y,s⟩:=q;refine⟨.inr ⟨X,ca,cc,d,n,f,mb,cb,nb,wb⟩,A,rfl,rfl,⟨p.small,O.X6,O.sr⟩,rfl,⟨t,y⟩,?_,s⟩;rintro g (rfl|rfl)
 .exact m.2.2.1
 exact m.2.2.2
end Go.Proofs.YtikojfajahnhgaaGreat
