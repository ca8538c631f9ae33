import Derived.Test.YtikojfajahnhgaaGreatKao
import Derived.Test.YtikojfajahnhgaaGreatKam
set_option linter.all false
namespace Go.Proofs.YtikojfajahnhgaaGreat
attribute [local simp] At I6 Pn mzI
attribute [local go_sem] At I6 Pn
open Go.Proofs.Tryz
def gG{v o}:Mn v o=true↔v=o:=by
 unfold Mn;constructor
 .intro h;simp only[yk,beq_iff_eq,decide_eq_true_eq]at h;exact V.cK h.1 h.2.1 h.2.2
 rintro rfl;simp
def Vh(v o):A2 1 v o=decide (v=o):=by
 have:A2 1 v o=Mn v o:=by simp[A2]
 rw[this];by_cases h:v=o
 .rw[decide_eq_true h];exact gG.2 h
 rw[decide_eq_false h];cases a:Mn v o
 .rfl
 exact absurd (gG.1 a) h
def DR(T:List F)(vs:List Vr)(ts:List Tm)(f:F)(i:Nat)(t:Tm):Bool:=
 (match EF ts i t with|none=>true|some u=>EG u f.ad)&&(match Co vs ts i t with|none=>true|some u=>Aq T f u)
def zdG{ts i t}(h:ts[i]?=some t)(a:t.kind≠2)(name):Ai ts (i+1) name=Ai ts i name:=by
 rw[Mc h,if_neg (λe=>a (Ie.1 e).1)];cases Ai ts i name<;>rfl
def VH{b ts a i t v}(h:ts[i]?=some t)(hv:a[i]?=some v)(c:t.kind≠2):Cl b ts a (i+1)=Cl b ts a i:=by
 rw[Sj h hv,if_neg (λe=>c e.1),yM]
def lg{a}{i:Nat}{v b val}(h:a[i]?=some v):EG ⟨(i:Int),b, -1,val⟩ a=A2 b v val:=by simp_all[GM,V,EG,A2]
def kX{a}{i j:Nat}{v u b val}(h:a[i]?=some v)(hj:a[j]?=some u):EG ⟨(i:Int),b,(j:Int),val⟩ a=A2 b v u:=by simp_all[GM,V,EG,A2]
def jd{T f i v a x}(h:f.ad[i]?=some v):Aq T f ⟨i,a,x.fact,x.slot⟩=A2 a v (GU T x):=by
 unfold Aq GU;simp only[h];rfl
def LY{s:ByteArray}:s.toList.isEmpty=true↔s=⟨#[]⟩:=by
 constructor
 .intro h;have a:(s.toList==(⟨#[]⟩:ByteArray).toList)=true:=by rw[List.isEmpty_iff.1 h,QT];rfl
  rw[EV]at a;simpa using a
 rintro rfl;rw[QT];rfl
section
variable {T : List F} {vs : List Vr} {f : F} {ts : List Tm} {i : Nat} {t : Tm} {v : V}
def jA(hl:ts.length=f.ad.length)(a:i<=ts.length)(name:ByteArray):CU (AG T vs++Cl (AG T vs) ts f.ad i) name=(match CU (AG T vs) name with|some x=>some x|none=>(Ai ts i name).bind (λj=>f.ad[j]?)):=by
 rw[Xb];cases h:CU (AG T vs) name with
 |some x=>rfl
 |none=>exact kr hl h i a
def Fl(T:List F)(vs:List Vr)(ts:List Tm)(f:F)(i:Nat):Prop:=∀name x j,CU (AG T vs) name=some x->Ai ts i name=some j->f.ad[j]?=some x
def xm(hk:t.kind=0)(O:t.var=⟨#[]⟩)(ht:ts[i]?=some t)(hv:f.ad[i]?=some v)(b:BA vs ⟨#[]⟩=none)(Y:Fl T vs ts f i) :
  Df (AG T vs++Cl (AG T vs) ts f.ad i) t v=(if DR T vs ts f i t=true then some (AG T vs++Cl (AG T vs) ts f.ad (i+1)) else none)/\(DR T vs ts f i t=true->Fl T vs ts f (i+1)):=by
 have e:EF ts i t=none:=by unfold EF;rw[if_pos Jq]
 have a:Co vs ts i t=none:=by unfold Co;rw[O,b]
 have c:DR T vs ts f i t=true:=by unfold DR;rw[e,a];rfl
 rw[if_pos c,VH ht hv qd];refine⟨?_,λ_ name x j d hj=>Y name x j d Zg⟩;unfold Df;rw[if_neg qd,if_neg qd,if_neg qd]
def za(hk:t.kind=1)(O:t.var=⟨#[]⟩)(ht:ts[i]?=some t)(hv:f.ad[i]?=some v)(b:BA vs ⟨#[]⟩=none)(Y:Fl T vs ts f i) :
  Df (AG T vs++Cl (AG T vs) ts f.ad i) t v=(if DR T vs ts f i t=true then some (AG T vs++Cl (AG T vs) ts f.ad (i+1)) else none)/\(DR T vs ts f i t=true->Fl T vs ts f (i+1)):=by
 have e:EF ts i t=some ⟨(i:Int),1, -1,t.val⟩:=by
  unfold EF BH;rw[if_neg Jq,if_pos (LY.2 O),if_neg Jq]
 have a:Co vs ts i t=none:=by unfold Co;rw[O,b]
 have c:DR T vs ts f i t=decide (v=t.val):=by unfold DR;rw[e,a];simp only[lg hv,Vh,KG]
 rw[c,VH ht hv qd];refine⟨?_,λ_ name x j d hj=>Y name x j d Zg⟩;unfold Df;rw[if_pos hk];by_cases h:v=t.val
 .rw[if_pos h,if_pos (decide_eq_true h)]
 rw[if_neg h,if_neg qq]
def m9{P:Prop}(h:P:=by rw[yK hj]at this;injection this with this;simp[this]):P:=h
def zp2(hk:t.kind=3)(hl:ts.length=f.ad.length)(ht:ts[i]?=some t)(hv:f.ad[i]?=some v)(l:BA vs ⟨#[]⟩=none)(o:t.var≠⟨#[]⟩->BA vs t.var≠none∨Ai ts i t.var≠none)(g:Fl T vs ts f i) :
  Df (AG T vs++Cl (AG T vs) ts f.ad i) t v=(if DR T vs ts f i t=true then some (AG T vs++Cl (AG T vs) ts f.ad (i+1)) else none)/\(DR T vs ts f i t=true->Fl T vs ts f (i+1)):=by
 have n:i<ts.length:=(yf.1 ht).1;rw[VH ht hv qd];refine⟨?_,λ_ name x j k hj=>g name x j k Zg⟩;unfold Df;rw[if_neg qd,if_neg qd,if_pos hk];by_cases O:t.var=⟨#[]⟩
 .have e:EF ts i t=some ⟨(i:Int),t.op, -1,t.val⟩:=by
   unfold EF BH;rw[if_neg Jq,if_pos (LY.2 O),if_pos Jq]
  have c:Co vs ts i t=none:=by unfold Co;rw[O,l]
  have b:DR T vs ts f i t=A2 t.op v t.val:=by unfold DR;rw[e,c];simp only[lg hv,KG]
  rw[b,if_pos O]
 have d:¬t.var.toList.isEmpty=true:=λh=>O (LY.1 h);rw[if_neg O,jA hl (K9 n),OC];cases a:Ai ts i t.var with
 |some j=>
  have hj:j<f.ad.length:=by
   have:=Qh a;simp at this;omega
  have e:EF ts i t=some ⟨(i:Int),t.op,(j:Int),Jm⟩:=by
   unfold EF BH;rw[if_neg Jq,if_neg d,a];simp[hk]
  have c:Co vs ts i t=none:=by
   unfold Co;cases BA vs t.var with
   |none=>rfl
   |some x=>simp only[a]
  have b:DR T vs ts f i t=A2 t.op v f.ad[j]:=by unfold DR;rw[e,c];simp only[kX hv (yK hj),KG]
  have m:((match (BA vs t.var).map (GU T) with|some x=>some x|none=>(some j).bind (λj=>f.ad[j]?)).getD Nb)=f.ad[j]:=by
   cases Y:BA vs t.var with
   |none=>simp[hj]
   |some x=>
    have:=g t.var (GU T x) j (by rw[OC,Y];rfl) a;exact m9
  rw[b,m]
 |none=>
  cases Y:BA vs t.var with
  |none=>rcases o O with h|h;exact absurd Y h;exact absurd a h
  |some x=>
   have e:EF ts i t=none:=by
    unfold EF;rw[if_neg Jq,if_neg d,a]
   have c:Co vs ts i t=some ⟨i,t.op,x.fact,x.slot⟩:=by
    unfold Co BH;rw[Y];simp only[a];simp[hk]
   have b:DR T vs ts f i t=A2 t.op v (GU T x):=by unfold DR;rw[e,c];simp only[jd hv,YP]
   rw[b];rfl
def ww(hk:t.kind=2)(z:t.var≠⟨#[]⟩)(hl:ts.length=f.ad.length)(p:ts[i]?=some t)(hv:f.ad[i]?=some v)(q:Fl T vs ts f i) :
  Df (AG T vs++Cl (AG T vs) ts f.ad i) t v=(if DR T vs ts f i t=true then some (AG T vs++Cl (AG T vs) ts f.ad (i+1)) else none)/\(DR T vs ts f i t=true->Fl T vs ts f (i+1)):=by
 have C:i<ts.length:=(yf.1 p).1;have k:¬t.var.toList.isEmpty=true:=λh=>z (LY.1 h);have w:BH t=1:=by unfold BH;rw[if_neg Jq]
 have B:∀out,Df out t v=(match CU out t.var with|some old=>if old=v then some out else none|none=>some (out++[⟨t.var,v⟩])):=by
  intro out;unfold Df;rw[if_neg qd,if_pos hk];cases CU out t.var<;>rfl
 rw[B,jA hl (K9 C),Sj p hv];cases b:Ai ts i t.var with
 |some j=>
  have hj:j<f.ad.length:=by
   have:=Qh b;simp at this;omega
  have r:EF ts i t=some ⟨(i:Int),1,(j:Int),Jm⟩:=by
   unfold EF;rw[if_neg Jq,if_neg k,b,w]
  have o:Co vs ts i t=none:=by
   unfold Co;cases BA vs t.var with
   |none=>rfl
   |some x=>simp only[b]
  have l:DR T vs ts f i t=decide (v=f.ad[j]):=by unfold DR;rw[r,o];simp only[kX hv (yK hj),Vh,KG]
  have A:(match CU (AG T vs) t.var with|some x=>some x|none=>(some j).bind (λj=>f.ad[j]?))=some f.ad[j]:=by
   cases d:CU (AG T vs) t.var with
   |none=>simp[hj]
   |some x=>
    have:=q t.var x j d b;exact m9
  rw[A,l,if_neg (c:=t.kind=2/\_) (λe=>by cases e.2.2),yM];refine⟨?_,λ_ name x u a O=>?_⟩
  .by_cases h:v=f.ad[j]
   .simp[h]
   show(if f.ad[j]=v then _ else _)=_;rw[if_neg (λe=>h e.ai),if_neg qq]
  .rw[Mc p]at O;cases Y:Ai ts i name with
   |some g=>rw[Y]at O;injection O with O;subst O;exact q name x g a Y
   |none=>
    rw[Y]at O;simp only at O;split at O
    .rename_i n;rw[(Ie.1 n).2]at b;rw[b]at Y;cases Y
    .cases O
 |none=>
  have r:EF ts i t=none:=by
   unfold EF;rw[if_neg Jq,if_neg k,b]
  cases d:BA vs t.var with
  |none=>
   have m:CU (AG T vs) t.var=none:=by rw[OC,d];rfl
   have o:Co vs ts i t=none:=by unfold Co;rw[d]
   have l:DR T vs ts f i t=true:=by unfold DR;rw[r,o];rfl
   rw[m,l,if_pos rfl,if_pos ⟨hk,rfl,rfl⟩];refine⟨qe,λ_ name x u a O=>?_⟩;rw[Mc p]at O;cases Y:Ai ts i name with
   |some g=>rw[Y]at O;injection O with O;subst O;exact q name x g a Y
   |none=>
    rw[Y]at O;simp only at O;split at O
    .rename_i n;rw[<-(Ie.1 n).2,m]at a;cases a
    .cases O
  |some x=>
   have m:CU (AG T vs) t.var=some (GU T x):=by rw[OC,d];rfl
   have o:Co vs ts i t=some ⟨i,1,x.fact,x.slot⟩:=by
    unfold Co;rw[d];simp only[b,w]
   have l:DR T vs ts f i t=decide (v=GU T x):=by unfold DR;rw[r,o];simp only[jd hv,Vh,YP]
   rw[m,l,if_neg (c:=t.kind=2/\_) (λe=>by cases e.2.1),yM];refine⟨?_,λs name y u a O=>?_⟩
   .by_cases h:v=GU T x
    .simp[h]
    show(if GU T x=v then _ else _)=_;rw[if_neg (λe=>h e.ai),if_neg qq]
   rw[Mc p]at O;cases Y:Ai ts i name with
   |some g=>rw[Y]at O;injection O with O;subst O;exact q name y g a Y
   |none=>
    rw[Y]at O;simp only at O;split at O
    .rename_i n;injection O with O;subst O;rw[<-(Ie.1 n).2,m]at a;injection a with a;rw[hv,of_decide_eq_true s,a]
    cases O
end
section
variable {T : List F} {vs : List Vr} {f : F} {ts : List Tm}
def Jj(T:List F)(vs:List Vr)(ts:List Tm)(f:F):Nat->Bool
 |0=>true
 |i+1=>Jj T vs ts f i&&(match ts[i]? with|none=>true|some t=>DR T vs ts f i t)
def lJ{i t}(h:ts[i]?=some t):Jj T vs ts f (i+1)=(Jj T vs ts f i&&DR T vs ts f i t):=by simp[Jj,h]
def lT{i}:∀n,i<=n->Jj T vs ts f n=true->Jj T vs ts f i=true
 |0,h,hn=>by
  have:i=0:=qd
  subst this
  exact hn
 |n+1,h,hn=>by
  by_cases a:i=n+1
  .subst a;exact hn
  simp only[Jj,yk]at hn
  exact lT n qd hn.1
def jZ:∀n,Jj T vs ts f n=((BN ts n).all (λt=>EG t f.ad)&&(Ct vs ts n).all (Aq T f))
 |0=>rfl
 |n+1=>by
  simp only[Jj,BN,Ct,KU]
  rw[jZ n]
  cases ts[n]? with
  |none=>simp
  |some t=>
   simp only[DR]
   cases EF ts n t<;>cases Co vs ts n t<;>simp[Bool.and_assoc,Bool.and_left_comm,Bool.and_comm]
def iF{s:ByteArray}(h:Aw s.data.toList=true):s≠⟨#[]⟩:=by
 rintro rfl;revert h
 decide
def vS{i t v}(a:Dt t=true)(hl:ts.length=f.ad.length)(b:ts[i]?=some t)(hv:f.ad[i]?=some v)(c:BA vs ⟨#[]⟩=none)(d:t.kind=3->t.var≠⟨#[]⟩->BA vs t.var≠none∨Ai ts i t.var≠none)(O:Fl T vs ts f i) :
  Df (AG T vs++Cl (AG T vs) ts f.ad i) t v=(if DR T vs ts f i t=true then some (AG T vs++Cl (AG T vs) ts f.ad (i+1)) else none)/\(DR T vs ts f i t=true->Fl T vs ts f (i+1)):=by
 unfold Dt at a;by_cases Y:t.kind=0
 .rw[if_pos qU]at a;simp only[yk]at a;exact xm Y (LY.1 a.2.1) b hv c O
 rw[if_neg qU]at a;by_cases h1:t.kind=1
 .rw[if_pos qt]at a;simp only[yk]at a;exact za h1 (LY.1 a.2.1) b hv c O
 rw[if_neg qt]at a;by_cases h2:t.kind=2
 .rw[if_pos qv]at a;simp only[yk]at a;exact ww h2 (iF a.2.1) hl b hv O
 rw[if_neg qv]at a;by_cases h3:t.kind=3
 .exact zp2 h3 hl b hv c (d h3) O
 rw[if_neg Nt]at a;cases a
def gv(c:∀t∈ts,Dt t=true)(hl:ts.length=f.ad.length)(e:BA vs ⟨#[]⟩=none)(g:∀i t,ts[i]?=some t->t.kind=3->t.var≠⟨#[]⟩->BA vs t.var≠none∨Ai ts i t.var≠none):∀(d i:Nat),i+d=ts.length->Jj T vs ts f i=true->Fl T vs ts f i ->
  DZ (AG T vs++Cl (AG T vs) ts f.ad i) (ts.drop i) (f.ad.drop i)=(if Jj T vs ts f ts.length=true then some (AG T vs++Cl (AG T vs) ts f.ad ts.length) else none)
 |0,i,hi,hok,_=>by
  have:i=ts.length:=qd
  subst this
  rw[if_pos hok,yD AA]
  rfl
 |d+1,i,hi,hok,hf=>by
  obtain⟨t,a⟩:∃t,ts[i]?=some t:=⟨ts[i],qe⟩
  obtain⟨v,hv⟩:∃v,f.ad[i]?=some v:=⟨f.ad[i],qe⟩
  obtain⟨l,j⟩:=vS (T:=T) (c t (yd a)) hl a hv e (g i t a) hf
  rw[Ck a,Ck hv,Sg,l]
  by_cases b:DR T vs ts f i t=true
  .rw[if_pos b]
   exact gv c hl e g d (i+1) qd (by rw[lJ a,hok,b];rfl) (j b)
  rw[if_neg b,if_neg (λk=>b (by have:=lT (i:=i+1) ts.length qd k;rw[lJ a,hok]at this;simpa using this))]
def uO{p}(b:Dc p=true)(l:BA vs ⟨#[]⟩=none)(m:∀i t,p.aa[i]?=some t->t.kind=3->t.var≠⟨#[]⟩->BA vs t.var≠none∨Ai p.aa i t.var≠none) :
  Bk p f (AG T vs)=(if(Ae (C0 p) f&&(Ct vs p.aa p.aa.length).all (Aq T f))=true then some (AG T vs++Cl (AG T vs) p.aa f.ad p.aa.length) else none):=by
 have c:C0 p=⟨p.ak,(p.aa.length:Int),BN p.aa p.aa.length⟩:=if_pos b;have O:∀t∈p.aa,Dt t=true:=by
  unfold Dc at b;simp only[yk]at b;exact YX.1 b.2.2
 unfold Bk;rw[c];by_cases a:p.ak=f.ak/\p.aa.length=f.ad.length
 .have d:Ae ⟨p.ak,(p.aa.length:Int),BN p.aa p.aa.length⟩ f=(BN p.aa p.aa.length).all (λt=>EG t f.ad):=by
   unfold Ae;rw[decide_eq_true (by rw[a.1]),decide_eq_true qg];simp
  rw[if_pos a,d,<-jZ];have:=gv (T:=T) O a.2 l m p.aa.length 0 qd rfl (λname x j _ h=>by simp[Ai,Gz]at h);simpa[Cl] using this
 rw[if_neg a];have d:Ae ⟨p.ak,(p.aa.length:Int),BN p.aa p.aa.length⟩ f=false:=by
  unfold Ae;by_cases k:p.ak=f.ak
  .rw[decide_eq_false (p:=(f.ad.length:Int)=_) (by simp;intro e;exact a ⟨k,qd⟩)];simp
  rw[decide_eq_false (p:=f.ak.toList=_) (by
   intro e;have g:(f.ak.toList==p.ak.toList)=true:=by simpa using e
   rw[EV]at g;exact k (by simpa using(Eq.ai (by simpa using g:f.ak=p.ak))))]
  rfl
 rw[d];rfl
end
def li(s:ByteArray)(b:List Vr):∀a:List Vr,BA (a++b) s=(match BA a s with|some x=>some x|none=>BA b s)
 |[]=>rfl
 |x::r=>by
  rw[Ye,P7,P7]
  by_cases h:x.name=s
  .rw[if_pos h,if_pos h]
  rw[if_neg h,if_neg h];exact li s b r
section
variable {T : List F} {vs : List Vr} {f : F} {ts : List Tm} {n : Nat}
def ON(name):∀i,i<=ts.length->((BA (CI vs ts n i) name=none)↔(BA vs name=none/\Ai ts i name=none))
 |0,_=>by simp[CI,Ai,Gz]
 |i+1,hi=>by
  obtain⟨t,g⟩:∃t,ts[i]?=some t:=⟨ts[i],qe⟩
  have O:=ON name i qd
  have Y:(BA (CI vs ts n i) t.var=none)↔(BA vs t.var=none/\Ai ts i t.var=none):=ON t.var i qd
  rw[SZ g,Mc g]
  by_cases h:t.kind=2/\BA (CI vs ts n i) t.var=none
  .rw[if_pos h,li]
   cases d:BA (CI vs ts n i) name with
   |some x=>
    have l:¬(BA vs name=none/\Ai ts i name=none):=λe=>by rw[O.2 e]at d;cases d
    constructor
    .intro e;cases e
    .rintro⟨k,f⟩
     exfalso
     apply l
     refine⟨k,?_⟩
     cases c:Ai ts i name with
     |none=>rfl
     |some j=>rw[c]at f;cases f
   |none=>
    obtain⟨b,a⟩:=O.1 d
    rw[a]
    by_cases hv:t.var=name
    .rw[if_pos (Ie.2 ⟨h.1,hv⟩)]
     simp[BA,hv]
    rw[if_neg (λe=>hv (Ie.1 e).2)]
    simp[BA,hv,b]
  rw[if_neg h,O]
  constructor
  .rintro⟨b,a⟩
   refine⟨b,?_⟩
   rw[a]
   refine if_neg (λe=>h ?_)
   obtain⟨o,m⟩:=Ie.1 e
   subst m
   exact⟨o,Y.2 ⟨b,a⟩⟩
  rintro⟨b,a⟩
  refine⟨b,?_⟩
  cases c:Ai ts i name with
  |none=>rfl
  |some j=>rw[c]at a;cases a
def zm2(T a b):AG T (a++b)=AG T a++AG T b:=by simp[AG]
def jh{name}:(CU (AG T vs) name=none)↔BA vs name=none:=by
 rw[OC];cases BA vs name<;>simp
def xq{i v}(name)(hv:f.ad[i]?=some v):GU (T++[f]) ⟨name,T.length,i⟩=v:=by
 unfold GU;simp[hv]
def zA{x}(a:x.fact<T.length):GU (T++[f]) x=GU T x:=by
 unfold GU;rw[yB a]
def uc(h:∀x∈vs,x.fact<T.length):AG (T++[f]) vs=AG T vs:=by
 unfold AG;exact Yn (λx a=>by rw[zA (h x a)])
def jP(hl:ts.length=f.ad.length)(h:∀x∈vs,x.fact<T.length):∀i,i<=ts.length->AG (T++[f]) (CI vs ts T.length i)=AG T vs++Cl (AG T vs) ts f.ad i
 |0,_=>by simp[CI,Cl,uc h]
 |i+1,hi=>by
  obtain⟨t,c⟩:∃t,ts[i]?=some t:=⟨ts[i],qe⟩
  obtain⟨v,hv⟩:∃v,f.ad[i]?=some v:=⟨f.ad[i],qe⟩
  have O:=jP hl h i qd
  have b:=ON (vs:=vs) (ts:=ts) (n:=T.length) t.var i qd
  rw[SZ c,Sj c hv]
  by_cases a:t.kind=2/\BA (CI vs ts T.length i) t.var=none
  .rw[if_pos a,zm2,O,if_pos ⟨a.1,jh.2 (b.1 a.2).1,(b.1 a.2).2⟩,Yc]
   congr 2
   simp[AG,xq t.var hv]
  rw[if_neg a,O,if_neg (λe=>a ⟨e.1,b.2 ⟨jh.1 e.2.1,e.2.2⟩⟩),yM]
def Qe(h:∀x∈vs,x.fact<n):∀i,∀x∈CI vs ts n i,x.fact<n+1
 |0,x,a=>by have:=h x a;omega
 |i+1,x,a=>by
  simp only[CI]at a
  cases b:ts[i]? with
  |none=>rw[b]at a;exact Qe h i x a
  |some t=>
   rw[b]at a
   simp only at a
   split at a
   .rcases yr.1 a with a|a
    .exact Qe h i x a
    simp at a
    subst a
    simp
   exact Qe h i x a
end
end Go.Proofs.YtikojfajahnhgaaGreat
