import Derived.Test.YtikojfajahnhgaaGreatKai
import Derived.Test.YtikojfajahnhgaaGreatKak
set_option linter.all false
namespace Go.Proofs.YtikojfajahnhgaaGreat
attribute [local simp] At I6 Pn mzI
attribute [local go_sem] At I6 Pn
open Go.Proofs.Tryz
def BG(s:ByteArray):Bool:=s.toList.isEmpty
def Cc(v:V):Bool:=v.u==0&&(v.num==0&&BG v.J)
def Md(t:Tm):Bool:=(BG t.A&&Bf t.val)||(Aq t.A.data.toList&&Cc t.val)
def CY(t:Tm):Bool:=
 if t.u==0 then t.op==0&&(BG t.A&&Cc t.val)
 else if t.u==1 then t.op==0&&(BG t.A&&Bf t.val)
 else if t.u==2 then t.op==0&&(Aq t.A.data.toList&&Cc t.val)
 else if t.u==3 then decide (1<=t.op)&&(decide (t.op<=6)&&Md t)
 else false
def Q_:ByteArray:=⟨#[110,111,116]⟩
def DH(s:ByteArray):Bool:=Aq s.data.toList&&!(decide (s=Q_))
def C_(p:Pt):Bool:=DH p.z&&(decide (p.e.length<=6)&&p.e.all CY)
def Dc{α:Type}(f:α->Bool):List α->Nat->Option Nat
 |[],_=>none
 |x::r,k=>if f x then Dc f r (k+1) else some k
abbrev Sp:=Nat × Nat
def Di(op:Int):Bool:=op==43||(op==45||(op==42||(op==47||op==37)))
def CM(e:Ex):Bool:=e.op==0&&(e.a==0&&e.b==0)
def GZ(S:List Sp)(a b:Int):Option Sp:=
 match S[b.toNat]?,S[a.toNat]? with
 |some sb,some sa=>if decide (a=(sb.1:Int)-1)&&decide (1+max sa.2 sb.2<=20) then some (sa.1,1+max sa.2 sb.2) else none
 |_,_=>none
def CC(S:List Sp)(e:Ex):Bool:=Di e.op&&(BG e.A&&(Cc e.val&&(decide (e.b=(S.length:Int)-1)&&(decide (0<=e.b)&&decide (0<=e.a)))))
def Bl(S:List Sp)(e:Ex):Option Sp:=
 if e.u==0 then(if CM e&&(BG e.A&&Bf e.val) then some (S.length,0) else none)
 else if e.u==1 then(if CM e&&(Aq e.A.data.toList&&Cc e.val) then some (S.length,0) else none)
 else if e.u==2 then(if CC S e then GZ S e.a e.b else none)
 else none
def BD:List Sp->List Ex->List Sp
 |S,[]=>S
 |S,e::r=>match Bl S e with
  |none=>S
  |some s=>BD (S++[s]) r
def DR(S:List Sp):List Int->Nat->Option Nat
 |[],nx=>some nx
 |x::r,nx=>if decide (0<=x)&&(decide (x<(S.length:Int))&&decide ((S[x.toNat]?.getD (0,0)).1=nx)) then DR S r (x.toNat+1) else none
def Mv(k:Int):Bool:=decide (-1000000<=k)&&decide (k<=1000000)
def Dv(a:Ac):Bool:=
 if a.u==1 then DH a.z&&a.k==0
 else if a.u==2 then(BG a.z&&Mv a.k)&&a.args.isEmpty
 else if a.u==3 then BG a.z&&Mv a.k
 else if a.u==4 then BG a.z&&(a.k==0&&a.args.isEmpty)
 else false
def BO(S:List Sp)(a:Ac)(nx:Nat):Option Nat:=if Dv a&&decide (a.args.length<=6) then DR S a.args nx else none
def FP(S:List Sp):List Ac->Nat->Nat->Option Nat
 |[],nx,k=>if nx=S.length then none else some k
 |a::r,nx,k=>match BO S a nx with
  |none=>some k
  |some nx'=>FP S r nx' (k+1)
def Id(r:Ru):Bool:=Aq r.name.data.toList&&(decide (r.v.length<=6)&&(decide (r.E.length<=8)&&decide (r.w.length<=60)))
def Am(r:Ru):Option Nat:=
 if Id r then
  match Dc C_ r.v 1 with
  |some i=>some i
  |none=>if(BD [] r.w).length<r.w.length then some ((BD [] r.w).length+1) else FP (BD [] r.w) r.E 0 1
 else some 0
def FW(p:Pt):Bool:=!p.neg
def Ad(ps:List Pt):Nat:=ps.countP FW
def Bu(s:ByteArray)(l:List ByteArray):Bool:=l.any λx=>decide (x=s)
def Dm(t:Tm):Bool:=t.u==3&&!BG t.A
def Cq:List Tm->List ByteArray->Option (List ByteArray)
 |[],here=>some here
 |t::r,here=>if Dm t&&!Bu t.A here then none else Cq r (if t.u==2 then here++[t.A] else here)
def Ee:List Pt->List ByteArray->Nat->Nat ⊕ List ByteArray
 |[],known,_=>.inr known
 |p::r,known,k=>match Cq p.e known with
  |none=>.inl k
  |some here=>Ee r (if p.neg then known else here) (k+1)
def D_(known:List ByteArray)(e:Ex):Bool:=!(e.u==1)||Bu e.A known
def I9(a:Ac):Nat:=match a.args.getLast? with|none=>0|some l=>l.toNat+1
def FJ(es:List Ex)(known:List ByteArray)(a:Ac):Bool:=a.args.isEmpty||(es.take (I9 a)).all (D_ known)
def AY(r:Ru):Option Nat:=
 match Ee r.v [] 1 with
 |.inl i=>some i
 |.inr known=>Dc (FJ r.w known) r.E (r.v.length+1)
def DF(most:Nat)(a:Ac):Bool:=!((a.u==2||a.u==3)&&!(decide (1<=a.k)&&decide (a.k<=(most:Int))))
def Ch(r:Ru):Option Nat:=Dc (DF (Ad r.v)) r.E (r.v.length+1)
def A_(pre:List Ru)(r:Ru):Int × Int:=
 match Am r with
 |some i=>(1,i)
 | none=>if pre.any (λo=>decide (o.name=r.name)) then (2,0)
  else if 1<=Ad r.v/\Ad r.v<=3 then
   match AY r with
   |some i=>(4,i)
   |none=>match Ch r with
    |some i=>(5,i)
    |none=>(0,0)
  else(3,0)
def EJ:List Ru->List Ru->Nat->Int × Int × Int
 |_,[],_=>(0,0,0)
 |pre,r::s,k=>if(A_ pre r).1=0 then EJ (pre++[r]) s (k+1) else((A_ pre r).1,k,(A_ pre r).2)
def A8(rs:List Ru):Int × Int × Int:=if rs.length<=16 then EJ [] rs 0 else(1,0,0)
def AU(es:List Ex)(S:List Sp):Prop:=S.length<=es.length/\∀(i:Nat)(s:Sp)(e:Ex),S[i]?=some s->es[i]?=some e->Bl (S.take i) e=some s
def AU.nil(es):AU es []:=⟨yk _,λi s e h=>by simp at h⟩
def AU.snoc{es S e s}(h:AU es S)(b:es[S.length]?=some e)(j:Bl S e=some s):AU es (S++[s]):=by
 refine⟨by have:=(ye.1 b).1;simp;omega,λi c d a O=>?_⟩;by_cases f:i<S.length
 .rw[yr f]at a;rw[Kw qd];exact h.2 i c d a O
 have g:i<(S++[s]).length:=(ye.1 a).1;simp at g;obtain rfl:i=S.length:=qd;simp at a;subst a;rw[b]at O;injection O with O;subst O;rw[Kw AH,yV];exact j
def TA{es}:∀{l:List Ex}{S:List Sp},AU es S->es.drop S.length=l->AU es (BD S l)/\S.length<=(BD S l).length
 |[],S,h,_=>⟨h,yu _⟩
 |e::r,S,h,hd=>by
  have a:es[S.length]?=some e:=by
   have:=WW (xs:=es) (i:=S.length) (j:=0);rw[hd]at this;simpa using this.y
  unfold BD;split
  .exact⟨h,yu _⟩
  rename_i s b;have O:es.drop (S++[s]).length=r:=by
   rw[yP,<-List.drop_drop,hd];rfl
  have:=TA (h.snoc a b) O;exact⟨this.1,by have:=this.2;simp at this;omega⟩
def AU.op{es S}(h:AU es S){i}{s:Sp}{e}(k:S[i]?=some s)(m:es[i]?=some e)(o:e.u=2) :
  ∃(a b:Nat)(sa sb:Sp),e.a=(a:Int)/\e.b=(b:Int)/\b+1=i/\a<b+1/\S[a]?=some sa/\S[b]?=some sb/\s=(sa.1,1+max sa.2 sb.2):=by
 have:=h.2 i s e k m;unfold Bl at this;simp only[o]at this;rw[if_neg qh,if_neg qh,if_pos qh]at this;split at this
 .rename_i l;simp only[CC,yi,decide_eq_true_eq]at l;obtain⟨_,_,_,n,j,p⟩:=l;have q:i<S.length:=(ye.1 k).1;have c:(S.take i).length=i:=by simp;omega
  rw[c]at n;obtain⟨b,d⟩:=Yf j;obtain⟨a,O⟩:=Yf p;unfold GZ at this;rw[d,O]at this;simp only[YG]at this;split at this
  .rename_i sb sa f g;rw[YC]at f g;split at f
   .split at g
    .split at this
     .injection this with this;exact⟨a,b,sa,sb,O,d,qd,qd,g,f,this.y⟩
     cases this
    .cases g
   cases f
  .cases this
 cases this
def AU.bB{es S}(h:AU es S){i}{s:Sp}{e}(b:S[i]?=some s)(c:es[i]?=some e)(hk:e.u≠2):s=(i,0):=by
 have:=h.2 i s e b c;have d:i<S.length:=(ye.1 b).1;have a:(S.take i).length=i:=by simp;omega
 unfold Bl at this;have O:(e.u==2)=false:=OW;rw[O,a]at this;split at this
 .split at this
  .injection this with this;exact this.y
  cases this
 split at this
 .split at this
  .injection this with this;exact this.y
  cases this
 simp at this
def AU.aJ{es S}(h:AU es S)(i:Nat)(s)(a:S[i]?=some s):s.2<=20:=by
 have f:i<S.length:=(ye.1 a).1;have O:=h.1;obtain⟨e,b⟩:∃e,es[i]?=some e:=⟨es[i]'(by omega),qe⟩
 by_cases d:e.u=2
 .have:=h.2 i s e a b;unfold Bl at this;simp only[d]at this;rw[if_neg qh,if_neg qh,if_pos qh]at this;split at this
  .unfold GZ at this;split at this
   .split at this
    .rename_i c;injection this with this;simp only[yi,decide_eq_true_eq]at c;rw[<-this];exact c.2
    cases this
   .cases this
  cases this
 rw[h.bB a b d];exact yk _
def AU.aZ{es S}(h:AU es S):∀(i:Nat)(s:Sp),S[i]?=some s->s.1<=i:=by
 intro i
 induction i using Nat.strongRecOn with
 |_ i ih=>
  intro s c;have O:i<S.length:=(ye.1 c).1;have m:=h.1;obtain⟨e,d⟩:∃e,es[i]?=some e:=⟨es[i]'(by omega),qe⟩
  by_cases f:e.u=2
  .obtain⟨a,b,sa,sb,_,_,l,j,g,k,rfl⟩:=h.op c d f;have:=ih a qd sa g;simp;omega
  rw[h.bB c d f];exact yu _
end Go.Proofs.YtikojfajahnhgaaGreat
