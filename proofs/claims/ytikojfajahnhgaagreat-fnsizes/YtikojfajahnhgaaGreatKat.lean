import Derived.Test.YtikojfajahnhgaaGreatKas
set_option linter.all false
namespace Go.Proofs.YtikojfajahnhgaaGreat
attribute [local simp] At I6 Pn mzI
attribute [local go_sem] At I6 Pn
open Go.RowKit Go.Proofs.Tryz
attribute [local go_sem ↓] wp_at_zero wp_at_succ
def ZH{P:Prop}(h:P:=by
 refine bodyPost_ret (v:=.tuple #[.agg #[I6 0,I6 0],.bool false]) (by simp[results,results274,go_sem]) rfl ⟨⟨0,0,by rw[HN.o];rfl,λs h=>(by rw[HN.o]at h;cases h)⟩,?_⟩
 repeat first|exact AX|refine Fk ?_|refine WU ?_ (by first|(simp;done)|(simp;omega)) _
 ):P:=h
def TL{P:Prop}(h:P:=by go_enter func274,ntmps274;go_wp2;exact ZH):P:=h
def TN{P:Prop}(h:P:=by
 go_enter func274,ntmps274;go_wp2_with (go_at_call 278;refine(Zb e.op O af _).j ?_;rintro e' w' ⟨rfl,rfl⟩)
 go_quiet (fail)
 go_wp2;exact ZH
 ):P:=h
set_option maxHeartbeats 1600000 in
def zh4(e a c S){q}(w)(hv:Gs q w a S)(hl:S.length<=60)(g:e.u=2)(O:0<=e.op)(af:e.op<256)(hd:∀(i:Nat)(s:Sp),S[i]?=some s->s.1<=i/\s.2<=20) :
  Ca 274 #[.agg #[I6 e.u,.int .u8 e.op,.string e.A,I6 e.val.u,I6 e.val.num,.string e.val.J,I6 e.a,I6 e.b],.slice a S.length c] w λr w'=>
   (∃f d:Int,r=.returned (.tuple #[.agg #[I6 f,I6 d],.bool (Bl S e).isSome])/\∀s,Bl S e=some s->f=(s.1:Int)/\d=(s.2:Int))/\Bw w w':=by
 by_cases C:e.A.toList=[]
 .by_cases E:e.val.u=0
  .by_cases K:e.val.num=0
   .by_cases M:e.val.J.toList=[]
    .cases L:Di e.op
     .have HN:Hid (Bl S e=none):=show Bl S e=none from by simp[Ld g,CC,L]
      go_enter func274,ntmps274;go_wp2_with (go_at_call 278;refine(Zb e.op O af _).j ?_;rintro e' w' ⟨rfl,rfl⟩);exact ZH
     have x:Hid (CC S e=(decide (e.b=(S.length:Int)-1)&&(decide (0<=e.b)&&decide (0<=e.a)))):=show CC S e=_ from by simp[CC,L,BG,C,Cc,E,K,M]
     by_cases Z:e.b<0
     .have HN:Hid (Bl S e=none):=show Bl S e=none from by rw[Ld g,x.o,decide_eq_false (p:=0<=e.b) qd];simp
      have Y:decide (e.b<0)=true:=decide_eq_true Z;exact TN
     have Y:decide (e.b<0)=false:=decide_eq_false Z;cases D:(e.b != (S.length:Int)-1)
     case true=>
      have HN:Hid (Bl S e=none):=show Bl S e=none from by rw[Ld g,x.o,decide_eq_false (p:=e.b=(S.length:Int)-1) (by simp at D;omega)];simp
      exact TN
     case false=>
      have I:Hid (e.b=(S.length:Int)-1):=show e.b=(S.length:Int)-1 from by(simp at D;omega)
      by_cases T:e.a<0
      .have HN:Hid (Bl S e=none):=show Bl S e=none from by rw[Ld g,x.o,decide_eq_false (p:=0<=e.a) qd];simp
       have d1:decide (e.a<0)=true:=decide_eq_true T;exact TN
      have d1:decide (e.a<0)=false:=decide_eq_false T;have ax:=I.o;obtain⟨l,B⟩:=Yf (show 0<=e.b by omega);obtain⟨k,z⟩:=Yf (show 0<=e.a by omega);have au:l+1=S.length:=qd;clear ax;obtain⟨sb,t⟩:∃s,S[l]?=some s:=⟨S[l]'(by omega),qe⟩
      obtain⟨aA,aq⟩:=hd l sb t;obtain⟨b,o,rfl,az,c0,c1⟩:=hv.get t;have W:Hid (Bl S e=GZ S (k:Int) (l:Int)):=show Bl S e=_ from by
       rw[Ld g,x.o,decide_eq_true I.o,decide_eq_true (p:=0<=e.b) qd,decide_eq_true (p:=0<=e.a) qd,z,B];rfl
      clear I;rw[B]at Y D;rw[z]at d1;have z3:(l:Int)<(S.length:Int):=qd;have z4:(0:Int)<=(l:Int):=qd;cases U:((k:Int) != (sb.1:Int)-1)
      case true=>
       have HN:Hid (Bl S e=none):=show Bl S e=none from by
        rw[W.o];unfold GZ;simp only[YG,t];split
        .rename_i G h2;injection G with G;subst G;rw[decide_eq_false (by simp at U;omega)];simp
        rfl
       rw[B,z];exact TN
      case false=>
       have ha:k+1=sb.1:=by(simp at U;omega)
       obtain⟨sa,y⟩:∃s,S[k]?=some s:=⟨S[k]'(by omega),qe⟩
       obtain⟨aB,ar⟩:=hd k sa y;obtain⟨b',o',N,ay,c2,c3⟩:=hv.get y;injection N with N;injection N with n m _;subst n m;have R:Hid (Bl S e=if 1+max sa.2 sb.2<=20 then some (sa.1,1+max sa.2 sb.2) else none):=show Bl S e=_ from by
        rw[W.o];unfold GZ;simp only[YG,t,y];rw[decide_eq_true (p:=(k:Int)=(sb.1:Int)-1) qd];simp
       refine(zit e (some ⟨b,o,none⟩) c S w hv hl g O af C E K M L k l sa sb z B y t au ha aq ar).j ?_;rintro r w' ⟨rfl,H⟩;refine⟨⟨(sa.1:Int),((1+max sa.2 sb.2:Nat):Int),?_,?_⟩,H⟩
       .rw[R.o];by_cases aw:1+max sa.2 sb.2<=20<;>simp[aw]
       intro s h;rw[R.o]at h;exact Zr
    have HN:Hid (Bl S e=none):=show Bl S e=none from by simp[Ld g,CC,Cc,BG,M]
    exact TL
   have HN:Hid (Bl S e=none):=show Bl S e=none from by simp[Ld g,CC,Cc,K]
   exact TL
  have HN:Hid (Bl S e=none):=show Bl S e=none from by simp[Ld g,CC,Cc,E]
  exact TL
 have HN:Hid (Bl S e=none):=show Bl S e=none from by simp[Ld g,CC,BG,C]
 exact TL
end Go.Proofs.YtikojfajahnhgaaGreat
