import Derived.Test.YtikojfajahnhgaaGreatKae
set_option linter.all false
namespace Go.Proofs.YtikojfajahnhgaaGreat
attribute [local simp] At I6 Pn mzI
attribute [local go_sem] At I6 Pn
open Go.RowKit Go.Proofs.Tryz
attribute [local go_sem ↓] wp_at_zero wp_at_succ
def XV{P:Prop}(h:P:=by
 refine bodyPost_ret (v:=.tuple #[.agg #[I6 0,I6 0],.bool false]) (by simp[results,results274,go_sem]) rfl ⟨⟨0,0,by rw[HN.o];rfl,λs h=>(by rw[HN.o]at h;cases h)⟩,?_⟩
 repeat first|exact Ax|refine Fo ?_|refine WM ?_ (by first|(simp;done)|(simp;omega)) _
 ):P:=h
def Ta{P:Prop}(h:P:=by go_enter func274,ntmps274;go_wp2;exact XV):P:=h
def Tb{P:Prop}(h:P:=by
 go_enter func274,ntmps274;go_wp2_with (go_at_call 278;refine(Xq e.op O Y _).ac ?_;rintro e' w' ⟨rfl,rfl⟩)
 go_quiet (fail)
 go_wp2;exact XV
 ):P:=h
set_option maxHeartbeats 1600000 in
def zhy(e a c S){q}(w)(hv:Gv q w a S)(hl:S.length<=60)(g:e.kind=2)(O:0<=e.op)(Y:e.op<256)(hd:∀(i:Nat)(s:Sp),S[i]?=some s->s.1<=i/\s.2<=20) :
  Ca 274 #[.agg #[I6 e.kind,.int .u8 e.op,.string e.var,I6 e.val.kind,I6 e.val.num,.string e.val.av,I6 e.a,I6 e.b],.slice a S.length c] w λr w'=>
   (∃f d:Int,r=.returned (.tuple #[.agg #[I6 f,I6 d],.bool (Bv S e).isSome])/\∀s,Bv S e=some s->f=(s.1:Int)/\d=(s.2:Int))/\Bw w w':=by
 by_cases A:e.var.toList=[]
 .by_cases H:e.val.kind=0
  .by_cases C:e.val.num=0
   .by_cases z:e.val.av.toList=[]
    .cases D:DY e.op
     .have HN:Hid (Bv S e=none):=show Bv S e=none from by simp[Lg g,CN,D]
      go_enter func274,ntmps274;go_wp2_with (go_at_call 278;refine(Xq e.op O Y _).ac ?_;rintro e' w' ⟨rfl,rfl⟩);exact XV
     have y:Hid (CN S e=(decide (e.b=(S.length:Int)-1)&&(decide (0<=e.b)&&decide (0<=e.a)))):=show CN S e=_ from by simp[CN,D,BT,A,Cr,H,C,z]
     by_cases N:e.b<0
     .have HN:Hid (Bv S e=none):=show Bv S e=none from by rw[Lg g,y.o,decide_eq_false (p:=0<=e.b) qd];simp
      have R:decide (e.b<0)=true:=decide_eq_true N;exact Tb
     have R:decide (e.b<0)=false:=decide_eq_false N;cases B:(e.b != (S.length:Int)-1)
     case true=>
      have HN:Hid (Bv S e=none):=show Bv S e=none from by rw[Lg g,y.o,decide_eq_false (p:=e.b=(S.length:Int)-1) (by simp at B;omega)];simp
      exact Tb
     case false=>
      have E:Hid (e.b=(S.length:Int)-1):=show e.b=(S.length:Int)-1 from by(simp at B;omega)
      by_cases T:e.a<0
      .have HN:Hid (Bv S e=none):=show Bv S e=none from by rw[Lg g,y.o,decide_eq_false (p:=0<=e.a) qd];simp
       have M:decide (e.a<0)=true:=decide_eq_true T;exact Tb
      have M:decide (e.a<0)=false:=decide_eq_false T;have av:=E.o;obtain⟨k,u⟩:=Ym (show 0<=e.b by omega);obtain⟨j,x⟩:=Ym (show 0<=e.a by omega);have au:k+1=S.length:=qd;clear av;obtain⟨sb,l⟩:∃s,S[k]?=some s:=⟨S[k]'(by omega),qe⟩
      obtain⟨az,ar⟩:=hd k sb l;obtain⟨b,o,rfl,ax,c0,c1⟩:=hv.get l;have K:Hid (Bv S e=Ia S (j:Int) (k:Int)):=show Bv S e=_ from by
       rw[Lg g,y.o,decide_eq_true E.o,decide_eq_true (p:=0<=e.b) qd,decide_eq_true (p:=0<=e.a) qd,x,u];rfl
      clear E;rw[u]at R B;rw[x]at M;have z3:(k:Int)<(S.length:Int):=qd;have z4:(0:Int)<=(k:Int):=qd;cases L:((j:Int) != (sb.1:Int)-1)
      case true=>
       have HN:Hid (Bv S e=none):=show Bv S e=none from by
        rw[K.o];unfold Ia;simp only[YK,l];split
        .rename_i I h2;injection I with I;subst I;rw[decide_eq_false (by simp at L;omega)];simp
        rfl
       rw[u,x];exact Tb
      case false=>
       have Z:j+1=sb.1:=by(simp at L;omega)
       obtain⟨sa,t⟩:∃s,S[j]?=some s:=⟨S[j]'(by omega),qe⟩
       obtain⟨ay,W⟩:=hd j sa t;obtain⟨b',o',J,aw,c2,c3⟩:=hv.get t;injection J with J;injection J with n m _;subst n m;have U:Hid (Bv S e=if 1+max sa.2 sb.2<=20 then some (sa.1,1+max sa.2 sb.2) else none):=show Bv S e=_ from by
        rw[K.o];unfold Ia;simp only[YK,l,t];rw[decide_eq_true (p:=(j:Int)=(sb.1:Int)-1) qd];simp
       refine(zin e (some ⟨b,o,none⟩) c S w hv hl g O Y A H C z D j k sa sb x u t l au Z ar W).ac ?_;rintro r w' ⟨rfl,G⟩;refine⟨⟨(sa.1:Int),((1+max sa.2 sb.2:Nat):Int),?_,?_⟩,G⟩
       .rw[U.o];by_cases aq:1+max sa.2 sb.2<=20<;>simp[aq]
       intro s h;rw[U.o]at h;exact XM
    have HN:Hid (Bv S e=none):=show Bv S e=none from by simp[Lg g,CN,Cr,BT,z]
    exact Ta
   have HN:Hid (Bv S e=none):=show Bv S e=none from by simp[Lg g,CN,Cr,C]
   exact Ta
  have HN:Hid (Bv S e=none):=show Bv S e=none from by simp[Lg g,CN,Cr,H]
  exact Ta
 have HN:Hid (Bv S e=none):=show Bv S e=none from by simp[Lg g,CN,BT,A]
 exact Ta
end Go.Proofs.YtikojfajahnhgaaGreat
