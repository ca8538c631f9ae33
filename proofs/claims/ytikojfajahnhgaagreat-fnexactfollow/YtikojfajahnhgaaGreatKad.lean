import Derived.Test.YtikojfajahnhgaaGreatKab
set_option linter.all false
set_option maxHeartbeats 800000
set_option maxRecDepth 100000
namespace Go.Proofs.YtikojfajahnhgaaGreat
attribute [local simp] At I6 Pn mzI
attribute [local go_sem] At I6 Pn
open Go.RowKit Go.Proofs.Tryz
variable{P:Prop}
attribute [local go_sem ↓] wp_at_zero wp_at_succ
def zgN(t w)(d:t.le maxLen) :
  Ca 273 #[.agg #[I6 t.kind,I6 t.op,.string t.var,I6 t.val.kind,I6 t.val.num,.string t.val.av]] w λe w'=>
   e=.returned (.bool (OD t))/\Bw w w':=by
 obtain⟨a,O⟩:=d;obtain⟨G⟩:Nonempty (Hid (OD t=((t.var.toList.isEmpty&&Bu t.val)||(Aw t.var.data.toList&&Cr t.val)))):=⟨rfl⟩
 cases h1:t.var.toList.isEmpty
 .cases b:Aw t.var.data.toList
  .go_enter func273,ntmps273;go_wp2_with (go_at_call 197;refine(IX t.var _ a).ac ?_;rintro e w' ⟨rfl,rfl⟩);go_ret;exact⟨AE (by rw[G.o,h1,b];rfl),Af⟩
  go_enter func273,ntmps273;go_wp2_with (go_at_call 197;refine(IX t.var _ a).ac ?_;rintro e w' ⟨rfl,rfl⟩)
  all_goals go_ret
  all_goals exact⟨AE (by rw[G.o,h1,b];simp[Cr,BT, *]),Af⟩
 have b:Aw t.var.data.toList=false:=SD (by
  have:t.var.toList=[]:=qt;rw[<-Kg,this];rfl)
 go_enter func273,ntmps273;go_wp2_with (go_at_call 256;refine(ST t.val _ O).an λw' c=>?_);go_ret;exact⟨AE (by rw[G.o,h1,b];simp),Af.aj c⟩
def lC:QM.toList=[110,111,116]:=by rw[Kg];rfl
def SV(s w)(b:s.size<=maxLen) :
  Ca 248 #[.string s] w λe w'=>e=.returned (.bool (DN s))/\w'=w:=by
 cases a:Aw s.data.toList
 all_goals
  go_enter func248,ntmps248;go_wp2_with (go_at_call 197;refine(IX s _ b).ac ?_;rintro e w' ⟨rfl,rfl⟩);go_ret
 .exact⟨AE (by simp[DN,a]),rfl⟩
 exact⟨AE (by rw[DN,a,<-EV,lC];rfl),rfl⟩
def mq(h:P:=by go_enter func249,ntmps249;go_wp2;go_ret;exact⟨AE (by simp[Dt,BT, *]),Af⟩):=h
def XN(h:P:=by go_enter func249,ntmps249;go_wp2;go_ret;exact⟨AE (by rw[O.o]),Af⟩):=h
def Tj(h:P:=by go_enter func249,ntmps249;go_wp2;go_ret;exact⟨AE (by simp[Dt,Cr,BT, *]),Af⟩):=h
def zkB(t w)(d:t.le maxLen) :
  Ca 249 #[.agg #[I6 t.kind,I6 t.op,.string t.var,I6 t.val.kind,I6 t.val.num,.string t.val.av]] w λe w'=>
   e=.returned (.bool (Dt t))/\Bw w w':=by
 have n:=d;obtain⟨c,i⟩:=d;by_cases k:t.kind=0
 .go_enter func249,ntmps249;go_wp2
  all_goals go_ret
  all_goals exact⟨AE (by simp[Dt,Cr,BT, *]),Af⟩
 by_cases m:t.kind=1
 .by_cases l:t.op=0
  .by_cases r:t.var.toList=[]
   .go_enter func249,ntmps249;go_wp2_with (go_at_call 256;refine(ST t.val _ i).an λw' a=>?_);go_ret;exact⟨AE (by simp[Dt,BT, *]),Af.aj a⟩
   exact mq
  exact mq
 by_cases j:t.kind=2
 .by_cases l:t.op=0
  .by_cases s:t.val.kind=0
   .by_cases p:t.val.num=0
    .by_cases q:t.val.av.toList=[]
     .go_enter func249,ntmps249;go_wp2_with (go_at_call 197;refine(IX t.var _ c).ac ?_;rintro e w' ⟨rfl,rfl⟩);go_ret;exact⟨AE (by simp[Dt,Cr,BT, *]),Af⟩
     exact Tj
    exact Tj
   exact Tj
  exact Tj
 by_cases b:t.kind=3
 .by_cases f:1<=t.op
  .by_cases g:t.op<=6
   .have O:Hid (Dt t=OD t):=show Dt t=OD t from by simp[Dt,b,f,g]
    have Y:=λw=>zgN t w n;simp only[b]at Y;go_enter func249,ntmps249;go_wp2_with (go_at_call 273;refine(Y _).an λw' a=>?_);go_ret;exact⟨AE O.o.ai,Af.aj a⟩
   have O:Hid (Dt t=false):=show Dt t=false from by simp[Dt,b,g]
   exact XN
  have O:Hid (Dt t=false):=show Dt t=false from by simp[Dt,b,f]
  exact XN
 have O:Hid (Dt t=false):=show Dt t=false from by simp[Dt,k,m,j,b]
 exact XN
def pL(h:P:=by
 obtain⟨G⟩:Nonempty (Hid (Dc x=(DN x.ak&&(decide (x.aa.length<=6)&&x.aa.all Dt)))):=⟨rfl⟩
 cases hg:DN x.ak
 .first
   | (have _:=tP
      go_enter func198,ntmps198;go_wp2_with (go_at_call 248;refine(SV x.ak _ hc).ac ?_;rintro e w' ⟨rfl,rfl⟩))
   | (go_enter func233,ntmps233
      go_wp2_with (go_at_call 265;refine(Ln x.ak _ hc).ac ?_;rintro e w' ⟨rfl,rfl⟩))
  go_ret;exact⟨AE (by rw[G.o,hg];rfl),Af⟩
 by_cases h6:6<x.aa.length
 .have ai:(6:Int)<(x.aa.length:Int):=by omega
  first
   | (have _:=tP
      go_enter func198,ntmps198;go_wp2_with (go_at_call 248;refine(SV x.ak _ hc).ac ?_;rintro e w' ⟨rfl,rfl⟩))
   | (go_enter func233,ntmps233
      go_wp2_with (go_at_call 265;refine(Ln x.ak _ hc).ac ?_;rintro e w' ⟨rfl,rfl⟩))
  go_ret;exact⟨AE (by rw[G.o,hg,decide_eq_false (by omega)];rfl),Af⟩
 .have ai:¬(6:Int)<(x.aa.length:Int):=by omega
  first
   | (have _:=tP
      go_enter func198,ntmps198;go_wp2_with (go_at_call 248;refine(SV x.ak _ hc).ac ?_;rintro e w' ⟨rfl,rfl⟩))
   | (go_enter func233,ntmps233
      go_wp2_with (go_at_call 265;refine(Ln x.ak _ hc).ac ?_;rintro e w' ⟨rfl,rfl⟩))
  go_loopw [18] (λi wr=>∃(k:Nat),k<=x.aa.length/\i=I6 k/\Dc x=(x.aa.drop k).all Dt/\Bw w wr) (mz x.aa.length)
  case atStart=>exact⟨0,by omega,rfl,by rw[G.o,hg,decide_eq_true (by omega)];rfl,Af⟩
  case round=>
   obtain⟨k,hk,rfl,hG,hb⟩:=hrel;have HG:Hid (Dc x=(x.aa.drop k).all Dt):=hG;clear hG;by_cases ah:k<x.aa.length
   .obtain⟨t,O⟩:=AJ ah;obtain⟨b,o,rfl,hq,c0,c1,c2,c3,c4,c5⟩:=(hv.J hb).get O;have Y:=hs.2 t (yd O);have HD:Hid (x.aa.drop k=t::x.aa.drop (k+1)):=Ck O;have B1:∀o,Bw w (wr.alloc o):=λo=>hb.alloc hb.size _;cases af:Dt t
    first
     | (have _:=tP
        all_goals
          go_wp2_with (go_at_call 249;refine(zkB t _ Y).an λw' hb'=>?_))
     |(all_goals
          go_wp2_with (go_at_call 266;refine(ziv t _ Y).an λw' hb'=>?_))
    .go_ret;exact⟨AE (by rw[HG.o,HD.o,Y3,af];rfl),(B1 _).j (hb'.ac (B1 _).size)⟩
    go_roundw
    case rel=>exact⟨k+1,by omega,by go_num,by rw[HG.o,HD.o,Y3,af];rfl,(B1 _).j (hb'.ac (B1 _).size)⟩
    case measure=>(simp;omega)
   exact Qv
 ):=h
def lh(x a c){q}(w)(hv:CJ q w a x.aa)(hc:x.ak.size<=maxLen)(hs:CP Tm.le maxLen x.aa)(hl:x.aa.length<=1048576) :
  Ca 198 #[.agg #[.bool x.neg,.string x.ak,.slice a x.aa.length c]] w λe w'=>
   e=.returned (.bool (Dc x))/\Bw w w':=by
 have tP:=trivial;exact pL
end Go.Proofs.YtikojfajahnhgaaGreat
