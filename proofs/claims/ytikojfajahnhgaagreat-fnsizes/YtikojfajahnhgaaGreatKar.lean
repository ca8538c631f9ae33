import Derived.Test.YtikojfajahnhgaaGreatKap
import Derived.Test.YtikojfajahnhgaaGreatKan
set_option linter.all false
set_option maxHeartbeats 800000
set_option maxRecDepth 100000
namespace Go.Proofs.YtikojfajahnhgaaGreat
attribute [local simp] At I6 Pn mzI
attribute [local go_sem] At I6 Pn
open Go.RowKit Go.Proofs.Tryz
variable{P:Prop}
attribute [local go_sem ↓] wp_at_zero wp_at_succ
def zgG(t w)(d:t.le maxLen) :
  Ca 273 #[.agg #[I6 t.u,I6 t.op,.string t.A,I6 t.val.u,I6 t.val.num,.string t.val.J]] w λe w'=>
   e=.returned (.bool (Md t))/\Bw w w':=by
 obtain⟨a,O⟩:=d;obtain⟨G⟩:Nonempty (Hid (Md t=((t.A.toList.isEmpty&&Bf t.val)||(Aq t.A.data.toList&&Cc t.val)))):=⟨rfl⟩
 cases h1:t.A.toList.isEmpty
 .cases b:Aq t.A.data.toList
  .go_enter func273,ntmps273;go_wp2_with (go_at_call 197;refine(IM t.A _ a).j ?_;rintro e w' ⟨rfl,rfl⟩);go_ret;exact⟨AL (by rw[G.o,h1,b];rfl),Aj⟩
  go_enter func273,ntmps273;go_wp2_with (go_at_call 197;refine(IM t.A _ a).j ?_;rintro e w' ⟨rfl,rfl⟩)
  all_goals go_ret
  all_goals exact⟨AL (by rw[G.o,h1,b];simp[Cc,BG, *]),Aj⟩
 have b:Aq t.A.data.toList=false:=Te (by
  have:t.A.toList=[]:=qw;rw[<-WP,this];rfl)
 go_enter func273,ntmps273;go_wp2_with (go_at_call 256;refine(Tq t.val _ O).rtn λw' c=>?_);go_ret;exact⟨AL (by rw[G.o,h1,b];simp),Aj.thn c⟩
def lR:Q_.toList=[110,111,116]:=by rw[WP];rfl
def Tx(s w)(b:s.size<=maxLen) :
  Ca 248 #[.string s] w λe w'=>e=.returned (.bool (DH s))/\w'=w:=by
 cases a:Aq s.data.toList
 all_goals
  go_enter func248,ntmps248;go_wp2_with (go_at_call 197;refine(IM s _ b).j ?_;rintro e w' ⟨rfl,rfl⟩);go_ret
 .exact⟨AL (by simp[DH,a]),rfl⟩
 exact⟨AL (by rw[DH,a,<-EZ,lR];rfl),rfl⟩
def oH(h:P:=by go_enter func249,ntmps249;go_wp2;go_ret;exact⟨AL (by simp[CY,BG, *]),Aj⟩):=h
def Zs(h:P:=by go_enter func249,ntmps249;go_wp2;go_ret;exact⟨AL (by rw[O.o]),Aj⟩):=h
def TV(h:P:=by go_enter func249,ntmps249;go_wp2;go_ret;exact⟨AL (by simp[CY,Cc,BG, *]),Aj⟩):=h
def zjs(t w)(i:t.le maxLen) :
  Ca 249 #[.agg #[I6 t.u,I6 t.op,.string t.A,I6 t.val.u,I6 t.val.num,.string t.val.J]] w λe w'=>
   e=.returned (.bool (CY t))/\Bw w w':=by
 have p:=i;obtain⟨c,q⟩:=i;by_cases l:t.u=0
 .go_enter func249,ntmps249;go_wp2
  all_goals go_ret
  all_goals exact⟨AL (by simp[CY,Cc,BG, *]),Aj⟩
 by_cases m:t.u=1
 .by_cases n:t.op=0
  .by_cases r:t.A.toList=[]
   .go_enter func249,ntmps249;go_wp2_with (go_at_call 256;refine(Tq t.val _ q).rtn λw' a=>?_);go_ret;exact⟨AL (by simp[CY,BG, *]),Aj.thn a⟩
   exact oH
  exact oH
 by_cases k:t.u=2
 .by_cases n:t.op=0
  .by_cases v:t.val.u=0
   .by_cases x:t.val.num=0
    .by_cases s:t.val.J.toList=[]
     .go_enter func249,ntmps249;go_wp2_with (go_at_call 197;refine(IM t.A _ c).j ?_;rintro e w' ⟨rfl,rfl⟩);go_ret;exact⟨AL (by simp[CY,Cc,BG, *]),Aj⟩
     exact TV
    exact TV
   exact TV
  exact TV
 by_cases b:t.u=3
 .by_cases d:1<=t.op
  .by_cases f:t.op<=6
   .have O:Hid (CY t=Md t):=show CY t=Md t from by simp[CY,b,d,f]
    have g:=λw=>zgG t w p;simp only[b]at g;go_enter func249,ntmps249;go_wp2_with (go_at_call 273;refine(g _).rtn λw' a=>?_);go_ret;exact⟨AL O.o.y,Aj.thn a⟩
   have O:Hid (CY t=false):=show CY t=false from by simp[CY,b,f]
   exact Zs
  have O:Hid (CY t=false):=show CY t=false from by simp[CY,b,d]
  exact Zs
 have O:Hid (CY t=false):=show CY t=false from by simp[CY,l,m,k,b]
 exact Zs
def rE(h:P:=by
 obtain⟨G⟩:Nonempty (Hid (C_ x=(DH x.z&&(decide (x.e.length<=6)&&x.e.all CY)))):=⟨rfl⟩
 cases hg:DH x.z
 .first
   | (have _:=tP
      go_enter func198,ntmps198;go_wp2_with (go_at_call 248;refine(Tx x.z _ hc).j ?_;rintro e w' ⟨rfl,rfl⟩))
   | (go_enter func233,ntmps233
      go_wp2_with (go_at_call 265;refine(Ln x.z _ hc).j ?_;rintro e w' ⟨rfl,rfl⟩))
  go_ret;exact⟨AL (by rw[G.o,hg];rfl),Aj⟩
 by_cases h6:6<x.e.length
 .have aj:(6:Int)<(x.e.length:Int):=by omega
  first
   | (have _:=tP
      go_enter func198,ntmps198;go_wp2_with (go_at_call 248;refine(Tx x.z _ hc).j ?_;rintro e w' ⟨rfl,rfl⟩))
   | (go_enter func233,ntmps233
      go_wp2_with (go_at_call 265;refine(Ln x.z _ hc).j ?_;rintro e w' ⟨rfl,rfl⟩))
  go_ret;exact⟨AL (by rw[G.o,hg,decide_eq_false (by omega)];rfl),Aj⟩
 .have aj:¬(6:Int)<(x.e.length:Int):=by omega
  first
   | (have _:=tP
      go_enter func198,ntmps198;go_wp2_with (go_at_call 248;refine(Tx x.z _ hc).j ?_;rintro e w' ⟨rfl,rfl⟩))
   | (go_enter func233,ntmps233
      go_wp2_with (go_at_call 265;refine(Ln x.z _ hc).j ?_;rintro e w' ⟨rfl,rfl⟩))
  go_loopw [18] (λi wr=>∃(k:Nat),k<=x.e.length/\i=I6 k/\C_ x=(x.e.drop k).all CY/\Bw w wr) (mz x.e.length)
  case atStart=>exact⟨0,by omega,rfl,by rw[G.o,hg,decide_eq_true (by omega)];rfl,Aj⟩
  case round=>
   obtain⟨k,hk,rfl,hG,hb⟩:=hrel;have HG:Hid (C_ x=(x.e.drop k).all CY):=hG;clear hG;by_cases ai:k<x.e.length
   .obtain⟨t,O⟩:=Ba ai;obtain⟨b,o,rfl,hq,c0,c1,c2,c3,c4,c5⟩:=(hv.d hb).get O;have ah:=hs.2 t (yd O);have HD:Hid (x.e.drop k=t::x.e.drop (k+1)):=CF O;have B1:∀o,Bw w (wr.alloc o):=λo=>hb.alloc hb.size _;cases af:CY t
    first
     | (have _:=tP
        all_goals
          go_wp2_with (go_at_call 249;refine(zjs t _ ah).rtn λw' hb'=>?_))
     | (all_goals
          go_wp2_with (go_at_call 266;refine(ziq t _ ah).rtn λw' hb'=>?_))
    .go_ret;exact⟨AL (by rw[HG.o,HD.o,YP,af];rfl),(B1 _).c (hb'.j (B1 _).size)⟩
    go_roundw
    case rel=>exact⟨k+1,by omega,by go_num,by rw[HG.o,HD.o,YP,af];rfl,(B1 _).c (hb'.j (B1 _).size)⟩
    case measure=>(simp;omega)
   exact QR
 ):=h
def ml(x a c){q}(w)(hv:E_ q w a x.e)(hc:x.z.size<=maxLen)(hs:EW Tm.le maxLen x.e)(hl:x.e.length<=1048576) :
  Ca 198 #[.agg #[.bool x.neg,.string x.z,.slice a x.e.length c]] w λe w'=>
   e=.returned (.bool (C_ x))/\Bw w w':=by
 have tP:=trivial;exact rE
end Go.Proofs.YtikojfajahnhgaaGreat
