import Derived.Test.YtikojfajahnhgaaGreatKay
import Derived.Test.YtikojfajahnhgaaGreatKau
import Derived.Test.YtikojfajahnhgaaGreatKba
import Derived.Test.YtikojfajahnhgaaGreatKbj
set_option linter.all false
set_option maxHeartbeats 6400000
set_option maxRecDepth 100000
namespace Go.Proofs.YtikojfajahnhgaaGreat
attribute [local simp] At I6 Pn mzI
attribute [local go_sem] At I6 Pn
open Go.RowKit Go.Proofs.Tryz
section
attribute [local go_sem ↓] wp_at_zero wp_at_succ
def XP{P:Prop}(h:P:=by
 have HN:Hid (An x=some 0):=show An x=some 0 from by simp[An,IQ];omega
 go_enter func167,ntmps167;go_wp2_with (go_at_call 116;refine(Hg x.name _ aj).ac ?_;rintro e w' ⟨rfl,rfl⟩);go_ret;exact⟨E_ (by rw[HN.o];rfl),Af⟩
 ):P:=h
def zmm(x:Ru)(d:Option Addr)(f:Nat)(a:Option Addr)(c:Nat)(l:Option Addr)(g:Nat){q:Option Nat}(w:World)(au:CH q w d x.af)(m:BP q w a x.exprs)(aw:C9 q w l x.ao)(aW:x.le 1048576)(ho:GW x.exprs) :
  Ca 167 #[.agg #[.string x.name,.int .i64 x.aH,.slice d x.af.length f,.slice a x.exprs.length c,.slice l x.ao.length g]] w λe w'=>e=.returned (.int .i64 (IE (An x)))/\Bw w w':=by
 obtain⟨aM,aQ,aP,aK⟩:=aW;have aj:x.name.size<=maxLen:=yi aM Fm;have bf:=aQ.1;have bm:=aP.1;have ad:=aK.1;cases hg:Aw x.name.data.toList
 .have HN:Hid (An x=some 0):=show An x=some 0 from by simp[An,IQ,hg]
  go_enter func167,ntmps167;go_wp2_with (go_at_call 116;refine(Hg x.name _ aj).ac ?_;rintro e w' ⟨rfl,rfl⟩);go_ret;exact⟨E_ OW,Af⟩
 by_cases l6:6<x.af.length
 .have aX:(6:Int)<(x.af.length:Int):=qd;exact XP
 have aX:¬(6:Int)<(x.af.length:Int):=qd;by_cases l8:8<x.ao.length
 .have a0:(8:Int)<(x.ao.length:Int):=qd;exact XP
 have a0:¬(8:Int)<(x.ao.length:Int):=qd;by_cases bl:60<x.exprs.length
 .have aT:(60:Int)<(x.exprs.length:Int):=qd;exact XP
 have aT:¬(60:Int)<(x.exprs.length:Int):=qd;have HH:Hid (An x=match Di Dc x.af 1 with|some i=>some i|none=>rest x):=UR x (by simp[IQ,hg];omega);go_enter func167,ntmps167;go_wp2_with (go_at_call 116;refine(Hg x.name _ aj).ac ?_;rintro e w' ⟨rfl,rfl⟩)
 go_loopw [34] (λi wr=>∃(k:Nat),k<=x.af.length/\i=.int .i64 k/\(An x=match Di Dc (x.af.drop k) (k+1) with|some i=>some i|none=>rest x)/\Ek wr w.heap.size x d f a c l g/\Bw w wr) (mz x.af.length)
 case atStart=>exact⟨0,qd,rfl,HH.o,Ek.made _ _ _ _ _ _ _ _ _,Af⟩
 case round=>
  obtain⟨k,hk,rfl,D,O,n⟩:=hrel;have HG:Hid (An x=match Di Dc (x.af.drop k) (k+1) with|some i=>some i|none=>rest x):=D;clear D;by_cases N:k<x.af.length
  .obtain⟨p,aF⟩:=AJ N;obtain⟨b,o,t,r,rfl,hq,c0,c1,c2,ah⟩:=(au.J n).get aF;have aD:=aQ.2 p (yd aF);have C:Hid (x.af.drop k=p::x.af.drop (k+1)):=Ck aF;cases aJ:Dc p
   all_goals
    go_wp2_with (go_at_call 233;refine(zj2 p t r _ (ah.J Af) (yi aD.1 Fm) (aD.2.ac Fm (Tm.ac Fm)) aD.2.1).an λw1 E=>?_)
   .have HN:Hid (An x=some (k+1)):=show An x=_ from by rw[HG.o,C.o,GA,aJ];rfl
    have ay:Bw wr w1:=Af.aj E;go_ret;exact⟨E_ (by rw[HN.o];simp[IE]),n.aj ay⟩
   have HN:Hid (An x=match Di Dc (x.af.drop (k+1)) (k+1+1) with|some i=>some i|none=>rest x):=show An x=_ from by rw[HG.o,C.o,GA,aJ];rfl
   have ay:Bw wr w1:=Af.aj E;go_roundw
   case rel=>exact⟨k+1,qd,ql,HN.o,O.J ay,n.aj ay⟩
   case measure=>(simp;omega)
  have HR:Hid (An x=rest x):=show An x=rest x from by rw[HG.o,yD qd];rfl
  have HBX:=Aa O;obtain⟨G,K,L,I,M⟩:=O;go_wp2;clear G K L I M
  go_loopw [48] (λi Y=>∃(S:List Sp),S.length<=x.exprs.length/\i=.int .i64 (S.length:Int)/\AY x.exprs S/\B_ [] x.exprs=B_ S (x.exprs.drop S.length)/\Ek Y w.heap.size x d f a c l g/\Bw w Y) (mz x.exprs.length)
  case atStart=>exact⟨[],qe,rfl,AY.nil _,rfl,HBX.o,n⟩
  case round=>
   clear HBX n HG hk N;obtain⟨S,hk,rfl,hS,D,O,n⟩:=hrel;obtain⟨HG,HS,HBX⟩:=AQ D hS O;clear D hS;obtain⟨G,K,L,I,M⟩:=O;by_cases N:S.length<x.exprs.length
   .obtain⟨e,R⟩:∃e,x.exprs[S.length]?=some e:=⟨x.exprs[S.length],by simp[N]⟩
    have C:Hid (x.exprs.drop S.length=e::x.exprs.drop (S.length+1)):=Ck R;have a4:=(aP.ac Fm (Ex.ac Fm)).2 e (yd R);obtain⟨a6,aY⟩:=ho e (yd R);have W:=Aa (λw' h=>ziu a c x.exprs S e w' (q:=q) h qd HS.o R a4 a6 aY);cases U:Bv S e with
    |none=>
     rw[U]at W;have HN:Hid (An x=some (S.length+1)):=show An x=_ from by
      have Z:B_ [] x.exprs=S:=by rw[HG.o,C.o,B_,U]
      rw[HR.o];unfold rest;rw[Z,if_pos N]
     go_wp2_with (go_at_call 234;refine(W.o _ (m.J n)).ac ?_;rintro e' w1 ⟨rfl,E⟩);go_ret;exact⟨E_ (by rw[HN.o];simp[IE]),n.aj E⟩
    |some s=>
     rw[U]at W;have HN:Hid (B_ [] x.exprs=B_ (S++[s]) (x.exprs.drop (S.length+1))):=show B_ [] x.exprs=_ from by rw[HG.o,C.o,B_,U]
     go_wp2_with (go_at_call 234;refine(W.o _ (m.J n)).ac ?_;rintro e' w1 ⟨rfl,E⟩);go_roundw
     case rel=>exact⟨S++[s],qg,qe,HS.o.snoc R U,by rw[HN.o];simp,HBX.o.J E,n.aj E⟩
     case measure=>(simp;omega)
   have ar:S.length=x.exprs.length:=qd;have Z:B_ [] x.exprs=S:=by
    exact Qr
   have aV:Hid (An x=G8 S x.ao 0 1):=show An x=_ from by
    rw[HR.o];unfold rest;rw[Z,if_neg qd]
   have aE:=Aa ar;clear Z HG HR ar;have bk:w.heap.size<wr.heap.size:=ES G;go_wp2;obtain⟨H,rfl⟩:∃u,u=wr:=⟨wr,rfl⟩
   have aI:Bw w (H.alloc (.cells #[.int .i64 0] 3)):=n.alloc n.size _;have aB:=HBX.o.J (w':=H.alloc (.cells #[.int .i64 0] 3)) Af;clear G K L I M HBX
   go_loopw [62] (λi Y=>∃(k v:Nat),k<=x.ao.length/\i=.int .i64 k/\v<=60/\An x=G8 S (x.ao.drop k) v (k+1)/\At Y H.heap.size 0 (.int .i64 (v:Int))/\Y.frozen? ⟨H.heap.size,0,none⟩=false/\H.heap.size<Y.heap.size/\Ek Y w.heap.size x d f a c l g/\Bw w Y) (mz x.ao.length)
   case atStart=>exact⟨0,0,qd,rfl,qd,aV.o,qk,qk,qe,aB,aI⟩
   case round=>
    clear aI aB n;obtain⟨k,v,bj,rfl,aZ,D,aN,aO,aA,O,n⟩:=hrel;obtain⟨HG,HBX⟩:=Ak D O;clear D;obtain⟨G,K,L,I,M⟩:=O;by_cases aL:k<x.ao.length
    .obtain⟨y,aG⟩:=AJ aL;obtain⟨b,o,A,B,rfl,hq,c0,c1,c2,c3,ak⟩:=aw.get aG;have d0:=zab n c0;have d1:=zab n c1;have d2:=zab n c2;have d3:=zab n c3;clear c0 c1 c2 c3;have aU:=aK.2 y (yd aG);have C:Hid (x.ao.drop k=y::x.ao.drop (k+1)):=Ck aG;have z:∀o,Bw w (wr.alloc o):=λo=>n.alloc n.size _;have az:=Aa (λw' h0 hp hf ab=>zkd x d f a c (some ⟨b,o,none⟩) g y A B H.heap.size v S (q:=q) w w' h0 m ak HS.o aE.o qd (yi aU.1 Fm) aU.2 hp hf qd ab aZ);have bg:∀o,(wr.alloc o).cell? ⟨w.heap.size,0,none⟩=_:=λo=>zab (Ez o) G;have bd:∀o,(wr.alloc o).cell? ⟨w.heap.size,1,none⟩=_:=λo=>zab (Ez o) K;have bi:∀o,(wr.alloc o).cell? ⟨w.heap.size,2,none⟩=_:=λo=>zab (Ez o) L;have bh:∀o,(wr.alloc o).cell? ⟨w.heap.size,3,none⟩=_:=λo=>zab (Ez o) I;have bc:∀o,(wr.alloc o).cell? ⟨w.heap.size,4,none⟩=_:=λo=>zab (Ez o) M;clear G K L I M;cases av:BW S y v with
     |none=>
      rw[av]at az;have HN:Hid (An x=some (k+1)):=show An x=_ from by rw[HG.o,C.o,OL,av]
      go_wp2_with (go_at_call 235;refine(az.o _ (z _) (zab Af aN) (by rw[(Ah Af).2 _ _ aA];exact aO) qg).an λw3⟨T,aR,aH⟩=>?_);go_ret;exact⟨E_ (by rw[HN.o];simp[IE]),(z _).j (T.ac qd)⟩
     |some aC=>
      rw[av]at az;have HN:Hid (An x=G8 S (x.ao.drop (k+1)) aC (k+1+1)):=show An x=_ from by rw[HG.o,C.o,OL,av]
      go_wp2_with (go_at_call 235;refine(az.o _ (z _) (zab Af aN) (by rw[(Ah Af).2 _ _ aA];exact aO) qg).an λw3⟨T,aR,aH⟩=>?_);obtain⟨aS,a7⟩:=aR aC rfl;have a5:=T.size;go_roundw
      case rel=>exact⟨k+1,aC,qd,ql,aS,HN.o,a7,aH,by simp at a5;omega,(HBX.o.J Af).aJ T qd,(z _).j (T.ac qd)⟩
      case measure=>(simp;omega)
    have e0:x.ao.drop k=[]:=yD qd;have HE:Hid (An x=if v=S.length then none else some (k+1)):=show An x=_ from by rw[HG.o,e0];rfl
    have a9:k=x.ao.length:=qd;by_cases a8:v=x.exprs.length
    .have aa:((v:Int) != (x.exprs.length:Int))=false:=by simp;omega
     go_wp2;go_ret;exact⟨E_ (by rw[HE.o,if_pos (by have:=aE.o;omega)];rfl),n⟩
    have aa:((v:Int) != (x.exprs.length:Int))=true:=by simp;omega
    go_wp2;go_ret;exact⟨E_ (by rw[HE.o,if_neg (by have:=aE.o;omega)];simp[IE];omega),n⟩
def Rz(b:Nat)(w:World):Prop:=(∀j,j<3->w.cell? ⟨b,j,none⟩=some (.int .i64 0))/\(∀j,w.frozen? ⟨b,j,none⟩=false)/\b<w.heap.size
def Rz.J{b:Nat}{w w':World}(h:Rz b w)(a:Bw w w'):Rz b w':=
 ⟨λj hj=>zab a (h.1 j hj),λj=>by rw[(Ah a).2 _ _ h.2.2];exact h.2.1 j,yh h.2.2 a.size⟩
def Rz.get{b:Nat}{w:World}(h:Rz b w):At w b 0 (I6 0)/\At w b 1 (I6 0)/\At w b 2 (I6 0)/\w.frozen? ⟨b,0,none⟩=false/\w.frozen? ⟨b,1,none⟩=false/\w.frozen? ⟨b,2,none⟩=false:=
 ⟨h.1 0 qd,h.1 1 qd,h.1 2 qd,h.2.1 0,h.2.1 1,h.2.1 2⟩
def Rz.made(w:World)(t:TypeId):Rz w.heap.size (w.alloc (.cells #[I6 0,I6 0,I6 0] t)):=
 ⟨λj hj=>qR,λj=>qk,qe⟩
def oS{P:Prop}(h:P:=by
 have HX:Hid (Bh rs=(5,(k:Int),((x.af.length+1+m:Nat):Int))):=show Bh rs=_ from by
  have h1:Cw x=some (x.af.length+1+m):=by rw[HM.o,aI.o,GA,show Fa (Ad x.af) y=false by simp[Fa,aw];omega];rfl
  rw[HG.o,HD.o,L_,am.o,h1,if_neg (by simp)]
 have yy:=λo=>((az.o.J (Ez o)).get)
 have y0:=λo=>(yy o).1;have y1:=λo=>(yy o).2.1;have y2:=λo=>(yy o).2.2.1;have f0:=λo=>(yy o).2.2.2.1;have f1:=λo=>(yy o).2.2.2.2.1;have f2:=λo=>(yy o).2.2.2.2.2;clear yy;go_wp2;refine bodyPost_ret (v:=.agg #[I6 5,I6 (k:Int),I6 ((x.af.length:Int)+(m:Int)+1)]) (by simp[results,results102,go_sem,y0,y1,y2]) rfl ⟨by rw[HX.o];simp[LA];omega,?_⟩;exact(((au.alloc au.size _).setCell AA _).setCell AA _).setCell AA _
 ):P:=h
def zih(a:Option Addr)(c:Nat)(rs:List Ru)(q:Option Nat)(w:World)(hv:Do q w a rs)(hc:rs.length<=c)(aH:CP Ru.le 1048576 rs)(ho:∀x∈rs,GW x.exprs) :
  Ca 102 #[.slice a rs.length c] w λe w'=>e=.returned (LA (Bh rs))/\Bw w w':=by
 obtain⟨hl,aH⟩:=aH;by_cases bp:16<rs.length
 .have a5:(16:Int)<(rs.length:Int):=qd;have HC:Hid (Bh rs=(1,0,0)):=show Bh rs=_ from by unfold Bh;rw[if_neg qd]
  go_enter func102,ntmps102;go_wp2;refine bodyPost_ret (v:=.agg #[I6 1,I6 0,I6 0]) (by simp[results,results102,go_sem]) rfl ⟨by rw[HC.o];rfl,Af⟩
 have a5:¬(16:Int)<(rs.length:Int):=qd;have HC:Hid (Bh rs=FT [] rs 0):=show Bh rs=_ from by unfold Bh;rw[if_pos qd]
 obtain⟨bg,bj⟩:=Ak aH ho;clear aH ho;go_enter func102,ntmps102;go_wp2
 go_loopw [17] (λi wr=>∃(k:Nat),k<=rs.length/\i=I6 k/\Bh rs=FT (rs.take k) (rs.drop k) k/\Rz w.heap.size wr/\Bw w wr) (mz rs.length)
 case atStart=>exact⟨0,qd,rfl,by rw[HC.o];rfl,Rz.made _ _,Af⟩
 case round=>
  obtain⟨k,hk,rfl,hG,E,G⟩:=hrel;obtain⟨HG,aY⟩:=Ak hG E;clear hG;by_cases bh:k<rs.length
  .obtain⟨x,N⟩:=AJ bh;have aX:=hv.J G;obtain⟨b,o,r,g,f,d,p,n,rfl,hq,c0,c1,c2,c3,c4,ao,s,aq,a7⟩:=aX.get N;have a6:=bg.o x (yd N);have a9:=bj.o x (yd N);have HD:Hid (rs.drop k=x::rs.drop (k+1)):=Ck N;have HT:Hid (rs.take (k+1)=rs.take k++[x]):=GC rs k x N;obtain⟨t,rfl⟩:∃u,u=wr:=⟨wr,rfl⟩
   obtain⟨HP,HE,HA,K⟩:=BE ao s aq (λw'(B:Bw t w')=>zmm x r g f d p n (q:=q) w' (ao.J B) (s.J B) (aq.J B) a6 a9);have aS:=Ek.made t 53 x r g f d p n;have aM:=Aa aS;clear ao s aq aX E aS hq a7;cases O:An x with
   |some i=>
    rw[O]at K;simp only[IE]at K;have HX:Hid (Bh rs=(1,(k:Int),(i:Int))):=show Bh rs=_ from by
     have h1:Br (rs.take k) x=(1,(i:Int)):=by unfold Br;rw[O]
     rw[HG.o,HD.o,L_,h1,if_neg qe]
    have bd:(0:Int)<=(i:Int):=qd;go_wp2_with (go_at_call 167;refine(K.o _ Af).an λw1 I=>?_;obtain⟨y0,y1,y2,f0,f1,f2⟩:=((aY.o.J Af).J I).get);have hW:Bw t w1:=Af.aj I;have T:=G.aj hW;refine bodyPost_ret (v:=.agg #[I6 1,I6 (k:Int),I6 (i:Int)]) qO rfl ⟨Ny,?_⟩;exact((T.setCell AA _).setCell AA _).setCell AA _
   |none=>
    rw[O]at K;simp only[IE]at K;have z0:(0:Int)<=(k:Int):=qd;have z1:(k:Int)<=(c:Int):=qd;go_wp2_with (go_at_call 167;refine(K.o _ Af).an λw1 I=>?_);have aW:Bw t w1:=Af.aj I;have aP:=aM.o.J I;have aQ:=(aY.o.J Af).J I;have a0:=G.aj aW;clear I
    go_loopw [33] (λi wr=>∃(j:Nat),j<=k/\i=I6 j/\(rs.take k).any (λo=>decide (o.name=x.name))=((rs.take k).drop j).any (λo=>decide (o.name=x.name))/\Ek wr t.heap.size x r g f d p n/\Rz w.heap.size wr/\Bw t wr) (mz k)
    case atStart=>exact⟨0,qd,rfl,rfl,aP,aQ,aW⟩
    case round=>
     clear aW aP aQ a0 c0 c1 c2 c3 c4;obtain⟨j,hj,rfl,hN,M,E,A⟩:=hrel;obtain⟨HN,HBX,D⟩:=AQ hN M E;clear hN;have aJ:Bw w wr:=G.aj A;have C:(rs.take k).length=k:=by simp;omega
     by_cases bo:j<k
     .obtain⟨y,U⟩:∃y,(rs.take k)[j]?=some y:=⟨(rs.take k)[j]'(by omega),yK _⟩
      have aL:Do q wr (some ⟨b,o,none⟩) (rs.take k):=Bq.take (hv.J aJ) k;obtain⟨b2,o2,a1,k1,a2,k2,a3,k3,ee,hq,c0,c1,c2,c3,c4,_,_,_⟩:=aL.get U;cases ee;have aZ:Hid ((rs.take k).drop j=y::(rs.take k).drop (j+1)):=Ck U;have bn:∀o,At (wr.alloc o) t.heap.size 0 (.string x.name):=λo=>zab (Ez o) M.1;have ac:t.heap.size<wr.heap.size:=ES M.1;have v1:(j:Int)<(k:Int):=qd;have v0:(0:Int)<=(j:Int):=qd;clear aL M C;cases e1:(y.name.toList==x.name.toList)
      .have HX:Hid ((rs.take k).any (λo=>decide (o.name=x.name))=((rs.take k).drop (j+1)).any (λo=>decide (o.name=x.name))):=show _=_ from by
        rw[EV]at e1;rw[HN.o,aZ.o,KI,e1];rfl
       clear E;go_wp2;go_roundw
       case rel=>exact⟨j+1,qd,ql,HX.o,HBX.o.J Af,D.o.J Af,A.alloc A.size _⟩
       case measure=>(simp;omega)
      have HX:Hid (Bh rs=(2,(k:Int),0)):=show Bh rs=_ from by
       have h1:Br (rs.take k) x=(2,0):=by
        rw[EV]at e1;unfold Br;rw[O];simp only;rw[HN.o,aZ.o,KI,e1];rfl
       rw[HG.o,HD.o,L_,h1,if_neg qe]
      have yy:=λo=>((D.o.J (Ez o)).get)
      have y0:=λo=>(yy o).1;have y1:=λo=>(yy o).2.1;have y2:=λo=>(yy o).2.2.1;have f0:=λo=>(yy o).2.2.2.1;have f1:=λo=>(yy o).2.2.2.2.1;have f2:=λo=>(yy o).2.2.2.2.2;clear yy E;go_wp2;refine bodyPost_ret (v:=.agg #[I6 2,I6 (k:Int),I6 0]) qO rfl ⟨Ny,?_⟩;exact(((aJ.alloc aJ.size _).setCell AA _).setCell AA _).setCell AA _
     have aN:Hid ((rs.take k).any (λo=>decide (o.name=x.name))=false):=show _=_ from by rw[HN.o,yD qd];rfl
     have bk:Ad x.af<=x.af.length:=KD;obtain⟨bt,bm,bl,a8,aU,aT⟩:=VK O;obtain⟨aK,H⟩:=Ak (λw'(B:Bw t w')=>zim x r g f d p n (q:=q) w' (HP.o.J B) qd) (λw'(B:Bw t w')=>zmX x r g f d p n (q:=q) w' (HP.o.J B) (HE.o.J B) (HA.o.J B) a6 O);have br:¬(j:Int)<(k:Int):=qd;obtain⟨q0,q1,q2,q3,q4⟩:=M;clear E a8 aU aT K aM C;by_cases hr:1<=Ad x.af/\Ad x.af<=3
     .have am:Hid (Br (rs.take k) x=match A7 x with|some i=>(4,(i:Int))|none=>match Cw x with|some i=>(5,(i:Int))|none=>(0,0)):=show Br (rs.take k) x=_ from by
       unfold Br;rw[O];simp only;rw[aN.o,if_neg qh,if_pos hr];cases A7 x with
       |some i=>rfl
       |none=>cases Cw x<;>rfl
      have r0:¬(Ad x.af:Int)<1:=qd;have r1:¬(3:Int)<(Ad x.af:Int):=qd;cases a4:A7 x with
      |some i=>
       rw[a4]at H am;simp only[IE]at H;have bd:(0:Int)<=(i:Int):=qd;have HX:Hid (Bh rs=(4,(k:Int),(i:Int))):=show Bh rs=_ from by rw[HG.o,HD.o,L_,am.o,if_neg qe]
       go_wp2_with (first|(go_at_call 54;refine(aK.o _ A).an λw2 Y=>?_;obtain⟨s0,s1,s2,s3,s4⟩:=HBX.o.J Y;have af:=A.aj Y;obtain⟨y0,y1,y2,f0,f1,f2⟩:=(D.o.J Y).get)|(go_at_call 168;refine(H.o _ af).an λw3 z=>?_;obtain⟨t0,t1,t2,t3,t4⟩:=(HBX.o.J Y).J z;have aD:=af.aj z;obtain⟨v0,v1,v2,g0,g1,g2⟩:=((D.o.J Y).J z).get)|fail);have T:=G.aj aD;refine bodyPost_ret (v:=.agg #[I6 4,I6 (k:Int),I6 (i:Int)]) (by simp[results,results102,go_sem,v0,v1,v2]) rfl ⟨Ny,?_⟩;exact((T.setCell AA _).setCell AA _).setCell AA _
      |none=>
       rw[a4]at H am;simp only[IE]at H;simp only at am;go_wp2_with (first|(go_at_call 54;refine(aK.o _ A).an λw2 Y=>?_;obtain⟨s0,s1,s2,s3,s4⟩:=HBX.o.J Y;have af:=A.aj Y;obtain⟨y0,y1,y2,f0,f1,f2⟩:=(D.o.J Y).get)|(go_at_call 168;refine(H.o _ af).an λw3 z=>?_;obtain⟨t0,t1,t2,t3,t4⟩:=(HBX.o.J Y).J z;have aD:=af.aj z;obtain⟨v0,v1,v2,g0,g1,g2⟩:=((D.o.J Y).J z).get)|fail);have aR:=(HBX.o.J Y).J z;have R:=(D.o.J Y).J z;clear q0 q1 q2 q3 q4 s0 s1 s2 s3 s4 t0 t1 t2 t3 t4 y0 y1 y2 f0 f1 f2 v0 v1 v2 g0 g1 g2 Y z af aK H r0 r1 aJ A
       go_loopw [65] (λi aV=>∃(m:Nat),m<=x.ao.length/\i=I6 m/\Cw x=Di (Fa (Ad x.af)) (x.ao.drop m) (x.af.length+1+m)/\Ek aV t.heap.size x r g f d p n/\Rz w.heap.size aV/\Bw t aV) (mz x.ao.length)
       case atStart=>exact⟨0,qd,rfl,rfl,aR,R,aD⟩
       case round=>
        clear aR R aD;obtain⟨m,hm,rfl,hM,Z,R,L⟩:=hrel;obtain⟨HM,aO,az⟩:=AQ hM Z R;clear hM R;have au:Bw w wr:=G.aj L;by_cases bc:m<x.ao.length
        .obtain⟨y,U⟩:=AJ bc;obtain⟨b4,o4,W,ab,ee,hq,c0,c1,c2,c3,aa⟩:=(HA.o.J L).get U;subst ee;have aI:Hid (x.ao.drop m=y::x.ao.drop (m+1)):=Ck U;have bq:=λo=>zab (Ez o) Z.2.2.1;clear Z;by_cases aw:y.kind=2∨y.kind=3
         .rcases aw with aw|aw
          all_goals rw[aw]at c0
          rotate_left;rotate_left
          all_goals
           by_cases k1:y.k<1
           .exact oS
           by_cases k2:(Ad x.af:Int)<y.k
           .exact oS
           have HX:Hid (Cw x=Di (Fa (Ad x.af)) (x.ao.drop (m+1)) (x.af.length+1+(m+1))):=show Cw x=_ from by rw[HM.o,aI.o,GA,show Fa (Ad x.af) y=true by simp[Fa];omega];rfl
           go_wp2;go_roundw
           case rel=>exact⟨m+1,qd,ql,HX.o,aO.o.J Af,az.o.J Af,L.alloc L.size _⟩
           case measure=>(simp;omega)
         have bi:¬y.kind=2:=λh=>aw (.inl h);have bf:¬y.kind=3:=λh=>aw (.inr h);have HX:Hid (Cw x=Di (Fa (Ad x.af)) (x.ao.drop (m+1)) (x.af.length+1+(m+1))):=show Cw x=_ from by rw[HM.o,aI.o,GA,show Fa (Ad x.af) y=true by simp[Fa,bi,bf]];rfl
         go_wp2;go_roundw
         case rel=>exact⟨m+1,qd,ql,HX.o,aO.o.J Af,az.o.J Af,L.alloc L.size _⟩
         case measure=>(simp;omega)
        have h1:Cw x=none:=by rw[HM.o,yD qd];rfl
        have HX:Hid (Bh rs=FT (rs.take (k+1)) (rs.drop (k+1)) (k+1)):=show Bh rs=_ from by rw[HG.o,HD.o,L_,am.o,h1,if_pos rfl,HT.o]
        clear Z h1;go_wp2;go_roundw
        case rel=>exact⟨k+1,qd,ql,HX.o,az.o,au⟩
        case measure=>(simp;omega)
     have am:Hid (Br (rs.take k) x=(3,0)):=show Br (rs.take k) x=_ from by
      unfold Br;rw[O];simp only;rw[aN.o,if_neg qh,if_neg hr]
     have HX:Hid (Bh rs=(3,(k:Int),0)):=show Bh rs=_ from by rw[HG.o,HD.o,L_,am.o,if_neg qe]
     by_cases r0:(Ad x.af:Int)<1;rotate_left
     focus
      have r1:(3:Int)<(Ad x.af:Int):=qd
     rotate_left
     all_goals
      go_wp2_with (first|(go_at_call 54;refine(aK.o _ A).an λw2 Y=>?_;obtain⟨s0,s1,s2,s3,s4⟩:=HBX.o.J Y;have af:=A.aj Y;obtain⟨y0,y1,y2,f0,f1,f2⟩:=(D.o.J Y).get)|fail);have T:=G.aj af;refine bodyPost_ret (v:=.agg #[I6 3,I6 (k:Int),I6 0]) qO rfl ⟨Ny,?_⟩;exact((T.setCell AA _).setCell AA _).setCell AA _
  have HX:Hid (Bh rs=(0,0,0)):=show Bh rs=_ from by rw[HG.o,yD qd];rfl
  obtain⟨y0,y1,y2,f0,f1,f2⟩:=E.get;go_wp2;refine bodyPost_ret (v:=.agg #[I6 0,I6 0,I6 0]) qO rfl ⟨Ny,?_⟩;exact((G.setCell AA _).setCell AA _).setCell AA _
def mU(rs:List Ru)(a:Option Addr)(c:Nat){q:Option Nat}(w:World)(hv:Do q w a rs)(j:rs.length<=c)(Y:CP Ru.le 1048576 rs)(g:∀x∈rs,GW x.exprs) :
  Ca 49 #[.slice a rs.length c] w λe w'=>e=.returned (.bool (decide ((Bh rs).1=0)))/\Bw w w':=by
 have b:Hid (Ca 102 #[.slice a rs.length c] w λe w'=>e=.returned (LA (Bh rs))/\Bw w w'):=zih a c rs q w hv j Y g;unfold LA at b;by_cases d:(Bh rs).1=0
 .have i:=vm d;rw[i]at b⊢;go_enter func49,ntmps49;go_wp2_with (go_at_call 102;with_reducible refine b.o.an λf O=>?_);go_ret;exact⟨rfl,O⟩
 generalize (Bh rs).1=m at b d⊢;generalize (Bh rs).2.1=l at b;generalize (Bh rs).2.2=k at b;go_enter func49,ntmps49;go_wp2_with (go_at_call 102;with_reducible refine b.o.an λf O=>?_);go_ret;exact⟨AE (by simp[d]),O⟩
def kT(fs:List F):∀(a:List Pt)(xs:List Pm)(n t b:Nat),(∀x∈xs,x.al.length<=t/\x.binds.length<=b)->(∀p∈a,p.aa.length<=6)->∀y∈(AS a fs xs n).1,y.al.length<=t+a.length/\y.binds.length<=b+6*a.length
 |[],xs,n,t,b,h,_,y,hy=>by
  simp only[AS]at hy
  simpa using h y hy
 |p::a,xs,n,t,b,h,h6,y,hy=>by
  simp only[AS]at hy
  have e:=h6 p Wj
  have:=kT fs a (Ci p fs xs) _ (t+1) (b+6) (λx d=>by have:=mB h x d;omega) (λq c=>h6 q (Y2 _ c)) y hy
  rw[yH]
  omega
def Fd(rs:List Ru)(fs:List F):Bool:=decide ((Bh rs).1=0)&&DC fs
def Qj{rs:List Ru}{fs:List F}(h:Fd rs fs=true):(Bh rs).1=0/\DC fs=true/\fs.length<=40:=by
 unfold Fd at h;simp at h;refine⟨h.1,h.2,?_⟩;have a:=h.2;unfold DC at a;simp at a;exact a.1
def Do.one{w:World}{k:Nat}{x:Ru}{O Y c:Option Addr}{d a e:Nat}(h:w.heap[k]?=some (.cells #[.string x.name,I6 x.aH,.slice O x.af.length d,.slice Y x.exprs.length a,.slice c x.ao.length e] 53 (0,0)))(f:CH none w O x.af)(l:BP none w Y x.exprs)(m:C9 none w c x.ao)(g:x.exprs.length<=a):Do none w (some ⟨k,0,none⟩) [x]:=by
 intro i y b;rcases i with _|i
 .simp at b;subst b;refine⟨k,0,_,rfl,Qb.bare _ _ _,rfl,?_,O,d,Y,a,c,e,rfl,f,l,m,g⟩;intro j v hj;rcases j with _|_|_|_|_|j
  all_goals simp at hj
  all_goals subst hj
  all_goals simp[World.cell?,h]
 simp at b
def ziz(a l:Option Addr)(c u:Nat)(xs ys:List Int){q q':Option Nat}(w:World)(hv:Bf q w a xs)(r:Bf q' w l ys)(hl:xs.length<=1048576) :
  Ca 169 #[.slice a xs.length c,.slice l ys.length u] w λe w'=>e=.returned (.bool (decide (xs=ys)))/\Bw w w':=by
 by_cases Y:xs.length=ys.length
 .have s:((xs.length:Int) != (ys.length:Int))=false:=by simp;omega
  have v:xs.length<=ys.length:=qd;have G:ys.length<=xs.length:=qd;clear Y;go_enter func169,ntmps169;go_wp2_with fail
  go_loopw [13] (λi wr=>∃(k:Nat),k<=xs.length/\i=I6 k/\xs.take k=ys.take k/\Bw w wr) (mz xs.length)
  case atStart=>exact⟨0,qd,rfl,rfl,Aj⟩
  case round=>
   obtain⟨k,A,rfl,n,j⟩:=hrel;have m:=Aa n;clear n;by_cases p:k<xs.length
   .obtain⟨x,d⟩:=AJ p;obtain⟨y,f⟩:∃y,ys[k]?=some y:=⟨ys[k]'(by omega),qe⟩
    obtain⟨b,o,rfl,_,E⟩:=(Bf.J hv j).get d;obtain⟨B,o',rfl,_,C⟩:=(Bf.J r j).get f;have H:(0:Int)<=(k:Int):=qd;have D:(k:Int)<(xs.length:Int):=qd;have z:(k:Int)<(ys.length:Int):=qd;by_cases O:x=y
    .have g:=Aa (show xs.take (k+1)=ys.take (k+1) by rw[yY,yY,m.o,d,f,O]);have t:(x != y)=false:=qA;clear d f O;go_wp2_with fail;go_region;go_wp2_with fail;go_roundw
     case rel=>exact⟨k+1,qd,ql,g.o,j.drew⟩
     case measure=>(simp;omega)
    have g:=Aa (show decide (xs=ys)=false from decide_eq_false (λe=>O (by rw[e,f]at d;injection d with d;exact d.ai)));have t:(x != y)=true:=qA;clear d f;go_wp2_with fail;go_region;go_wp2_with fail;go_ret;exact⟨AE g.o.ai,j.drew⟩
   have g:=Aa (show decide (xs=ys)=true from decide_eq_true (by have:=m.o;rwa [yu qd,yu qd]at this));go_wp2_with fail;go_ret;exact⟨AE g.o.ai,j⟩
 have s:((xs.length:Int) != (ys.length:Int))=true:=by simp;omega
 go_enter func169,ntmps169;go_wp2_with fail;go_ret;exact⟨AE (by rw[decide_eq_false (λe=>Y H4)]),Aj⟩
def Gc{w:World}{b:Nat}{ty:TypeId}{x0 x1 a Y O:Value}(h:w.heap[b]?=some (.cells #[x0,x1,a,Y,O] ty (0,0))):At w b 0 x0/\At w b 1 x1/\At w b 2 a/\At w b 3 Y/\At w b 4 O:=by
 refine⟨?_,?_,?_,?_,?_⟩<;>simp[World.cell?,h]
end

section
attribute [local go_sem ↓] wp_at_zero wp_at_succ
def fT(bs:List Bd)(w:World)(e:Ending)(w':World):Prop:=(∃a c,e=.returned (.slice a bs.length c)/\w'.ownsRow w.heap.size 367 4 (.slice a bs.length c) bs.length (bs.flatMap ER))/\Bw w w'
def fT.nil{a:List Bd}{w w':World}(c:a=[])(b:Bw w w'):fT a w (.returned (.slice none 0 0)) w':=by
 subst c;exact⟨⟨none,0,rfl,y9 _ _ _ _⟩,b⟩
end
def Ui(fs:List F):∀(b:List Pt)(T:List F)(vs:List Vr)(m:Nat),Fu b vs T.length->BA vs ⟨#[]⟩=none->(∀x∈vs,x.fact<T.length) ->
  (AS b fs [⟨T.map (·.tag),AG T vs⟩] m).1=(CX (Bz b vs T.length) fs T).map (λU=>(⟨U.map (·.tag),AG U (DS b vs T.length)⟩:Pm))
 |[],T,vs,m,_,_,_=>rfl
 |p::b,T,vs,m,hk,hE,hT=>by
  obtain⟨d,n,O⟩:=hk
  have e:=Uk d hE n hT ⟨p.neg,T.length,C0 p,Ct vs p.aa p.aa.length⟩ rfl rfl fs
  rw[S8]
  simp only[AS,Bz,CX]
  have l:Ci p fs [⟨T.map (·.tag),AG T vs⟩]=Gy p fs ⟨T.map (·.tag),AG T vs⟩:=by simp[Ci]
  rw[l]
  unfold Gy
  by_cases a:p.neg=true
  .rw[if_pos a,if_pos a,if_pos a,if_pos a]
   rw[if_pos a]at O
   rw[e]
   by_cases Y:fs.any (lets ⟨p.neg,T.length,C0 p,Ct vs p.aa p.aa.length⟩ T)=true
   .rw[if_pos Y,if_neg (by
     obtain⟨f,c,i⟩:=Ka.1 Y
     have:=List.length_pos_of_mem (yg.2 ⟨c,i⟩)
     rw[yp]
     omega),RX]
    rfl
   rw[if_neg Y,if_pos (by
    rw[yp,Y9,Ww]
    intro f c j
    exact Y (Ka.2 ⟨f,c,j⟩))]
   exact Ui fs b T vs _ O hE hT
  rw[if_neg a,if_neg a,if_neg a,if_neg a]
  rw[if_neg a]at O
  rw[e,Vu,KF,Kb]
  congr 1
  funext f
  have k:BA (CI vs p.aa T.length p.aa.length) ⟨#[]⟩=none:=(ON _ _ AA).2 ⟨hE,Xn (jS d) _ AA⟩
  have:=Ui fs b (T++[f]) (CI vs p.aa T.length p.aa.length) 0 qA k (λx g=>by simpa using Qe hT p.aa.length x g)
  simpa using this
def Ry{fs:List F}{a:List Pt}(b:Fu a [] 0):(AS a fs [⟨[],[]⟩] 0).1=(CX (Bz a [] 0) fs []).map (λU=>(⟨U.map (·.tag),AG U (DS a [] 0)⟩:Pm)):=Ui fs a [] [] 0 b rfl (λx hx=>qN)
def Cs(fs:List F):Nat->List Ru->List It
 |_,[]=>[]
 |i,r::rs=>(AS r.af fs [⟨[],[]⟩] 0).1.map (λx=>(⟨(i:Int),x.al⟩:It))++Cs fs (i+1) rs
def lO(fs:List F)(r:Ru):∀(rs:List Ru)(i:Nat),Cs fs i (rs++[r])=Cs fs i rs++(AS r.af fs [⟨[],[]⟩] 0).1.map (λx=>(⟨((i+rs.length:Nat):Int),x.al⟩:It))
 |[],i=>by simp[Cs]
 |s::rs,i=>by
  simp only[Ye,Cs]
  rw[lO fs r rs (i+1),Yc,yH,show i+1+rs.length=i+(rs.length+1) by omega]
def zC(fs:List F){rs:List Ru}{k:Nat}{r:Ru}(h:rs[k]?=some r):Cs fs 0 (rs.take (k+1))=Cs fs 0 (rs.take k)++(AS r.af fs [⟨[],[]⟩] 0).1.map (λx=>(⟨(k:Int),x.al⟩:It)):=by
 have a:k<rs.length:=(yf.1 h).1;rw[yY,h];simp only[Option.toList];rw[lO,Yo,Xw qd,Yt]
def znn(p:Pt)(fs:List F)(b:fs.length<=40)(x:Pm):(Gy p fs x).length<=40^(Ad [p]):=by
 have:=Se p x fs;unfold Gy Ad;by_cases a:p.neg=true
 .rw[if_pos a];simp[GE,a];split<;>simp
 rw[if_neg a];simp[GE,a];omega
def kP(p:Pt)(fs:List F)(a:fs.length<=40):∀X:List Pm,(Ci p fs X).length<=X.length*40^(Ad [p])
 |[]=>by simp[Ci]
 |x::r=>by
  have d:=kP p fs a r
  have c:=znn p fs a x
  have b:Ci p fs (x::r)=Gy p fs x++Ci p fs r:=by unfold Ci;rw[yE]
  rw[b,yR,yH,Qp]
  omega
def j6(fs:List F)(b:fs.length<=40):∀(a:List Pt)(xs:List Pm)(n:Nat),(AS a fs xs n).1.length<=xs.length*40^Ad a
 |[],xs,n=>by simp[AS,Ad]
 |r::a,xs,n=>by
  have e:=j6 fs b a (Ci r fs xs) (n+(Ci r fs xs).length)
  have c:=kP r fs b xs
  have d:Ad (r::a)=Ad [r]+Ad a:=by
   unfold Ad;rw[<-List.countP_append];rfl
  simp only[AS];rw[d,Nat.pow_add,<-Nat.mul_assoc];exact yi e (YQ _ c)
def j7{rs:List Ru}{fs:List F}(h:Fd rs fs=true){r:Ru}(b:r∈rs):(AS r.af fs [⟨[],[]⟩] 0).1.length<=64000/\∀x∈(AS r.af fs [⟨[],[]⟩] 0).1,x.al.length<=6:=by
 obtain⟨O,_,g⟩:=Qj h;obtain⟨i,Y,d⟩:=Qf O b;have c:=j6 fs g r.af [⟨[],[]⟩] 0;have f:40^Ad r.af<=40^3:=WL qd d;rw[List.length_singleton,KS]at c;refine⟨by simp at f;omega,λx e=>?_⟩;have:=(kT fs r.af [⟨[],[]⟩] 0 0 0 (by intro y a;simp at a;subst a;simp) Y x e).1;omega
def RM{rs:List Ru}(h:(Bh rs).1=0):rs.length<=16:=by
 unfold Bh at h;split at h
 .assumption
 simp at h
def lq{fs:List F}:∀(rs:List Ru)(i:Nat),(∀r∈rs,(AS r.af fs [⟨[],[]⟩] 0).1.length<=64000/\∀x∈(AS r.af fs [⟨[],[]⟩] 0).1,x.al.length<=6)->(Cs fs i rs).length<=rs.length*64000/\∀y∈Cs fs i rs,y.al.length<=6
 |[],i,_=>by simp[Cs]
 |r::rs,i,h=>by
  obtain⟨e,c⟩:=lq rs (i+1) (λx b=>h x (Y2 _ b))
  obtain⟨f,d⟩:=h r Wj
  simp only[Cs]
  refine⟨by rw[yR,yp,yH];omega,λy a=>?_⟩
  rcases yr.1 a with a|a
  .obtain⟨x,b,rfl⟩:=yz.1 a
   exact d x b
  exact c y a
def mQ{rs:List Ru}{fs:List F}(h:Fd rs fs=true)(k:Nat):(Cs fs 0 (rs.take k)).length<=1024000/\∀y∈Cs fs 0 (rs.take k),y.al.length<=6:=by
 have d:=RM (Qj h).1;obtain⟨c,b⟩:=lq (fs:=fs) (rs.take k) 0 (λr a=>j7 h (Wa a));refine⟨?_,b⟩;rw[Yo]at c;omega
def JT(L:List It)(w:World)(e:Ending)(w':World):Prop:=(∃a c M,e=.returned (.slice a (List.length M) c)/\Iw w' w.heap.size w.heap.size a c M/\M.map Prod.fst=L)/\Bw w w'
def JT.nil{L:List It}{w w':World}(b:L=[])(a:Bw w w'):JT L w (.returned (.slice none 0 0)) w':=by
 subst b;exact⟨⟨none,0,[],rfl,Iw.nil _ _ _,rfl⟩,a⟩
def JT.mk{L:List It}{w w':World}{a:Option Addr}{c:Nat}{M:List Eh}(b:L=M.map Prod.fst)(h:Iw w' w.heap.size w.heap.size a c M)(d:Bw w w'):JT L w (.returned (.slice a M.length c)) w':=by
 subst b;exact⟨⟨a,c,M,rfl,h,rfl⟩,d⟩
section
open Go.Maps
attribute [local go_sem ↓] wp_at_zero wp_at_succ
structure GR(E B:Nat) (w w':World):Prop where
 os:w'.os=w.os
 tape:w'.tape=w.tape
 output:w'.output=w.output
 size:w.heap.size<=w'.heap.size
 block:∀g,g<w.heap.size->(g<E∨B<=g)->w'.heap[g]?=w.heap[g]?
def GR.ab{E B:Nat}{w w':World}(h:Bw w w'):GR E B w w':=⟨h.os,h.tape,h.output,h.size,λg a _=>h.block g a⟩
def GR.j{E B:Nat}{u v w:World}(h:GR E B u v)(k:GR E B v w):GR E B u w:=⟨k.os.j h.os,k.tape.j h.tape,k.output.j h.output,yi h.size k.size,λg a b=>(k.block g (yh a h.size) b).j (h.block g a b)⟩
def GR.J{E B:Nat}{u v w:World}(k:Below E u v)(b:E<=v.heap.size)(h:GR E B v w):Below E u w:=⟨h.os.j k.os,h.tape.j k.tape,h.output.j k.output,yi k.size h.size,λg a=>(h.block g (yh a b) (.inl a)).j (k.block g a)⟩
def GR.own{E B base:Nat}{w w':World}{e:TypeId}{m:Nat}{v:Value}{n:Nat}{xs:List Value}(h:GR E B w w')(a:w.ownsRow base e m v n xs)(c:B<=base):w'.ownsRow base e m v n xs:=
 BZ a λk b=>h.block k (a.lt k b).2 (.inr (yi c (a.lt k b).1))
def PD.lk{E B base:Nat}{w w':World}{ca:Option Addr}{cc:Nat}{b:Option Addr}{e:Nat}{X:List Cx}{U:List Vr}{A:List Al}{d:List Nat}(h:PD w base ca cc b e X U A d)(hl:GR E B w w')(a:B<=base):PD w' base ca cc b e X U A d:=
 ⟨hl.own h.conds a,hl.own h.vars a,λc f=>hl.own (h.ah c f) a,h.nodes⟩
def Fi.lk{E B base:Nat}{w w':World}{a:Option Addr}{c:Nat}{P:List Px}{A:List Al}{b:List Nat}(h:Fi w base a c P A b)(hl:GR E B w w')(d:B<=base):Fi w' base a c P A b:=
 ⟨hl.own h.row d,λx e=>(h.each x e).lk hl d⟩
def NF.lk{E B:Nat}{w w':World}{base a mb:Nat}{k:Option Addr}{f:Nat}{L:List FP}{g:List Nat}{V:List Value}{QQ:Nat->List (Value × F)}(h:NF w base a mb k f L g V QQ)(hl:GR E B w w')(c:B<=base)(n:B<=a):NF w' base a mb k f L g V QQ:=
 ⟨(hl.block a (As h.box) (.inr n)).j h.box,hl.own h.row c,h.bk,h.ba,λi x b v d e hv=>by
  obtain⟨m,l,o,p⟩:=h.node i x b v d e hv
  exact⟨(hl.block b (As m) (.inr (yi c l))).j m,l,o,hl.own p c⟩,λx d=>⟨(h.aX x d).1,hl.own (h.aX x d).2 c⟩,h.apart⟩
structure Pw where
 ca:Option Addr
 cc:Nat
 va:Option Addr
 vc:Nat
 cs:List Cn
def Rj(w:World)(B:Nat)(fs:List F)(a:Option Addr)(rs:List Ru)(PW:List Pw):Prop:=
 ∀(i:Nat)(r:Ru)(x:Pw),rs[i]?=some r->PW[i]?=some x->∃b o,a=some ⟨b,o,none⟩/\B<=b/\w.cell? ⟨b,o+i*2,none⟩=some (.slice x.ca x.cs.length x.cc)/\w.cell? ⟨b,o+i*2+1,none⟩=some (.slice x.va (DS r.af [] 0).length x.vc)/\Pd w fs x.ca x.va r x.cs/\x.cs.length<=x.cc/\w.ownsRow B 330 3 (.slice x.va (DS r.af [] 0).length x.vc) (DS r.af [] 0).length ((DS r.af [] 0).flatMap Hz)
def Rj.J{w w':World}{B:Nat}{fs:List F}{a:Option Addr}{rs:List Ru}{d:List Pw}(h:Rj w B fs a rs d)(c:Bw w w'):Rj w' B fs a rs d:=by
 intro i r x j g;obtain⟨b,o,e,m,O,n,k,f,l⟩:=h i r x j g;exact⟨b,o,e,m,zab c O,zab c n,k.J c,f,Bg l c⟩
def IA(P:List Px)(rs:List Ru)(k:Nat):Prop:=P.length=k/\∀(i:Nat)(x:Px)(r:Ru),P[i]?=some x->rs[i]?=some r->x.X.map Cx.cp=Bz r.af [] 0/\x.U=DS r.af [] 0
def IA.snoc{P:List Px}{rs:List Ru}{k:Nat}{x:Px}{r:Ru}(h:IA P rs k)(d:rs[k]?=some r)(f:x.X.map Cx.cp=Bz r.af [] 0)(c:x.U=DS r.af [] 0):IA (P++[x]) rs (k+1):=by
 refine⟨by simp[h.1],λi y q a b=>?_⟩;by_cases e:i<P.length
 .rw[yB e]at a;exact h.2 i y q a b
 have O:i=P.length:=by
  have:=(yf.1 a).1;simp at this;omega
 subst O;simp at a;subst a;rw[h.1,d]at b;cases b;exact⟨f,c⟩
def Fi.at{w:World}{B base v mb:Nat}{C:Option Addr}{s:Nat}{L:List FP}{g:List Nat}{V:List Value}{Q:List (Value × F)}{fs:List F}{a:Option Addr}{c:Nat}{P:List Px}{rs:List Ru}(h:Fi w B a c P (L.map Prod.fst) g)(n:NF w base v mb C s L g V (λ_=>Q))(t:Q.map Prod.snd=fs)(hF:∀y∈Q,Ee w y.1 y.2)(f:IA P rs rs.length)(G:∀r∈rs,∀p∈r.af,p.aa.length<=6)(D:fs.length<=40):Rj w B fs a rs (P.map λx=>⟨x.ca,x.cc,x.va,x.vc,x.X.map (BM fs)⟩):=by
 intro i r z d e;have q:i<P.length:=by rw[f.1];exact(yf.1 d).1
 obtain⟨x,b⟩:=AJ q;obtain⟨A,l⟩:=f.2 i x r b d;have key:=λj u(hj:(Jk x)[j]?=some u)=>CC h.row (Ig (cells:=Jk) (m:=2) (λ_=>rfl) P i x j u b hj);obtain⟨k,rfl,o,h0,_⟩:=key 0 _ rfl;obtain⟨H,E,_,h1,_⟩:=key 1 _ rfl;cases E;have O:=h.each x (yd b);have Y:=MP O.conds;rw[l]at O h1;rw[yx,b]at e;cases e;exact⟨k,0,rfl,o,qC,qt,O.ej n t hF A (G r (yd d)) D,qU,O.vars⟩
end
section
open Go.Maps
structure Kq(cb L M:Nat) (W W':World):Prop where
 os:W'.os=W.os
 tape:W'.tape=W.tape
 output:W'.output=W.output
 size:W.heap.size<=W'.heap.size
 block:∀k,k<W.heap.size->k≠cb->(k<L∨((k<M∨∃c t fr,W.heap[k]?=some (.cells c t fr))/\∀c fr,W.heap[k]?≠some (.cells c 45 fr)))->W'.heap[k]?=W.heap[k]?
def Kq.j{cb L M U V W}(h:Kq cb L M U V)(k:Kq cb L M V W):Kq cb L M U W:=
 ⟨k.os.j h.os,k.tape.j h.tape,k.output.j h.output,yi h.size k.size,λj hj d a=>by
  have e:=h.block j hj d a
  refine(k.block j (yh hj h.size) d ?_).j e
  rcases a with a|⟨a,g⟩
  .exact .inl a
  refine .inr ⟨?_,λc b f=>g c b (e.ai.j f)⟩
  rcases a with a|⟨c,t,b,a⟩
  .exact .inl a
  exact .inr ⟨c,t,b,e.j a⟩⟩
def Kq.ab{cb L M W a}(h:Bw W a):Kq cb L M W a:=⟨h.os,h.tape,h.output,h.size,λj hj _ _=>h.block j hj⟩
def Kq.box{cb L M b W g c t d}(h:Kq cb L M W g)(a:W.heap[b]?=some (.cells c t d))(f:b≠cb)(i:t≠45):g.heap[b]?=some (.cells c t d):=
 (h.block b (As a) f (.inr ⟨.inr ⟨c,t,d,a⟩,λk O e=>i (by rw[a]at e;injection e with e;injection e)⟩)).j a
abbrev Tk3:=Option Addr × Option Addr × Option Addr
structure SK where
 wE:World
 w1:World
 B:Nat
 cb:Nat
 M:Nat
 l:Nat
 pb:Nat
 yb:Nat
 sb:Nat
 xb:Nat
 base:Nat
 gb:Nat
 mb:Nat
 ca:Option Addr
 cc:Nat
 m:Nat
 vv:Value
 va:Option Addr
 vc:Nat
 la:Option Addr
 lc:Nat
 L:List FP
 bs:List Nat
 V:List Value
 Q:List (Value × F)
 X:List Cx
 U:List Vr
 fs:List F
 mem:∀W,GR wE.heap.size B w1 W->PD W base ca cc va vc X U (L.map Prod.fst) bs/\NF W base gb mb la lc L bs V (λ_=>Q)
 snd:Q.map Prod.snd=fs
 facs:∀y∈Q,Ee wE y.1 y.2
 J:Bw wE w1
 hm:m<=X.length
 h1:wE.heap.size<=cb
 h2:cb<B
 h3:w1.heap.size<=M
 n1:pb≠cb
 n2:yb≠cb
 n3:sb≠cb
 n4:xb≠cb
 f40:fs.length<=40
 small:∀c∈X,c.cp.ah.length<=6
 X6:X.length<=6
 h4:B<=w1.heap.size
structure SX(K:SK) (W:World):Prop where
 lk:GR K.wE.heap.size K.B K.w1 W
 pl:W.heap[K.pb]?=some (.cells #[.slice K.ca K.m K.cc,K.vv] 102 (0,0))
 yl:W.heap[K.yb]?=some (.cells #[.func (.yield K.l) #[] #[]] 192 (0,0))
 sd:W.heap[K.sb]?=some (.cells #[.int .i64 (-1),.pointer none] 108 (0,0))
 sr:W.heap[K.xb]?=some (.cells #[.func (.func 109) #[] #[.pointer (some ⟨K.pb,0,none⟩),.pointer (some ⟨K.yb,0,none⟩),.pointer (some ⟨K.sb,0,none⟩),.pointer (some ⟨K.xb,0,none⟩)]] 193 (0,0))
def SX.ar{K W c}(h:SX K W)(b:Bw W c):SX K c:=
 ⟨h.lk.j (GR.ab b),(b.block _ (As h.pl)).j h.pl,(b.block _ (As h.yl)).j h.yl,(b.block _ (As h.sd)).j h.sd,(b.block _ (As h.sr)).j h.sr⟩
def SX.entry{K W}(h:SX K W):Below K.wE.heap.size K.wE W:=GR.J K.J K.J.size h.lk
structure Iv(w:World) (p0 p1 p2:Option Addr) (T:List F):Prop where
 tok:Ej w (.pointer p0) (.pointer p1) (.pointer p2) T
 z0:T.length<=0->p0=none
 z1:T.length<=1->p1=none
 z2:T.length<=2->p2=none
 le:T.length<=3
def QY(w:World):={y:Tk3 × List F // Iv w y.1.1 y.1.2.1 y.1.2.2 y.2}
def Qq{w:World}(x:QY w):List F:=x.1.2
def Mo(K:SK)(J Jx:List (QY K.wE)->World->Prop)(pre:List (QY K.wE))(Ts:List (List F))(W:World)(e:Ending)(W':World):Prop:=
 (e=.returned (.bool true)/\∃ys:List (QY K.wE),ys.map Qq=Ts/\J (pre++ys) W'/\Kq K.cb K.w1.heap.size K.M W W')∨(e=.returned (.bool false)/\∃q,Jx q W')
def Ej.put{w b d c y T f}(h:Ej w (.pointer b) (.pointer d) (.pointer c) T)(m:T.length<3)(l:Ee w (.pointer y) f):Ej w (.pointer (if T.length=0 then y else b)) (.pointer (if T.length=1 then y else d)) (.pointer (if T.length=2 then y else c)) (T++[f]):=by
 intro i g a;by_cases O:i<T.length
 .rw[yB O]at a;obtain⟨pv,j,k⟩:=h i g a;refine⟨pv,?_,k⟩;rcases i with _|_|_|i
  .rw[if_neg qd];simpa using j
  .rw[if_neg (show¬T.length=1 by omega)];simpa using j
  .omega
  omega
 have e:i=T.length:=by
  have:=(yf.1 a).1;simp at this;omega
 subst e;simp at a;subst a;refine⟨.pointer y,?_,l⟩;rcases(show T.length=0∨T.length=1∨T.length=2 by omega) with h|h|h<;>rw[h]<;>simp
def Iv.put{w a c b y T f}(h:Iv w a c b T)(d:T.length<3)(g:Ee w (.pointer y) f):Iv w (if T.length=0 then y else a) (if T.length=1 then y else c) (if T.length=2 then y else b) (T++[f]):=by
 have hl:(T++[f]).length=T.length+1:=qe;refine⟨h.tok.put d g,λe=>?_,λe=>?_,λe=>?_,?_⟩
 .omega
 .rw[if_neg qd];exact h.z1 qd
 .rw[if_neg qd];exact h.z2 qd
 omega
def Mo.one{K J f a g W e c}(h:Mo K J f a g W e c):∃b:Bool,e=.returned (.bool b)/\Hid (b=true->∃ys:List (QY K.wE),ys.map Qq=g/\J (a++ys) c/\Kq K.cb K.w1.heap.size K.M W c)/\Hid (b=false->∃q,f q c):=by
 rcases h with⟨rfl,h⟩|⟨rfl,h⟩
 .exact⟨true,rfl,Aa (λ_=>h),Aa (λd=>(by cases d))⟩
 exact⟨false,rfl,Aa (λd=>(by cases d)),Aa (λ_=>h)⟩
end
section
open Go.Maps
attribute [local go_sem ↓] wp_at_zero wp_at_succ
def MF:madeCells #[I6 0] 3=#[I6 0,I6 0,I6 0]:=qf
def Zx(w):(Instr.makeSlice 30 (I6 0) (I6 3)).run prog w=.ok (.slice (some ⟨w.heap.size,0,none⟩) 0 3) (w.alloc (.cells #[I6 0,I6 0,I6 0] 3)):=by
 obtain⟨i,d,O,Y,b⟩:=info_parts MB;have a:=run_make (P:=prog) w 30 3 i _ underlying30 d O .i64 .i64 0 3 qd qd (by rw[b];omega) qd;rw[a,Y];exact congrArg (λc=>Result.ok (Value.slice (some ⟨w.heap.size,0,none⟩) 0 3) (w.alloc (.cells c 3))) MF
def QL{w:World}{base g}(h:w.heap[g]?=some (.cells #[I6 0,I6 0,I6 0] 3 (0,0)))(a:base<=g):w.ownsRow base 3 1 (.slice (some ⟨g,0,none⟩) 0 3) 0 (Am []):=
 ⟨rfl,.inr ⟨g,3,_,rfl,a,h,qd,qm,rfl,rfl⟩⟩
def gQ{T:List F}{k f}(h:T[k]?=some f):(T.take (k+1)).map (·.tag)=(T.take k).map (·.tag)++[f.tag]:=by
 rw[yY,h];simp
def Gr(x0 x1 a w):(Instr.index 111 (.agg #[x0,x1,a]) (I6 0)).run prog w=.ok x0 w/\(Instr.index 111 (.agg #[x0,x1,a]) (I6 1)).run prog w=.ok x1 w/\(Instr.index 111 (.agg #[x0,x1,a]) (I6 2)).run prog w=.ok a w:=⟨qf,qf,qf⟩
def b_(xs:List Int)(w:World)(e:Ending)(w':World):Prop:=(∃a c,e=.returned (.slice a xs.length c)/\w'.ownsRow w.heap.size 3 1 (.slice a xs.length c) xs.length (Am xs))/\Bw w w'
def Z7{P:Prop}(h:P:=by
 obtain⟨f,hf⟩:=AJ hk
 first
  | (have _:=tP7
     obtain⟨pv,hp,Y⟩:=TR.o 0 f hf)
  |(obtain⟨pv,hp,Y⟩:=TR.o 1 f hf)
 simp at hp;subst hp;obtain⟨fb,fo,he,c0,_⟩:=Y;injection he with he;subst he;have O:=Aa (gQ hf)
 first
  | (have _:=tP7
     obtain⟨n,hn⟩:∃n,n=((T.take 0).map (·.tag)).length:=⟨_,rfl⟩
     obtain⟨xs,af⟩:∃xs,xs=(T.take 0).map (·.tag):=⟨_,rfl⟩)
  | (obtain ⟨n,hn⟩:∃ n,n=((T.take 1).map (·.tag)).length:=⟨_,rfl⟩
     obtain⟨xs,af⟩:∃xs,xs=(T.take 1).map (·.tag):=⟨_,rfl⟩)
 rw[<-af]at ROW hln hn O⊢;rw[<-hn]at ROW hln⊢;have HN:=Aa hn;clear hf hk hn af TR
 first
  | (have _:=tP7
     obtain⟨j0,j1,j2⟩:(∀w,_)/\(∀w,_)/\(∀w,_):=⟨λw=>(Gr (.pointer (some ⟨fb,fo,none⟩)) (.pointer p1) (.pointer p2) w).1,λw=>(Gr (.pointer (some ⟨fb,fo,none⟩)) (.pointer p1) (.pointer p2) w).2.1,λw=>(Gr (.pointer (some ⟨fb,fo,none⟩)) (.pointer p1) (.pointer p2) w).2.2⟩)
  |(obtain⟨j0,j1,j2⟩:(∀w,_)/\(∀w,_)/\(∀w,_):=⟨λw=>(Gr (.pointer p0) (.pointer (some ⟨fb,fo,none⟩)) (.pointer p2) w).1,λw=>(Gr (.pointer p0) (.pointer (some ⟨fb,fo,none⟩)) (.pointer p2) w).2.1,λw=>(Gr (.pointer p0) (.pointer (some ⟨fb,fo,none⟩)) (.pointer p2) w).2.2⟩)
 go_wp2_with (first|(at_builtin;refine EU (by rfl) (.tmp 13) (.tmp 18) 30 (by rfl) w.heap.size 3 _ 1 8 underlying30 MB (by rfl) (by omega) _ n _ (by rfl) (Bg ROW.o (HWR.o _)) (some ⟨_,0,none⟩) 1 1 (by rfl) [I6 f.tag] (by rfl) (λe=>by cases e) (Et _ _ _ _ (by simp)) (by intro u hu;simp at hu;subst hu;rfl) (by unfold maxLen;omega) (by omega) (by simp;omega) ?_;intro a2 c2 w7 ai ah aj)|fail);obtain⟨T7,B7⟩:=Ak (show w7.ownsRow w.heap.size 3 1 (.slice a2 (n+1) c2) (n+1) (Am (xs++[f.tag])) by have:=ai.o;rw[U_];simpa using this) ((BR.o.j ((HWR.o _).ac BR.o.size)).grown ah.o (by simp;omega) (λg hg=>(ROW.o.lt g hg).1));clear ai ah aj;go_roundw
 first
  | (have _:=tP7
     case rel=>exact⟨1,1,a2,c2,by go_num,rfl,by omega,by rw[O.o,yR,<-HN.o];rfl,by rw[O.o,yR,<-HN.o];exact T7.o,B7.o⟩)
  |(case rel=>exact⟨2,2,a2,c2,by go_num,rfl,by omega,by rw[O.o,yR,<-HN.o];rfl,by rw[O.o,yR,<-HN.o];exact T7.o,B7.o⟩)
 case measure=>(simp[intOf])
 ):P:=h
def zmv(p0 p1 p2 T w)(m:Iv w p0 p1 p2 T) :
  Ca 59 #[.agg #[.pointer p0,.pointer p1,.pointer p2]] w (b_ (T.map (·.tag)) w):=by
 have i:=Aa m;have B:=m.le;have C:=Zx;clear m;go_enter func59,ntmps59;go_upto_region 2 with fail;refine Bo ?_;intro H p aj r;obtain⟨x,y,t2⟩:=Ao aj;obtain⟨v,s⟩:=Ak p (QL (base:=w.heap.size) r (Kr _));clear p aj r C;go_wp2_with fail;clear x y t2
 go_loopw [8,3] (λiv t wr=>∃(k:Nat)(b:Int)(a:Option Addr)(c:Nat),iv=I6 b/\b=(k:Int)/\k<=3/\t=.slice a ((T.take k).map (·.tag)).length c/\wr.ownsRow w.heap.size 3 1 (.slice a ((T.take k).map (·.tag)).length c) ((T.take k).map (·.tag)).length (Am ((T.take k).map (·.tag)))/\Bw w wr) (λiv _ _=>3-(intOf iv).toNat)
 case atStart=>exact⟨0,0,_,3,rfl,rfl,yA _,rfl,s.o,v.o⟩
 case round=>
  obtain⟨k,b,a,c,rfl,Y,G,rfl,af,l⟩:=hrel;obtain⟨ROW,BR,TR⟩:=AQ af l (i.o.tok.J l);have E:=l.size;have hln:((T.take k).map (·.tag)).length<=3:=by rw[yp,Yo];omega
  have HWR:=Aa (λo'=>Aj.alloc AA o':∀o',Bw wr (wr.alloc o'));clear af l;rcases(show k=0∨k=1∨k=2∨k=3 by omega) with rfl|rfl|rfl|rfl
  .obtain rfl:b=0:=qd;clear Y;by_cases hk:0<T.length
   .have tP7:=trivial;exact Z7
   have d:=i.o.z0 qd;subst d;have O:=Aa (show T.take (0+1)=T.take 0 by rw[yu qd,yu qd]);obtain⟨j0,j1,j2⟩:(∀w,_)/\(∀w,_)/\(∀w,_):=⟨λw=>(Gr (.pointer none) (.pointer p1) (.pointer p2) w).1,λw=>(Gr (.pointer none) (.pointer p1) (.pointer p2) w).2.1,λw=>(Gr (.pointer none) (.pointer p1) (.pointer p2) w).2.2⟩
   go_wp2_with fail;go_roundw
   case rel=>exact⟨1,1,a,c,ql,rfl,qd,by rw[O.o],by rw[O.o];exact ROW.o,BR.o⟩
   case measure=>(simp[intOf])
  .obtain rfl:b=1:=qd;clear Y;by_cases hk:1<T.length
   .exact Z7
   have d:=i.o.z1 qd;subst d;have O:=Aa (show T.take (1+1)=T.take 1 by rw[yu qd,yu qd]);obtain⟨j0,j1,j2⟩:(∀w,_)/\(∀w,_)/\(∀w,_):=⟨λw=>(Gr (.pointer p0) (.pointer none) (.pointer p2) w).1,λw=>(Gr (.pointer p0) (.pointer none) (.pointer p2) w).2.1,λw=>(Gr (.pointer p0) (.pointer none) (.pointer p2) w).2.2⟩
   go_wp2_with fail;go_roundw
   case rel=>exact⟨2,2,a,c,ql,rfl,qd,by rw[O.o],by rw[O.o];exact ROW.o,BR.o⟩
   case measure=>(simp[intOf])
  .obtain rfl:b=2:=qd;clear Y;by_cases hk:2<T.length
   .obtain⟨f,hf⟩:=AJ hk;obtain⟨pv,hp,D⟩:=TR.o 2 f hf;simp at hp;subst hp;obtain⟨fb,fo,he,c0,_⟩:=D;injection he with he;subst he;have O:=Aa (gQ hf);obtain⟨n,hn⟩:∃n,n=((T.take 2).map (·.tag)).length:=⟨_,rfl⟩
    obtain⟨xs,ah⟩:∃xs,xs=(T.take 2).map (·.tag):=⟨_,rfl⟩
    rw[<-ah]at ROW hln hn O⊢;rw[<-hn]at ROW hln⊢;have HN:=Aa hn;clear hf hk hn ah TR;obtain⟨j0,j1,j2⟩:(∀w,_)/\(∀w,_)/\(∀w,_):=⟨λw=>(Gr (.pointer p0) (.pointer p1) (.pointer (some ⟨fb,fo,none⟩)) w).1,λw=>(Gr (.pointer p0) (.pointer p1) (.pointer (some ⟨fb,fo,none⟩)) w).2.1,λw=>(Gr (.pointer p0) (.pointer p1) (.pointer (some ⟨fb,fo,none⟩)) w).2.2⟩
    go_wp2_with (first|(at_builtin;refine EU qi (.tmp 13) (.tmp 18) 30 qi w.heap.size 3 _ 1 8 underlying30 MB qi qd _ n _ qi (Bg ROW.o (HWR.o _)) (some ⟨_,0,none⟩) 1 1 qi [I6 f.tag] qi (λe=>qp) (Et _ _ _ _ qe) Zt qm qd qg ?_;intro a2 c2 w7 q ai z)|fail);obtain⟨T7,B7⟩:=Ak (show w7.ownsRow w.heap.size 3 1 (.slice a2 (n+1) c2) (n+1) (Am (xs++[f.tag])) by have:=q.o;rw[U_];simpa using this) ((BR.o.j ((HWR.o _).ac BR.o.size)).grown ai.o qg (λg hg=>(ROW.o.lt g hg).1));clear q ai z;go_roundw
    case rel=>exact⟨3,3,a2,c2,ql,rfl,qd,by rw[O.o,yR,<-HN.o];rfl,by rw[O.o,yR,<-HN.o];exact T7.o,B7.o⟩
    case measure=>(simp[intOf])
   have d:=i.o.z2 qd;subst d;have O:=Aa (show T.take (2+1)=T.take 2 by rw[yu qd,yu qd]);obtain⟨j0,j1,j2⟩:(∀w,_)/\(∀w,_)/\(∀w,_):=⟨λw=>(Gr (.pointer p0) (.pointer p1) (.pointer none) w).1,λw=>(Gr (.pointer p0) (.pointer p1) (.pointer none) w).2.1,λw=>(Gr (.pointer p0) (.pointer p1) (.pointer none) w).2.2⟩
   go_wp2_with fail;go_roundw
   case rel=>exact⟨3,3,a,c,ql,rfl,qd,by rw[O.o],by rw[O.o];exact ROW.o,BR.o⟩
   case measure=>(simp[intOf])
  obtain rfl:b=3:=qd;clear Y;have A:=Aa (show T.take 3=T from yu B);rw[A.o]at ROW⊢;go_wp2_with fail;go_ret;exact⟨⟨a,c,by rw[yp];rfl,ROW.o⟩,BR.o⟩
end
end Go.Proofs.YtikojfajahnhgaaGreat
