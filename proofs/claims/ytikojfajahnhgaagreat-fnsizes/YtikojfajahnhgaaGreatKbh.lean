import Derived.Test.YtikojfajahnhgaaGreatKbg
set_option linter.all false
namespace Go.Proofs.YtikojfajahnhgaaGreat
attribute [local simp] At I6 Pn mzI
attribute [local go_sem] At I6 Pn
open Go.RowKit Go.Proofs.Tryz
attribute [local go_sem ↓] wp_at_zero wp_at_succ
def ZC{P:Prop}(h:P:=by
 have HN:Hid (Am x=some 0):=show Am x=some 0 from by simp[Am,Id];omega
 go_enter func167,ntmps167;go_wp2_with (go_at_call 116;refine(He x.name _ ai).j ?_;rintro e w' ⟨rfl,rfl⟩);go_ret;exact⟨EB (by rw[HN.o];rfl),Aj⟩
 ):P:=h
set_option maxHeartbeats 3200000 in
def zmp(x:Ru)(g:Option Addr)(n:Nat)(a:Option Addr)(f:Nat)(m:Option Addr)(l:Nat){q:Option Nat}(w:World)(az:Ez q w g x.v)(r:Dt q w a x.w)(aw:FI q w m x.E)(aZ:x.le 1048576)(ho:H_ x.w) :
  Ca 167 #[.agg #[.string x.name,.int .i64 x.W,.slice g x.v.length n,.slice a x.w.length f,.slice m x.E.length l]] w λe w'=>e=.returned (.int .i64 (IC (Am x)))/\Bw w w':=by
 obtain⟨aT,aW,aM,aR⟩:=aZ;have ai:x.name.size<=maxLen:=yh aT Fj;have bn:=aW.1;have bm:=aM.1;have ac:=aR.1;cases hg:Aq x.name.data.toList
 .have HN:Hid (Am x=some 0):=show Am x=some 0 from by simp[Am,Id,hg]
  go_enter func167,ntmps167;go_wp2_with (go_at_call 116;refine(He x.name _ ai).j ?_;rintro e w' ⟨rfl,rfl⟩);go_ret;exact⟨EB OV,Aj⟩
 by_cases l6:6<x.v.length
 .have a0:(6:Int)<(x.v.length:Int):=qd;exact ZC
 have a0:¬(6:Int)<(x.v.length:Int):=qd;by_cases l8:8<x.E.length
 .have a6:(8:Int)<(x.E.length:Int):=qd;exact ZC
 have a6:¬(8:Int)<(x.E.length:Int):=qd;by_cases bh:60<x.w.length
 .have aQ:(60:Int)<(x.w.length:Int):=qd;exact ZC
 have aQ:¬(60:Int)<(x.w.length:Int):=qd;have HH:Hid (Am x=match Dc C_ x.v 1 with|some i=>some i|none=>rest x):=VM x (by simp[Id,hg];omega);go_enter func167,ntmps167;go_wp2_with (go_at_call 116;refine(He x.name _ ai).j ?_;rintro e w' ⟨rfl,rfl⟩)
 go_loopw [34] (λi wr=>∃(k:Nat),k<=x.v.length/\i=.int .i64 k/\(Am x=match Dc C_ (x.v.drop k) (k+1) with|some i=>some i|none=>rest x)/\Ep wr w.heap.size x g n a f m l/\Bw w wr) (mz x.v.length)
 case atStart=>exact⟨0,qd,rfl,HH.o,Ep.aF _ _ _ _ _ _ _ _ _,Aj⟩
 case round=>
  obtain⟨k,hk,rfl,J,O,t⟩:=hrel;have HG:Hid (Am x=match Dc C_ (x.v.drop k) (k+1) with|some i=>some i|none=>rest x):=J;clear J;by_cases Y:k<x.v.length
  .obtain⟨p,aH⟩:=Ba Y;obtain⟨b,o,z,A,rfl,hq,c0,c1,c2,aj⟩:=(az.d t).get aH;have aE:=aW.2 p (yd aH);have I:Hid (x.v.drop k=p::x.v.drop (k+1)):=CF aH;cases aO:C_ p
   all_goals
    go_wp2_with (go_at_call 233;refine(zjr p z A _ (aj.d Aj) (yh aE.1 Fj) (aE.2.j Fj (Tm.j Fj)) aE.2.1).rtn λw1 L=>?_)
   .have HN:Hid (Am x=some (k+1)):=show Am x=_ from by rw[HG.o,I.o,Gw,aO];rfl
    have aA:Bw wr w1:=Aj.thn L;go_ret;exact⟨EB (by rw[HN.o];simp[IC]),t.thn aA⟩
   have HN:Hid (Am x=match Dc C_ (x.v.drop (k+1)) (k+1+1) with|some i=>some i|none=>rest x):=show Am x=_ from by rw[HG.o,I.o,Gw,aO];rfl
   have aA:Bw wr w1:=Aj.thn L;go_roundw
   case rel=>exact⟨k+1,qd,qm,HN.o,O.d aA,t.thn aA⟩
   case measure=>(simp;omega)
  have HR:Hid (Am x=rest x):=show Am x=rest x from by rw[HG.o,yy qd];rfl
  have HBX:=Aa O;obtain⟨K,M,U,R,T⟩:=O;go_wp2;clear K M U R T
  go_loopw [48] (λi H=>∃(S:List Sp),S.length<=x.w.length/\i=.int .i64 (S.length:Int)/\AU x.w S/\BD [] x.w=BD S (x.w.drop S.length)/\Ep H w.heap.size x g n a f m l/\Bw w H) (mz x.w.length)
  case atStart=>exact⟨[],qe,rfl,AU.nil _,rfl,HBX.o,t⟩
  case round=>
   clear HBX t HG hk Y;obtain⟨S,hk,rfl,hS,J,O,t⟩:=hrel;obtain⟨HG,HS,HBX⟩:=AA J hS O;clear J hS;obtain⟨K,M,U,R,T⟩:=O;by_cases Y:S.length<x.w.length
   .obtain⟨e,ao⟩:∃e,x.w[S.length]?=some e:=⟨x.w[S.length],by simp[Y]⟩
    have I:Hid (x.w.drop S.length=e::x.w.drop (S.length+1)):=CF ao;have a5:=(aM.j Fj (Ex.j Fj)).2 e (yd ao);obtain⟨a3,aY⟩:=ho e (yd ao);have ax:=Aa (λw' h=>ziw a f x.w S e w' (q:=q) h qd HS.o ao a5 a3 aY);cases Z:Bl S e with
    |none=>
     rw[Z]at ax;have HN:Hid (Am x=some (S.length+1)):=show Am x=_ from by
      have h1:BD [] x.w=S:=by rw[HG.o,I.o,BD,Z]
      rw[HR.o];unfold rest;rw[h1,if_pos Y]
     go_wp2_with (go_at_call 234;refine(ax.o _ (r.d t)).j ?_;rintro e' w1 ⟨rfl,L⟩);go_ret;exact⟨EB (by rw[HN.o];simp[IC]),t.thn L⟩
    |some s=>
     rw[Z]at ax;have HN:Hid (BD [] x.w=BD (S++[s]) (x.w.drop (S.length+1))):=show BD [] x.w=_ from by rw[HG.o,I.o,BD,Z]
     go_wp2_with (go_at_call 234;refine(ax.o _ (r.d t)).j ?_;rintro e' w1 ⟨rfl,L⟩);go_roundw
     case rel=>exact⟨S++[s],qf,qe,HS.o.snoc ao Z,by rw[HN.o];simp,HBX.o.d L,t.thn L⟩
     case measure=>(simp;omega)
   have ar:S.length=x.w.length:=qd;have h1:BD [] x.w=S:=by
    exact QK
   have a7:Hid (Am x=FP S x.E 0 1):=show Am x=_ from by
    rw[HR.o];unfold rest;rw[h1,if_neg qd]
   have aI:=Aa ar;clear h1 HG HR ar;have bg:w.heap.size<wr.heap.size:=LZ K;go_wp2;obtain⟨N,rfl⟩:∃u,u=wr:=⟨wr,rfl⟩
   have aU:Bw w (N.alloc (.cells #[.int .i64 0] 3)):=t.alloc t.size _;have aC:=HBX.o.d (w':=N.alloc (.cells #[.int .i64 0] 3)) Aj;clear K M U R T HBX
   go_loopw [62] (λi H=>∃(k B:Nat),k<=x.E.length/\i=.int .i64 k/\B<=60/\Am x=FP S (x.E.drop k) B (k+1)/\At H N.heap.size 0 (.int .i64 (B:Int))/\H.frozen? ⟨N.heap.size,0,none⟩=false/\N.heap.size<H.heap.size/\Ep H w.heap.size x g n a f m l/\Bw w H) (mz x.E.length)
   case atStart=>exact⟨0,0,qd,rfl,qd,a7.o,ql,ql,qe,aC,aU⟩
   case round=>
    clear aU aC t;obtain⟨k,B,bi,rfl,a4,J,aK,aJ,aD,O,t⟩:=hrel;obtain⟨HG,HBX⟩:=Ah J O;clear J;obtain⟨K,M,U,R,T⟩:=O;by_cases aV:k<x.E.length
    .obtain⟨y,aG⟩:=Ba aV;obtain⟨b,o,G,D,rfl,hq,c0,c1,c2,c3,ak⟩:=aw.get aG;have d0:=zab t c0;have d1:=zab t c1;have d2:=zab t c2;have d3:=zab t c3;clear c0 c1 c2 c3;have aL:=aR.2 y (yd aG);have I:Hid (x.E.drop k=y::x.E.drop (k+1)):=CF aG;have C:∀o,Bw w (wr.alloc o):=λo=>t.alloc t.size _;have ay:=Aa (λw' h0 hp hf ab=>zjo x g n a f (some ⟨b,o,none⟩) l y G D N.heap.size B S (q:=q) w w' h0 r ak HS.o aI.o qd (yh aL.1 Fj) aL.2 hp hf qd ab a4);have bc:∀o,(wr.alloc o).cell? ⟨w.heap.size,0,none⟩=_:=λo=>zab (E6 o) K;have bd:∀o,(wr.alloc o).cell? ⟨w.heap.size,1,none⟩=_:=λo=>zab (E6 o) M;have bf:∀o,(wr.alloc o).cell? ⟨w.heap.size,2,none⟩=_:=λo=>zab (E6 o) U;have bj:∀o,(wr.alloc o).cell? ⟨w.heap.size,3,none⟩=_:=λo=>zab (E6 o) R;have bl:∀o,(wr.alloc o).cell? ⟨w.heap.size,4,none⟩=_:=λo=>zab (E6 o) T;clear K M U R T;cases aB:BO S y B with
     |none=>
      rw[aB]at ay;have HN:Hid (Am x=some (k+1)):=show Am x=_ from by rw[HG.o,I.o,OH,aB]
      go_wp2_with (go_at_call 235;refine(ay.o _ (C _) (zab Aj aK) (by rw[(Aw Aj).2 _ _ aD];exact aJ) qf).rtn λw3⟨au,aN,aP⟩=>?_);go_ret;exact⟨EB (by rw[HN.o];simp[IC]),(C _).c (au.j qd)⟩
     |some aF=>
      rw[aB]at ay;have HN:Hid (Am x=FP S (x.E.drop (k+1)) aF (k+1+1)):=show Am x=_ from by rw[HG.o,I.o,OH,aB]
      go_wp2_with (go_at_call 235;refine(ay.o _ (C _) (zab Aj aK) (by rw[(Aw Aj).2 _ _ aD];exact aJ) qf).rtn λw3⟨au,aN,aP⟩=>?_);obtain⟨aS,a8⟩:=aN aF rfl;have aX:=au.size;go_roundw
      case rel=>exact⟨k+1,aF,qd,qm,aS,HN.o,a8,aP,by simp at aX;omega,(HBX.o.d Aj).aq au qd,(C _).c (au.j qd)⟩
      case measure=>(simp;omega)
    have e0:x.E.drop k=[]:=yy qd;have HE:Hid (Am x=if B=S.length then none else some (k+1)):=show Am x=_ from by rw[HG.o,e0];rfl
    have bk:k=x.E.length:=qd;by_cases a9:B=x.w.length
    .have aa:((B:Int) != (x.w.length:Int))=false:=by simp;omega
     go_wp2;go_ret;exact⟨EB (by rw[HE.o,if_pos (by have:=aI.o;omega)];rfl),t⟩
    have aa:((B:Int) != (x.w.length:Int))=true:=by simp;omega
    go_wp2;go_ret;exact⟨EB (by rw[HE.o,if_neg (by have:=aI.o;omega)];simp[IC];omega),t⟩
def Rz(b:Nat)(w:World):Prop:=(∀j,j<3->w.cell? ⟨b,j,none⟩=some (.int .i64 0))/\(∀j,w.frozen? ⟨b,j,none⟩=false)/\b<w.heap.size
def Rz.d{b:Nat}{w w':World}(h:Rz b w)(a:Bw w w'):Rz b w':=
 ⟨λj hj=>zab a (h.1 j hj),λj=>by rw[(Aw a).2 _ _ h.2.2];exact h.2.1 j,yg h.2.2 a.size⟩
def Rz.get{b:Nat}{w:World}(h:Rz b w):At w b 0 (I6 0)/\At w b 1 (I6 0)/\At w b 2 (I6 0)/\w.frozen? ⟨b,0,none⟩=false/\w.frozen? ⟨b,1,none⟩=false/\w.frozen? ⟨b,2,none⟩=false:=
 ⟨h.1 0 qd,h.1 1 qd,h.1 2 qd,h.2.1 0,h.2.1 1,h.2.1 2⟩
def Rz.aF(w:World)(t:TypeId):Rz w.heap.size (w.alloc (.cells #[I6 0,I6 0,I6 0] t)):=
 ⟨λj hj=>qV,λj=>ql,qe⟩
end Go.Proofs.YtikojfajahnhgaaGreat
