import Derived.Test.YtikojfajahnhgaaGreatKbe
set_option linter.all false
set_option maxHeartbeats 12800000
set_option maxRecDepth 100000
namespace Go.Proofs.YtikojfajahnhgaaGreat
attribute [local simp] At I6 Pn mzI
attribute [local go_sem] At I6 Pn
open Go.RowKit Go.Proofs.Tryz
variable{P:Prop}
section
attribute [local go_sem ↓] wp_at_zero wp_at_succ
def QF(x:Ru)(a m f c j g){q}(w)(O:Ez q w a x.v)(hl:x.v.length<=1048576) :
  Ca 83 #[.agg #[.string x.name,I6 x.W,.slice a x.v.length m,.slice f x.w.length c,.slice j x.E.length g]] w λe w'=>
   e=.returned (I6 (Ad x.v:Int))/\Bw w w':=by
 go_enter func83,ntmps83;exact oq
def Gw{α}(f)(x:α)(r k):Dc f (x::r) k=if f x then Dc f r (k+1) else some k:=rfl
def DX:Option Nat->Int
 |none=>0
 |some i=>(i:Int)
def pF(h:P:=by
 have HB:Hid (Ch x=some (x.v.length+1+k)):=GD.o.2 (by
  rcases O with h|h<;>simp[DF,h]<;>omega)
 rcases O with h|h
 all_goals
  go_wp2;go_ret;exact⟨EB (by rw[HB.o];simp[DX];omega),B1 _⟩
 ):=h
def zlv(x f g n p j m){q}(w)(U:Ez q w f x.v)(Z:FI q w j x.E)(hl:x.v.length<=1048576)(ax:x.E.length<=1048576) :
  Ca 146 #[.agg #[.string x.name,I6 x.W,.slice f x.v.length g,.slice n x.w.length p,.slice j x.E.length m]] w λe w'=>
   e=.returned (I6 (DX (Ch x)))/\Bw w w':=by
 have aw:Ad x.v<=x.v.length:=WD;go_enter func146,ntmps146;go_wp2_with (go_at_call 83;refine(QF x f g n p j m _ (U.d Aj) hl).rtn λz af=>?_;have J:At z w.heap.size 2 (.slice f x.v.length g):=zab af ql;have T:At z w.heap.size 4 (.slice j x.E.length m):=zab af ql);have R:Bw w z:=Aj.thn af;have A:w.heap.size<z.heap.size:=by have:=af.size;simp at this;omega
 clear af T
 go_loopw [12] (λi wr=>∃(k:Nat),k<=x.E.length/\i=I6 k/\Ch x=Dc (DF (Ad x.v)) (x.E.drop k) (x.v.length+1+k)/\At wr w.heap.size 2 (.slice f x.v.length g)/\w.heap.size<wr.heap.size/\Bw w wr) (mz x.E.length)
 case atStart=>exact⟨0,qd,rfl,rfl,J,A,R⟩
 case round=>
  obtain⟨k,hk,rfl,H,L,K,hb⟩:=hrel;have HG:Hid (Ch x=Dc (DF (Ad x.v)) (x.E.drop k) (x.v.length+1+k)):=H;clear H;by_cases M:k<x.E.length
  .obtain⟨y,B⟩:=Ba M;obtain⟨b,o,s,t,rfl,hq,c0,c1,c2,c3,r⟩:=(Z.d hb).get B;have G:Hid (x.E.drop k=y::x.E.drop (k+1)):=CF B;have B1:∀o,Bw w (wr.alloc o):=λo=>hb.alloc hb.size _;have D:∀o,At (wr.alloc o) w.heap.size 2 (.slice f x.v.length g):=λo=>by
    have:Bw wr (wr.alloc o):=Aj;exact zab this L
   have C:∀o,w.heap.size<(wr.alloc o).heap.size:=λo=>by simp;omega
   have good:DF (Ad x.v) y=true->Ch x=Dc (DF (Ad x.v)) (x.E.drop (k+1)) (x.v.length+1+(k+1)):=λh=>by
    rw[HG.o,G.o,Gw,h];rfl
   have I:DF (Ad x.v) y=false->Ch x=some (x.v.length+1+k):=λh=>by
    rw[HG.o,G.o,Gw,h];rfl
   obtain⟨GD⟩:Nonempty (Hid ((DF (Ad x.v) y=true->Ch x=Dc (DF (Ad x.v)) (x.E.drop (k+1)) (x.v.length+1+(k+1)))/\(DF (Ad x.v) y=false->Ch x=some (x.v.length+1+k)))):=⟨⟨good,I⟩⟩
   clear good I;by_cases O:y.u=2∨y.u=3
   .by_cases r0:y.k<1
    .exact pF
    by_cases r1:(Ad x.v:Int)<y.k
    .exact pF
    have HB:Hid (Ch x=Dc (DF (Ad x.v)) (x.E.drop (k+1)) (x.v.length+1+(k+1))):=GD.o.1 (by
     rcases O with h|h<;>simp[DF,h]<;>omega)
    rcases O with h|h
    all_goals
     go_wp2;go_roundw
     case rel=>exact⟨k+1,qd,qm,HB.o,D _,C _,B1 _⟩
     case measure=>(simp;omega)
   have Y:(y.u==2)=false:=by simp;omega
   have N:(y.u==3)=false:=by simp;omega
   have HB:Hid (Ch x=Dc (DF (Ad x.v)) (x.E.drop (k+1)) (x.v.length+1+(k+1))):=GD.o.1 (by simp[DF,Y,N]);go_wp2;go_roundw
   case rel=>exact⟨k+1,qd,qm,HB.o,D _,C _,B1 _⟩
   case measure=>(simp;omega)
  exact oL
end
section
open Go.Maps
attribute [local go_sem ↓] wp_at_zero wp_at_succ
def Ob(v:Value):Option (DataW Unit × List MemPlace):=
 match v with
 |.agg a=>if a.size=0 then some (.lit (.bool true),[]) else none
 |_=>none
def zM{v z}(h:Ob v=some z):v=.agg #[]:=by
 unfold Ob at h;split at h
 .rename_i a;split at h
  .rename_i O;rw[Array.eq_empty_of_size_eq_zero O]
  .cases h
 cases h
def Rh:Keyed prog 9:=string_keyed underlying9
def DW(known:List ByteArray)(D:DataW Unit):Prop:=∀s:ByteArray,s.size<=maxLen->has D (.string s.data.toList)=Bu s known
def DW.start:DW [] (.map []):=λ_ _=>rfl
def zA(s v a):Bu s (a++[v])=(Bu s a||decide (v=s)):=by
 simp[Bu,List.any_append]
def DW.put{a D v}(h:DW a D)(c:IsMap D)(d):DW (a++[v]) (D.put (.string v.data.toList) d):=by
 intro s f;rw[zA];by_cases b:v=s
 .subst b;rw[has_put_same c (k:=.string v.data.toList) trivial d,decide_eq_true rfl,Bool.or_true]
 rw[has_put_other (λe=>b (by injection e with e;exact(K7 e).y)) d,h s f,decide_eq_false b,Bool.or_false]
abbrev CZ(w:World)(b n:Nat)(D:DataW Unit):Prop:=w.ownsMap prog 9 Ob b n D
def fS(w):(zeroValue 308).run prog w=.ok (.agg #[]) w:=qg
def zB{w b n D a}(h:CZ w b n D)(d:DW a D){s}(c:s.size<=maxLen) :
  (Instr.lookup 230 (.map (some b)) (.string s) true).run prog w=.ok (.tuple #[.agg #[],.bool (Bu s a)]) w:=by
 obtain⟨v,e,O,hv⟩:=h.look_ok Rh (t:=230) underlying230 (fS w) (show Ob (.agg #[])=some (.lit (.bool true),[]) from rfl) (KQ underlying9 c);rw[O,d s c,zM hv]
def vh(b n D a s w)(h:CZ w b n D)(c:DW a D)(d:s.size<=maxLen) :
  Ca 142 #[.map (some b),.string s] w λe w'=>e=.returned (.bool (Bu s a))/\Bw w w':=by
 have hl:=zB h c d;go_enter func142,ntmps142;go_wp2;go_ret;exact⟨rfl,Aj⟩
def Vo(b n D a s)(c:DW a D)(d:s.size<=maxLen):Hid (∀w,CZ w b n D->Ca 142 #[.map (some b),.string s] w λe w'=>e=.returned (.bool (Bu s a))/\Bw w w'):=
 λw h=>vh b n D a s w h c d
def zU(b n D f a c es w){q}(h:CZ w b n D)(y:DW f D)(hv:Dt q w a es)(hl:es.length<=1048576)(C:∀e∈es,e.A.size<=maxLen) :
  Ca 202 #[.map (some b),.slice a es.length c] w λe w'=>e=.returned (.bool (es.all (D_ f)))/\Bw w w':=by
 go_enter func202,ntmps202;go_wp2
 go_loopw [9] (λi wr=>∃(k:Nat),k<=es.length/\i=I6 k/\es.all (D_ f)=(es.drop k).all (D_ f)/\Bw w wr) (mz es.length)
 case atStart=>exact⟨0,qd,rfl,rfl,An⟩
 case round=>
  obtain⟨k,R,rfl,v,hb⟩:=hrel;have HG:Hid (es.all (D_ f)=(es.drop k).all (D_ f)):=v;clear v;by_cases E:k<es.length
  .obtain⟨e,O⟩:=Ba E;obtain⟨J,o,rfl,H,T,L,G,U,N,Y,K,I⟩:=(hv.d hb).get O;have p:Hid (es.drop k=e::es.drop (k+1)):=CF O;have x:=C e (yd O);have B:=h.lt;have z:Hid (CZ wr b n D):=show CZ wr b n D from by
    obtain⟨m1,m2,m3,m4⟩:=h;exact⟨m1,m2,(hb.block b B).c m3,m4⟩
   have g:∀o,Bw w (wr.alloc o):=λo=>hb.alloc hb.size _;cases t:(e.u==1)
   .have l:Hid (D_ f e=true):=show D_ f e=true from by simp[D_,t]
    go_wp2;go_roundw
    case rel=>exact⟨k+1,qd,qm,by rw[HG.o,p.o,YP,l.o];rfl,g _⟩
    case measure=>(simp;omega)
   have l:Hid (D_ f e=Bu e.A f):=show D_ f e=_ from by simp[D_,t]
   cases m:Bu e.A f
   all_goals
    have r:=Vo b n D f e.A y x;rw[m]at r;go_wp2_with (go_at_call 142;refine(r.o _ (z.o.alloc _)).j ?_;rintro M W ⟨rfl,s⟩)
   .go_ret;exact⟨AL (by rw[HG.o,p.o,YP,l.o,m];rfl),(g _).c (s.j (g _).size)⟩
   go_roundw
   case rel=>exact⟨k+1,qd,qm,by rw[HG.o,p.o,YP,l.o,m];rfl,(g _).c (s.j (g _).size)⟩
   case measure=>(simp;omega)
  exact QR
end
section
attribute [local go_sem ↓] wp_at_zero wp_at_succ
def rest(x:Ru):Option Nat:=if(BD [] x.w).length<x.w.length then some ((BD [] x.w).length+1) else FP (BD [] x.w) x.E 0 1
def VM(x:Ru)(h:Id x=true):Am x=match Dc C_ x.v 1 with|some i=>some i|none=>rest x:=by
 unfold Am rest;rw[if_pos h];cases Dc C_ x.v 1<;>rfl
def OH(S:List Sp)(a:Ac)(r:List Ac)(nx k:Nat):FP S (a::r) nx k=match BO S a nx with|none=>some k|some nx'=>FP S r nx' (k+1):=rfl
def oo(h:P:=by go_enter func144,ntmps144;go_wp2_with (go_at_call 197;refine(IM x.name _ ak).j ?_;rintro e w' ⟨rfl,rfl⟩);refine bodyPost_ret (v:=.tuple #[I6 0,.bool false]) (by simp[results,results144,go_sem]) rfl ⟨⟨0,by rw[HN.o];rfl,λi h=>(by rw[HN.o]at h;injection h with h;subst h;rfl)⟩,Aj⟩):=h
def Zo(h:P:=by
 have HN:Hid (Am x=some 0):=show Am x=some 0 from by simp[Am,Id];omega
 exact oo
 ):=h
def zg(x f r a c g m){q}(w)(az:Ez q w f x.v)(s:Dt q w a x.w)(ay:FI q w g x.E)(a4:x.le 1048576)(ho:H_ x.w) :
  Ca 144 #[.agg #[.string x.name,I6 x.W,.slice f x.v.length r,.slice a x.w.length c,.slice g x.E.length m]] w λe w'=>
   (∃i:Int,e=.returned (.tuple #[I6 i,.bool (Am x).isNone])/\∀n,Am x=some n->i=(n:Int))/\Bw w w':=by
 obtain⟨aU,aX,aE,aS⟩:=a4;have ak:x.name.size<=maxLen:=yh aU Fj;have bd:=aX.1;have bc:=aE.1;have ab:=aS.1;cases hg:Aq x.name.data.toList
 .have HN:Hid (Am x=some 0):=show Am x=some 0 from by simp[Am,Id,hg]
  exact oo
 by_cases l6:6<x.v.length
 .have a5:(6:Int)<(x.v.length:Int):=qd;exact Zo
 have a5:¬(6:Int)<(x.v.length:Int):=qd;by_cases l8:8<x.E.length
 .have a7:(8:Int)<(x.E.length:Int):=qd;exact Zo
 have a7:¬(8:Int)<(x.E.length:Int):=qd;by_cases a8:60<x.w.length
 .have aR:(60:Int)<(x.w.length:Int):=qd;exact Zo
 have aR:¬(60:Int)<(x.w.length:Int):=qd;have HH:Hid (Am x=match Dc C_ x.v 1 with|some i=>some i|none=>rest x):=VM x (by simp[Id,hg];omega);go_enter func144,ntmps144;go_wp2_with (go_at_call 197;refine(IM x.name _ ak).j ?_;rintro e w' ⟨rfl,rfl⟩)
 go_loopw [35] (λi wr=>∃(k:Nat),k<=x.v.length/\i=I6 k/\(Am x=match Dc C_ (x.v.drop k) (k+1) with|some i=>some i|none=>rest x)/\Ep wr w.heap.size x f r a c g m/\Bw w wr) (λi _=>x.v.length-(intOf i).toNat)
 case atStart=>exact⟨0,qd,rfl,HH.o,Ep.aF _ _ _ _ _ _ _ _ _,Aj⟩
 case round=>
  obtain⟨k,hk,rfl,N,au,G⟩:=hrel;have HG:Hid (Am x=match Dc C_ (x.v.drop k) (k+1) with|some i=>some i|none=>rest x):=N;clear N;by_cases a3:k<x.v.length
  .obtain⟨p,aK⟩:=Ba a3;obtain⟨b,o,B,A,rfl,hq,c0,c1,c2,am⟩:=(az.d G).get aK;have aD:=aX.2 p (yd aK);have M:Hid (x.v.drop k=p::x.v.drop (k+1)):=CF aK;cases aO:C_ p
   all_goals
    go_wp2_with (go_at_call 198;refine(ml p B A _ (am.d Aj) (yh aD.1 Fj) (aD.2.j Fj (Tm.j Fj)) aD.2.1).rtn λL D=>?_)
   .have HN:Hid (Am x=some (k+1)):=show Am x=_ from by rw[HG.o,M.o,Gw,aO];rfl
    have aA:Bw wr L:=Aj.thn D;refine bodyPost_ret (v:=.tuple #[I6 ((k:Int)+1),.bool false]) ZW rfl ⟨⟨(k:Int)+1,OV,λi h=>(by rw[HN.o]at h;injection h with h;subst h;simp)⟩,G.thn aA⟩
   have HN:Hid (Am x=match Dc C_ (x.v.drop (k+1)) (k+1+1) with|some i=>some i|none=>rest x):=show Am x=_ from by rw[HG.o,M.o,Gw,aO];rfl
   have aA:Bw wr L:=Aj.thn D;go_roundw
   case rel=>exact⟨k+1,qd,qm,HN.o,au.d aA,G.thn aA⟩
   case measure=>simp[intOf];omega
  have HR:Hid (Am x=rest x):=show Am x=rest x from by rw[HG.o,yy qd];rfl
  have HBX:=Aa au;obtain⟨q0,q1,q2,q3,q4⟩:=au;obtain⟨aH,a0⟩:=TA (es:=x.w) (l:=x.w) (AU.nil x.w) rfl;have aa:=aH.1;have HS:=Aa aH;clear aH a0;by_cases O:(BD [] x.w).length=x.w.length
  .have Y:Hid (rest x=FP (BD [] x.w) x.E 0 1):=show rest x=_ from by unfold rest;rw[if_neg qd]
   have aM:decide ((BD [] x.w).length=x.w.length)=true:=decide_eq_true O;have aY:=Aa O;clear O;go_wp2_with (go_at_call 199;refine(kg x f r a c g m _ (s.d G) qd (aE.j Fj (Ex.j Fj)) ho).j ?_;rintro e L ⟨⟨ax,aJ,rfl,aC⟩,D⟩;have r4:=zab D q4);have aQ:=HBX.o.d D;have a6:Bw w L:=G.thn D;clear q0 q1 q2 q3 q4 r4 HBX D aM
   go_loopw [7,59] (λnv i aI=>∃(k C:Nat),k<=x.E.length/\i=I6 k/\nv=I6 (C:Int)/\C<=60/\Am x=FP (BD [] x.w) (x.E.drop k) C (k+1)/\Ep aI w.heap.size x f r a c g m/\Gs none aI ax (BD [] x.w)/\Bw w aI) (λ_ i _=>x.E.length-(intOf i).toNat)
   case atStart=>exact⟨0,0,qd,rfl,rfl,qd,by rw[HR.o,Y.o];rfl,aQ,aC,a6⟩
   case round=>
    obtain⟨k,C,hk,rfl,rfl,aV,N,ai,ao,J⟩:=hrel;obtain⟨H,aP⟩:=Ah N ai;clear N;by_cases aW:k<x.E.length
    .obtain⟨y,aG⟩:=Ba aW;obtain⟨b,o,u,z,rfl,hq,c0,c1,c2,c3,t⟩:=(ay.d J).get aG;have T:=aS.2 y (yd aG);have M:Hid (x.E.drop k=y::x.E.drop (k+1)):=CF aG;clear ai;cases U:BO (BD [] x.w) y C with
     |none=>
      have HN:Hid (Am x=some (k+1)):=show Am x=_ from by rw[H.o,M.o,OH,U]
      have K:=Aa (λw h1 h2=>mm y u z ax aJ (BD [] x.w) C (q:=q) (q':=none) w h1 h2 qd (yh T.1 Fj) T.2 aV);rw[U]at K;go_wp2_with (go_at_call 200;refine(K.o _ (t.d Aj) (ao.d Aj)).j ?_;rintro e w3 ⟨⟨v,rfl,aN⟩,aL⟩);have I:Bw wr w3:=Aj.thn aL;refine bodyPost_ret (v:=.tuple #[I6 ((k:Int)+1),.bool false]) ZW rfl ⟨⟨(k:Int)+1,OV,λi h=>(by rw[HN.o]at h;injection h with h;subst h;simp)⟩,J.thn I⟩
     |some aF=>
      have HN:Hid (Am x=FP (BD [] x.w) (x.E.drop (k+1)) aF (k+1+1)):=show Am x=_ from by rw[H.o,M.o,OH,U]
      have K:=Aa (λw h1 h2=>mm y u z ax aJ (BD [] x.w) C (q:=q) (q':=none) w h1 h2 qd (yh T.1 Fj) T.2 aV);rw[U]at K;go_wp2_with (go_at_call 200;refine(K.o _ (t.d Aj) (ao.d Aj)).j ?_;rintro e w3 ⟨⟨v,rfl,aN⟩,aL⟩;obtain⟨rfl,aT⟩:=aN aF rfl);have I:Bw wr w3:=Aj.thn aL;go_roundw
      case rel=>exact⟨k+1,aF,qd,qm,rfl,aT,HN.o,aP.o.d I,ao.d I,J.thn I⟩
      case measure=>simp[intOf];omega
    have e0:x.E.drop k=[]:=yy qd;obtain⟨q0,q1,q2,q3,q4⟩:=ai;have a9:k=x.E.length:=qd;have Z:Hid (Am x=if C=(BD [] x.w).length then none else some (k+1)):=show Am x=_ from by rw[H.o,e0];rfl
    go_wp2;by_cases R:C=(BD [] x.w).length
    .refine bodyPost_ret (v:=.tuple #[I6 ((x.E.length:Int)+1),.bool true]) (by simp[results,results144,go_sem,R]) rfl ⟨⟨_,by rw[Z.o,if_pos R];rfl,λi h=>(by rw[Z.o,if_pos R]at h;cases h)⟩,J⟩
    have aZ:((C:Int)==((BD [] x.w).length:Int))=false:=by simp;omega
    refine bodyPost_ret (v:=.tuple #[I6 ((x.E.length:Int)+1),.bool false]) (by simp[results,results144,go_sem];omega) rfl ⟨⟨_,by rw[Z.o,if_neg R];rfl,λi h=>(by rw[Z.o,if_neg R]at h;injection h with h;subst h;simp;omega)⟩,J⟩
  have Y:Hid (rest x=some ((BD [] x.w).length+1)):=show rest x=_ from by unfold rest;rw[if_pos qd]
  have aM:decide ((BD [] x.w).length=x.w.length)=false:=decide_eq_false O;have aY:=Aa O;clear O;go_wp2_with (go_at_call 199;refine(kg x f r a c g m _ (s.d G) qd (aE.j Fj (Ex.j Fj)) ho).j ?_;rintro e L ⟨⟨ax,aJ,rfl,aC⟩,D⟩);refine bodyPost_ret (v:=.tuple #[I6 (((BD [] x.w).length:Int)+1),.bool false]) ZW rfl ⟨⟨((BD [] x.w).length:Int)+1,by rw[HR.o,Y.o];rfl,λi h=>(by rw[HR.o,Y.o]at h;injection h with h;subst h;simp)⟩,G.thn D⟩
end
section
open Go.Maps
attribute [local go_sem ↓] wp_at_zero wp_at_succ
def wS(b n D w)(h:CZ w b n D) :
  Ca 252 #[.map (some b)] w λe w'=>e=.returned (.map (some w.heap.size))/\CZ w' w.heap.size n D/\Bw w w':=by
 obtain⟨es,a,c,F,d,O⟩:=h;have f:=λw=>run_eql_map_nil_sl (P:=prog) w 230 _ _ (some b) underlying230;go_enter func252,ntmps252;go_wp2;rw[run_callFunc_extern func275 qg qg qg (e:=Extern.MapsClone.clone) qg,run_maps_clone_sl w 230 c];simp only[Result.andThen];rw[Zk];go_wp2;rw[run_typeAssert_map_sl _ 230 _ _ _ _ underlying230];simp only[Result.andThen];rw[Zk];go_wp2;go_ret;exact⟨rfl,⟨es,a,(MapKept.heap_alloc w _).1,F,d,O⟩,(yX _ w).alloc AH _⟩
def Mj(t r a):Cq (t::r) a=if Dm t&&!Bu t.A a then none else Cq r (if t.u==2 then a++[t.A] else a):=rfl
def UD{w w' b n D}(h:CZ w b n D)(e:Bw w w'):CZ w' b n D:=by
 have hl:=h.lt;obtain⟨es,a,f,d⟩:=h;exact⟨es,a,(e.block b hl).c f,d⟩
def zoI{w w':World}{m b o}(h:w.grownBy w' (some m))(a:b≠m)(hl:b<w.heap.size):w'.cell? ⟨b,o,none⟩=w.cell? ⟨b,o,none⟩:=by
 unfold World.cell?;rw[h.block b hl (by intro e;first|exact a e|(injection e with e;first|exact a e|exact a e.y))]
def n_(h:P:=by
 unfold Dm BG;by_cases h3:t.u=3
 .have:t.A.toList.isEmpty=true:=by cases h:t.A.toList.isEmpty<;>simp_all
  simp[this]
 simp[h3]
 ):=h
def rI(h:P:=by
 have aA:=hown0.lt;rw[hneg];go_enter func201,ntmps201
 first
  | (have _:=tP
     go_wp2
     go_loopw [14] (λi wr=>∃(k O:Nat)(here:List ByteArray)(D':DataW Unit),k<=x.e.length/\i=.int .i64 k/\Cq x.e known=Cq (x.e.drop k) here/\O<=n+k/\CZ wr (b) O D'/\DW here D'/\Below (b) w wr) (mz x.e.length)
     case atStart=>exact⟨0,n,known,D,by omega,rfl,rfl,by omega,hown0.alloc _,hI,An.alloc (by omega) _⟩)
  | (have aE:=hb0.size
     go_wp2_with (go_at_call 252;refine(wS b n D _ (hown0.alloc _)).rtn λw1⟨aq,ak⟩=>?_;have q2:w1.cell? ⟨w.heap.size,2,none⟩=some (.slice a x.e.length c):=zab ak (by simp[go_sem]));have au:CZ w1 (w.heap.size+1) n D:=by simpa using aq
     have aB:Bw w w1:=Aj.thn ak;clear aq ak q2 aA hown0
     go_loopw [14] (λi wr=>∃(k O:Nat)(here:List ByteArray)(D':DataW Unit),k<=x.e.length/\i=.int .i64 k/\Cq x.e known=Cq (x.e.drop k) here/\O<=n+k/\CZ wr (w.heap.size+1) O D'/\DW here D'/\Below (w.heap.size) w wr) (mz x.e.length)
     case atStart=>exact⟨0,n,known,D,by omega,rfl,rfl,by omega,au,hI,aB⟩)
 case round=>
  obtain⟨k,O,here,D',hk,rfl,hG,aD,hown,af,hb⟩:=hrel;have HG:=Aa hG;clear hG;have aG:=hown.lt;by_cases az:k<x.e.length
  .obtain⟨t,ao⟩:=Ba az;obtain⟨b',o,rfl,hq,c0,c1,c2,c3,c4,c5⟩:=(hv.d (hb0.c (hb.j (by omega)))).get ao;have am:=(hs.2 t (yd ao)).1;have HD:Hid (x.e.drop k=t::x.e.drop (k+1)):=CF ao
   first
    | (have _:=tP
       have hBa:∀o,Below (b) w (wr.alloc o):=λo=>hb.alloc (by have:=hb.size;omega) _;have ai:∀o,CZ (wr.alloc o) (b) O D':=λo=>hown.alloc o)
    | (have hBa:∀ o,Below (w.heap.size) w (wr.alloc o):=λo=>hb.alloc (by have:=hb.size;omega) _
       have ai:∀o,CZ (wr.alloc o) (w.heap.size+1) O D':=λo=>hown.alloc o)
   by_cases k2:t.u=2
   .have HN:Hid (Cq x.e known=Cq (x.e.drop (k+1)) (here++[t.A])):=show Cq x.e known=_ from by rw[HG.o,HD.o,Mj];simp[Dm,k2]
    have aC:=af.put (v:=t.A) hown.isMap (.lit (.bool true));obtain⟨w2,ax,ar,ah⟩:=(hown.alloc (.cells #[.int .i64 2,.int .i64 t.op,.string t.A,.int .i64 t.val.u,.int .i64 t.val.num,.string t.val.J] 189)).update Rh (t:=230) underlying230 (by unfold maxLen;omega) (KQ underlying9 am) (show Ob (.agg #[])=some (.lit (.bool true),[]) from rfl);obtain⟨ay,HG2⟩:=Ah ar ah;have d0:w2.cell? ⟨wr.heap.size,0,none⟩=some (.int .i64 2):=by
     rw[zoI ah (by omega) (by simp)];simp[go_sem]
    have aw:=hBa (.cells #[.int .i64 2,.int .i64 t.op,.string t.A,.int .i64 t.val.u,.int .i64 t.val.num,.string t.val.J] 189)
    first
     | (have _:=tP
        have hB2:Below (b) w w2:=aw.grown ah (by have:=hb.size;simp;omega) (λj hj=>by cases hj;omega))
     |(have hB2:Below (w.heap.size) w w2:=aw.grown ah (by have:=hb.size;simp;omega) (λj hj=>by cases hj;omega))
    clear ar ah ai hBa;rw[k2]at c0;go_wp2;clear ax;go_roundw
    case rel=>exact⟨k+1,O+1,_,_,by omega,by go_num,HN.o,by omega,ay.o,aC,hB2⟩
    case measure=>(simp;omega)
   by_cases k3:t.u=3/\t.A.toList.isEmpty=false
   .obtain⟨k3,v0⟩:=k3
    first
     | (have _:=tP
        have hH:=Vo (b) O D' here t.A af am)
     |(have hH:=Vo (w.heap.size+1) O D' here t.A af am)
    cases hm:Bu t.A here
    all_goals
     rw[hm]at hH;go_wp2_with (go_at_call 142;refine(hH.o _ (ai _)).j ?_;rintro e' w1 ⟨rfl,aj⟩)
    .have HN:Hid (Cq x.e known=none):=show Cq x.e known=none from by rw[HG.o,HD.o,Mj];simp[Dm,k3,BG,hm];intro h;simp[h]at v0
     go_ret
     first
      | (have _:=tP
         exact⟨AL (by rw[HN.o];rfl),(hBa _).c (aj.j (by simp;omega)),λh e=>(by rw[HN.o]at e;cases e)⟩)
      |(exact⟨AL (by rw[HN.o];rfl),(hBa _).c (aj.j (by simp;omega))⟩)
    have HN:Hid (Cq x.e known=Cq (x.e.drop (k+1)) here):=show Cq x.e known=_ from by rw[HG.o,HD.o,Mj];simp[k3,hm]
    go_roundw
    case rel=>exact⟨k+1,O,_,_,by omega,by go_num,HN.o,by omega,UD (ai _) aj,af,(hBa _).c (aj.j (by have:=(hBa default).size;have:=hb.size;simp;omega))⟩
    case measure=>(simp;omega)
   have HN:Hid (Cq x.e known=Cq (x.e.drop (k+1)) here):=show Cq x.e known=_ from by
    have ha:Dm t=false:=by
     exact n_
    rw[HG.o,HD.o,Mj,ha];simp[k2]
   by_cases h3:t.u=3
   focus
    have aF:t.A.toList.isEmpty=true:=by cases h:t.A.toList.isEmpty<;>simp_all
   rotate_left;rotate_left
   all_goals
    clear k3;go_wp2;go_roundw
    case rel=>exact⟨k+1,O,_,_,by omega,by go_num,HN.o,by omega,ai _,af,hBa _⟩
    case measure=>(simp;omega)
  have HN:Hid (Cq x.e known=some here):=show Cq x.e known=_ from by
   exact QK
  go_wp2;go_ret
  first
   | (have _:=tP
      exact⟨AL (by rw[HN.o];rfl),hb,λh e=>(by rw[HN.o]at e;injection e with e;subst e;exact⟨O,D',by omega,hown,af⟩)⟩)
   |(exact⟨AL (by rw[HN.o];rfl),hb⟩)
 ):=h
def zx(x:Pt)(a c b n D known){q}(w0 w)(hb0:Bw w0 w)(hv:E_ q w0 a x.e)(hs:EW Tm.le maxLen x.e)(hl:x.e.length<=1048576)(hown0:CZ w b n D)(hI:DW known D)(af:w0.heap.size<=b)(f:n<=1048576)(hneg:x.neg=false) :
  Ca 201 #[.agg #[.bool x.neg,.string x.z,.slice a x.e.length c],.map (some b)] w λe w'=>
   e=.returned (.bool (Cq x.e known).isSome)/\Below b w w'/\∀here,Cq x.e known=some here->∃O D',O<=n+x.e.length/\CZ w' b O D'/\DW here D':=by
 have tP:=trivial;exact rI
def wK(x:Pt)(a c b n D known){q}(w0 w)(hb0:Bw w0 w)(hv:E_ q w0 a x.e)(hs:EW Tm.le maxLen x.e)(hl:x.e.length<=1048576)(hown0:CZ w b n D)(hI:DW known D)(f:n<=1048576)(hneg:x.neg=true) :
  Ca 201 #[.agg #[.bool x.neg,.string x.z,.slice a x.e.length c],.map (some b)] w λe w'=>
   e=.returned (.bool (Cq x.e known).isSome)/\Bw w w':=by
 exact rI
def Ep.aq{w w' b B x e i a d f g}(h:Ep w b x e i a d f g)(j:Below B w w')(k:b<B):Ep w' b x e i a d f g:=by
 obtain⟨O,o,n,m,l⟩:=h;exact⟨(j.cell (p:=⟨b,0,none⟩) k).c O,(j.cell (p:=⟨b,1,none⟩) k).c o,(j.cell (p:=⟨b,2,none⟩) k).c n,(j.cell (p:=⟨b,3,none⟩) k).c m,(j.cell (p:=⟨b,4,none⟩) k).c l⟩
def Nb(p:Pt)(r:List Pt)(a:List ByteArray)(k:Nat):Ee (p::r) a k=match Cq p.e a with|none=>.inl k|some b=>Ee r (if p.neg then a else b) (k+1):=rfl
def GY(x:Ru)(known:List ByteArray):Option Nat:=Dc (FJ x.w known) x.E (x.v.length+1)
def VL(x:Ru):AY x=match Ee x.v [] 1 with|.inl i=>some i|.inr a=>GY x a:=qi
def ir(h:P:=by
 rw[hcov]at hCV HU
 first
  | (have _:=tP5
     have HX:Hid (AY x=some (x.v.length+1+k)):=show AY x=_ from by rw[HN.o,HG.o,HD.o,Gw,HU.o];rfl)
  |(have HX:Hid (GY x known=Dc (FJ x.w known) (x.E.drop (k+1)) (x.v.length+1+(k+1))):=show GY x known=_ from by rw[HG.o,HD.o,Gw,HU.o];rfl)
 go_wp2;clear q3 c0 c1 c2 c3
 first
 |(go_region_held3 (λw'=>w'.cell? ⟨w.heap.size,3,none⟩=some (.slice (some ⟨be,oe,none⟩) x.w.length c_exprs)/\w'.cell? ⟨wr.heap.size,3,none⟩=some (.slice (some ⟨ba,oa,none⟩) (ln+1) c_args)/\w'.cell? ⟨ba,oa+ln,none⟩=some (.int .i64 (vn:Int))) ((go_split_ands;refine⟨?_,?_,?_⟩<;>first|(simp[go_sem,hcv0,hq3'];done)|exact zab hb' (by assumption))) (first|(go_at_call 202;refine(hCV.o _ (HM.o.alloc _).drew ((hBa _).drew)).rtn λw' hb'=>?_;have r2:=zab hb' (zab (Aj.drew) q2))|fail))
 |fail
 go_wp2
 first
  | (have _:=tP5
     go_ret;exact⟨EB (by rw[HX.o];simp[DX];omega),(hBa _).drew.c (hb'.j (by have:=(hBa (.map #[] 0)).size;simp;omega))⟩)
  | (go_roundw
     case rel=>exact⟨k+1,by omega,by go_num,HX.o,UD (HM.o.alloc _).drew hb',(HBX.o.d Aj.drew).d hb',(hBa _).drew.c (hb'.j (by have:=(hBa (.map #[] 0)).size;simp;omega))⟩
     case measure=>(simp;omega))
 ):=h
def oN(h:P:=by go_wp2;go_ret;exact⟨EB (by rw[HN.o,HG.o,yy (by omega)];rfl),hb⟩):=h
def zix(x g t f c_exprs m s){q}(w)(ao:Ez q w g x.v)(C:Dt q w f x.w)(am:FI q w m x.E)(aK:x.le 1048576)(aZ:x.v.length<=6)(aH:∀p∈x.v,p.e.length<=6)(au:∀y∈x.E,∀v∈y.args,0<=v/\v<(x.w.length:Int))(aQ:x.w.length<=c_exprs)(aO:x.w.length<=60) :
  Ca 145 #[.agg #[.string x.name,.int .i64 x.W,.slice g x.v.length t,.slice f x.w.length c_exprs,.slice m x.E.length s]] w λe w'=>e=.returned (.int .i64 (DX (AY x)))/\Bw w w':=by
 obtain⟨aR,aN,aA,aB⟩:=aK;have a3:=aA.1;have ac:=aB.1;obtain⟨HH⟩:Nonempty (Hid (AY x=match Ee x.v [] 1 with|.inl i=>some i|.inr known=>GY x known)):=⟨VL x⟩
 have aE:=λw=>run_makeMap (P:=prog) 230 w;go_enter func145,ntmps145;go_wp2;clear aE
 go_loopw [13] (λi wr=>∃(k n:Nat)(known:List ByteArray)(D:DataW Unit),k<=x.v.length/\i=.int .i64 k/\Ee x.v [] 1=Ee (x.v.drop k) known (k+1)/\n<=6*k/\CZ wr (w.heap.size+1) n D/\DW known D/\Ep wr w.heap.size x g t f c_exprs m s/\Bw w wr) (mz x.v.length)
 case atStart=>
  refine⟨0,0,[],.map [],qd,rfl,rfl,qd,?_,DW.start,(Ep.aF w 53 x g t f c_exprs m s).d Aj,Aj.alloc qe _⟩;have:=Wh (H:=Unit) (w.alloc (.cells #[.string x.name,.int .i64 x.W,.slice g x.v.length t,.slice f x.w.length c_exprs,.slice m x.E.length s] 53)) prog 9 Ob;simpa using this
 case round=>
  obtain⟨k,n,known,D,hk,rfl,Z,hn,A,hI,R,hb⟩:=hrel;obtain⟨HG,HBX,HM⟩:=AA Z R A;have aC:=A.lt;clear Z A;by_cases aJ:k<x.v.length
  .obtain⟨p,ar⟩:=Ba aJ;obtain⟨b,o,B,G,rfl,hq,c0,c1,c2,ai⟩:=ao.get ar;have ak:=aN.2 p (yd ar);have aP:=aH p (yd ar);have d0:=zab hb c0;have d1:=zab hb c1;have d2:=zab hb c2;have HD:Hid (x.v.drop k=p::x.v.drop (k+1)):=CF ar;have hBa:∀o,Bw w (wr.alloc o):=λo=>hb.alloc hb.size _;clear c0 c1 c2 R;cases T:p.neg
   .have O:=Aa (λw' L N=>zx p B G (w.heap.size+1) n D known (q:=q) w w' L ai (ak.2.j Fj (Tm.j Fj)) ak.2.1 N hI qd qd T);rw[T]at d0 O;cases K:Cq p.e known with
    |none=>
     rw[K]at O;have HN:Hid (AY x=some (k+1)):=show AY x=_ from by rw[HH.o,HG.o,HD.o,Nb,K]
     go_wp2_with (go_at_call 201;refine(O.o _ (hBa _) (HM.o.alloc _)).j ?_;rintro e w1 ⟨rfl,af,_⟩);go_ret;exact⟨EB (by rw[HN.o];simp[DX]),(hBa _).c (af.j qd)⟩
    |some I=>
     rw[K]at O;have HN:Hid (Ee x.v [] 1=Ee (x.v.drop (k+1)) I (k+1+1)):=show Ee x.v [] 1=_ from by rw[HG.o,HD.o,Nb,K,T];rfl
     go_wp2_with (go_at_call 201;refine(O.o _ (hBa _) (HM.o.alloc _)).rtn λw1⟨af,hh⟩=>?_);obtain⟨n2,D2,aT,ay,aI⟩:=hh I rfl;go_roundw
     case rel=>exact⟨k+1,n2,I,D2,qd,qm,HN.o,qd,ay,aI,(HBX.o.d Aj).aq af qd,(hBa _).c (af.j qd)⟩
     case measure=>(simp;omega)
   have O:=Aa (λw' L N=>wK p B G (w.heap.size+1) n D known (q:=q) w w' L ai (ak.2.j Fj (Tm.j Fj)) ak.2.1 N hI qd T);rw[T]at d0 O;cases K:Cq p.e known with
   |none=>
    rw[K]at O;have HN:Hid (AY x=some (k+1)):=show AY x=_ from by rw[HH.o,HG.o,HD.o,Nb,K]
    go_wp2_with (go_at_call 201;refine(O.o _ (hBa _) (HM.o.alloc _)).rtn λw1 af=>?_);go_ret;exact⟨EB (by rw[HN.o];simp[DX]),(hBa _).c (af.j (hBa _).size)⟩
   |some I=>
    rw[K]at O;have HN:Hid (Ee x.v [] 1=Ee (x.v.drop (k+1)) known (k+1+1)):=show Ee x.v [] 1=_ from by rw[HG.o,HD.o,Nb,K,T];rfl
    go_wp2_with (go_at_call 201;refine(O.o _ (hBa _) (HM.o.alloc _)).rtn λw1 af=>?_);have ay:=UD (HM.o.alloc _) af;go_roundw
    case rel=>exact⟨k+1,n,known,D,qd,qm,HN.o,qd,ay,hI,(HBX.o.d Aj).d af,(hBa _).c (af.j (hBa _).size)⟩
    case measure=>(simp;omega)
  have HN:Hid (AY x=GY x known):=show AY x=_ from by rw[HH.o,HG.o,yy qd];rfl
  obtain⟨q0,q1,q2,q3,q4⟩:=R;go_wp2;clear q0 q1 q2 q3 q4
  go_loopw [28] (λi ax=>∃(k:Nat),k<=x.E.length/\i=.int .i64 k/\GY x known=Dc (FJ x.w known) (x.E.drop k) (x.v.length+1+k)/\CZ ax (w.heap.size+1) n D/\Ep ax w.heap.size x g t f c_exprs m s/\Bw w ax) (mz x.E.length)
  case atStart=>exact⟨0,qd,rfl,rfl,HM.o,HBX.o,hb⟩
  case round=>
   clear HG HBX HM hb hk hn aC;obtain⟨k,hk,rfl,Z,A,R,hb⟩:=hrel;obtain⟨HG,HBX,HM⟩:=AA Z R A;have aC:=A.lt;clear Z A;by_cases aD:k<x.E.length
   .obtain⟨y,aq⟩:=Ba aD;obtain⟨b,o,aa,c_args,rfl,hq,c0,c1,c2,c3,J⟩:=(am.d hb).get aq;have az:=au y (yd aq);have a0:=(aB.2 y (yd aq)).2;have HD:Hid (x.E.drop k=y::x.E.drop (k+1)):=CF aq;have hBa:∀o,Bw w (wr.alloc o):=λo=>hb.alloc hb.size _;obtain⟨q0,q1,q2,q3,q4⟩:=R;by_cases U:y.args.length=0
    .have HK:Hid (FJ x.w known y=true):=show FJ x.w known y=true from by simp[FJ,Yw U]
     have HX:Hid (GY x known=Dc (FJ x.w known) (x.E.drop (k+1)) (x.v.length+1+(k+1))):=show GY x known=_ from by rw[HG.o,HD.o,Gw,HK.o];rfl
     have aM:decide (0<y.args.length)=false:=decide_eq_false qd;have aW:decide ((0:Int)<(y.args.length:Int))=false:=decide_eq_false qd;clear q0 q1 q2 q4;go_wp2
     go_quiet (fail)
     go_wp2;go_roundw
     case rel=>exact⟨k+1,qd,qm,HX.o,HM.o.alloc _,HBX.o.d (Fk Aj),Fk (hBa _)⟩
     case measure=>(simp;omega)
    obtain⟨ln,M⟩:∃ln,y.args.length=ln+1:=⟨y.args.length-1,qd⟩
    obtain⟨vl,aw⟩:∃v,y.args[ln]?=some v:=⟨y.args[ln]'(by omega),qe⟩
    obtain⟨ab,aX⟩:=az vl (yd aw);obtain⟨vn,rfl⟩:=Yf ab;have aF:vn<x.w.length:=qd;obtain⟨ba,oa,ea,a4,ca⟩:=J.get aw;subst ea;obtain⟨be,oe,ee,_⟩:=C.get (yH aF);subst ee;have HU:Hid (FJ x.w known y=(x.w.take (vn+1)).all (D_ known)):=show FJ x.w known y=_ from by
     have L:y.args.isEmpty=false:=by
      cases h:y.args with
      |nil=>simp[h]at M
      |cons v r=>rfl
     have N:I9 y=vn+1:=by
      unfold I9;rw[WN,M,KT,aw];rfl
     unfold FJ;rw[L,N];rfl
    have Y:(x.w.take (vn+1)).length=vn+1:=by simp;omega
    have hCV:=Aa (λw'(L:CZ w' (w.heap.size+1) n D)(N:Bw w w')=>zU (w.heap.size+1) n D known (some ⟨be,oe,none⟩) c_exprs (x.w.take (vn+1)) w' (q:=q) L hI (Cr.take (C.d N) (vn+1)) qd (λe he=>yh (aA.2 e (YM he)).1 Fj));rw[Y]at hCV;have z0:(0:Int)<=(vn:Int)+1:=qd;have z1:(vn:Int)+1<=(c_exprs:Int):=qd;have z2:(ln:Int)<(ln:Int)+1:=qd;have aL:ln<=1048576:=qd;have aS:IntKind.i64.wrap ((ln:Int)+1-1)=(ln:Int):=by rw[show(ln:Int)+1-1=(ln:Int) by omega,Yg];omega
    have aU:IntKind.i64.wrap (((ln+1:Nat):Int)-1)=(ln:Int):=by rw[show((ln+1:Nat):Int)-1=(ln:Int) by omega,Yg];omega
    have aV:IntKind.i64.wrap (ln:Int)=(ln:Int):=by rw[Yg];omega
    have aY:IntKind.i64.wrap ((vn:Int)+1)=(vn:Int)+1:=by rw[Yg];omega
    have z3:(0:Int)<=(ln:Int):=qd;have z4:(ln:Int)<((ln+1:Nat):Int):=qd;have z5:(vn:Int)+1<=(x.w.length:Int):=qd;have aG:vn<60:=qd;rw[M]at c3;have hcv0:(wr.alloc (.cells #[.int .i64 y.u,.int .i64 y.k,.string y.z,.slice (some ⟨ba,oa,none⟩) (ln+1) c_args] 227)).cell? ⟨ba,oa+ln,none⟩=some (.int .i64 (vn:Int)):=zab Aj ca;have hq3':(wr.alloc (.cells #[.int .i64 y.u,.int .i64 y.k,.string y.z,.slice (some ⟨ba,oa,none⟩) (ln+1) c_args] 227)).cell? ⟨w.heap.size,3,none⟩=some (.slice (some ⟨be,oe,none⟩) x.w.length c_exprs):=zab Aj q3;clear q0 q1 q4 ca az U;have aM:decide (0<ln+1)=true:=decide_eq_true qd;cases hcov:(x.w.take (vn+1)).all (D_ known)
    .have tP5:=trivial;exact ir
    exact ir
   exact oN
end
section
attribute [local go_sem ↓] wp_at_zero wp_at_succ
def OC{a b p}(h:p=(a,b)):Ending.returned (.tuple #[I6 a,I6 b])=.returned (.tuple #[I6 p.1,I6 p.2]):=by rw[h]
def nJ{α f}:∀{l:List α}{k:Nat},Dc f l k=none->∀x∈l,f x=true
 |[],_,_,x,hx=>by simp at hx
 |y::r,k,h,x,hx=>by
  rw[Gw]at h
  split at h
  .rename_i b
   rcases yG.1 hx with rfl|a
   .exact b
   .exact nJ h x a
  cases h
def lM{S}:∀{l:List Int}{nx n:Nat},DR S l nx=some n->∀v∈l,0<=v/\v<(S.length:Int)
 |[],_,_,_,v,hv=>by simp at hv
 |x::r,nx,n,h,v,hv=>by
  rw[JQ]at h
  split at h
  .rename_i a
   simp only[yi,decide_eq_true_eq]at a
   rcases yG.1 hv with rfl|b
   .exact⟨a.1,a.2.1⟩
   .exact lM h v b
  cases h
def mW{S}:∀{l:List Ac}{nx k:Nat},FP S l nx k=none->∀y∈l,∀v∈y.args,0<=v/\v<(S.length:Int)
 |[],_,_,_,y,hy,_,_=>by simp at hy
 |a::r,nx,k,h,y,hy,v,hv=>by
  rw[OH]at h
  cases b:BO S a nx with
  |none=>rw[b]at h;cases h
  |some O=>
   rw[b]at h
   rcases yG.1 hy with rfl|c
   .unfold BO at b
    split at b
    .exact lM b v hv
    cases b
   exact mW h y c v hv
def Xx{x}(h:Am x=none):x.v.length<=6/\x.E.length<=8/\x.w.length<=60/\(∀p∈x.v,p.e.length<=6)/\(BD [] x.w).length=x.w.length/\∀y∈x.E,∀v∈y.args,0<=v/\v<(x.w.length:Int):=by
 have c:Id x=true:=by
  cases j:Id x
  .simp[Am,j]at h
  rfl
 rw[VM x c]at h;have O:=c;simp only[Id,yi,decide_eq_true_eq]at O;cases b:Dc C_ x.v 1 with
 |some i=>rw[b]at h;cases h
 |none=>
  rw[b]at h;have a:rest x=none:=h;unfold rest at a;split at a
  .cases a
  rename_i m;have k:=(TA (es:=x.w) (l:=x.w) (AU.nil x.w) rfl).1.1;have g:(BD [] x.w).length=x.w.length:=qd;refine⟨O.2.1,O.2.2.1,O.2.2.2,λp f=>?_,g,λy d v hv=>?_⟩
  .have:=nJ b p f;simp only[C_,yi,decide_eq_true_eq]at this;exact this.2.1
  have:=mW a y d v hv;omega
def X2{α f}:∀{l:List α}{k i:Nat},Dc f l k=some i->k<=i
 |[],_,_,h=>by cases h
 |x::r,k,i,h=>by
  rw[Gw]at h
  split at h
  .have:=X2 h
   omega
  injection h with h
  omega
def lH:∀{l:List Pt}{a:List ByteArray}{k i:Nat},Ee l a k=.inl i->k<=i
 |[],_,_,_,h=>by cases h
 |p::r,a,k,i,h=>by
  rw[Nb]at h
  split at h
  .injection h with h
   omega
  have:=lH h
  omega
def wg{x i}(h:AY x=some i):1<=i:=by
 rw[VL]at h;split at h
 .rename_i j hj;injection h with h;have:=lH hj;omega
 have:=X2 h;omega
def xI{x i}(h:Ch x=some i):1<=i:=by
 have:=X2 h;omega
def xY(x m r f g n p a_e c_e pre){q}(w)(aA:Fa q w a_e pre)(af:Ez q w m x.v)(s:Dt q w f x.w)(C:FI q w n x.E)(aF:x.le 1048576)(ho:H_ x.w)(aE:x.w.length<=g)(aT:pre.length<=16) :
  Ca 85 #[.agg #[.string x.name,I6 x.W,.slice m x.v.length r,.slice f x.w.length g,.slice n x.E.length p],.slice a_e pre.length c_e] w λe w'=>
   e=.returned (.tuple #[I6 (A_ pre x).1,I6 (A_ pre x).2])/\Bw w w':=by
 have au:=aF;obtain⟨aP,aN,aS,aL⟩:=aF;have L:=Aa (λw H I h3=>zg x m r f g n p (q:=q) w H I h3 au ho);cases B:Am x with
 |some i=>
  rw[B]at L;have z:Hid (A_ pre x=(1,(i:Int))):=show A_ pre x=_ from by unfold A_;rw[B]
  go_enter func85,ntmps85;go_wp2_with (go_at_call 144;refine(L.o _ (af.d Aj) (s.d Aj) (C.d Aj)).j ?_;rintro e w1 ⟨⟨v,rfl,hv⟩,J⟩;obtain rfl:=hv i rfl);refine bodyPost_ret (v:=.tuple #[I6 (1),I6 ((i:Int))]) qH rfl ⟨OC z.o,Aj.thn J⟩
 |none=>
  rw[B]at L;obtain⟨aK,aR,aB,aI,aM,az⟩:=Xx B;go_enter func85,ntmps85;go_wp2_with (go_at_call 144;refine(L.o _ (af.d Aj) (s.d Aj) (C.d Aj)).j ?_;rintro e w1 ⟨⟨v,rfl,_⟩,J⟩);have aG:Bw w w1:=Aj.thn J;have aC:=(Ep.aF w 53 x m r f g n p).d J;clear J
  go_loopw [23] (λi wr=>∃(k:Nat),k<=pre.length/\i=I6 k/\pre.any (λo=>decide (o.name=x.name))=(pre.drop k).any (λo=>decide (o.name=x.name))/\Ep wr w.heap.size x m r f g n p/\Bw w wr) (mz pre.length)
  case atStart=>exact⟨0,qd,rfl,rfl,aC,aG⟩
  case round=>
   clear aG aC;obtain⟨k,hk,rfl,hG,aq,t⟩:=hrel;obtain⟨U,HBX⟩:=Ah hG aq;clear hG;by_cases aJ:k<pre.length
   .obtain⟨y,aD⟩:=Ba aJ;obtain⟨b,o,a1,k1,a2,k2,a3,k3,rfl,hq,c0,c1,c2,c3,c4,_,_,_⟩:=(aA.d t).get aD;have HD:Hid (pre.drop k=y::pre.drop (k+1)):=CF aD;have G:∀o,Bw w (wr.alloc o):=λo=>t.alloc t.size _;obtain⟨M,q1,q2,q3,q4⟩:=aq;have aa:w.heap.size<wr.heap.size:=LZ M;have aQ:∀o,At (wr.alloc o) w.heap.size 0 (.string x.name):=λo=>zab (E6 o) M;clear q1 q2 q3 q4 M;cases K:(y.name.toList==x.name.toList)
    .have HX:Hid (pre.any (λo=>decide (o.name=x.name))=(pre.drop (k+1)).any (λo=>decide (o.name=x.name))):=show _=_ from by
      rw[EZ]at K;rw[U.o,HD.o,Kr,K];rfl
     go_wp2;go_roundw
     case rel=>exact⟨k+1,qd,qm,HX.o,HBX.o.d Aj,G _⟩
     case measure=>(simp;omega)
    have HX:Hid (A_ pre x=(2,0)):=show A_ pre x=_ from by
     rw[EZ]at K;unfold A_;rw[B];simp only;rw[U.o,HD.o,Kr,K];rfl
    go_wp2;refine bodyPost_ret (v:=.tuple #[I6 (2),I6 (0)]) qH rfl ⟨OC HX.o,G _⟩
   have HA:Hid (pre.any (λo=>decide (o.name=x.name))=false):=show _=_ from by rw[U.o,yy qd];rfl
   have aO:Ad x.v<=x.v.length:=WD;obtain⟨A,D⟩:=Ah (λw H I h3=>zix x m r f g n p (q:=q) w H I h3 au aK aI az aE aB) (λw H I=>zlv x m r f g n p (q:=q) w H I aN.1 aL.1);obtain⟨M,q1,q2,q3,q4⟩:=aq;by_cases hr:1<=Ad x.v/\Ad x.v<=3
   .have z:Hid (A_ pre x=match AY x with|some i=>(4,(i:Int))|none=>match Ch x with|some i=>(5,(i:Int))|none=>(0,0)):=show A_ pre x=_ from by
     unfold A_;rw[B];simp only;rw[HA.o,if_neg qh,if_pos hr];cases AY x with
     |some i=>rfl
     |none=>cases Ch x<;>rfl
    have r0:¬(Ad x.v:Int)<1:=qd;have r1:¬(3:Int)<(Ad x.v:Int):=qd;cases N:AY x with
    |some i=>
     rw[N]at A z;simp only[DX]at A;have aH:((i:Int) != 0)=true:=by
      have:=wg N;simp;omega
     go_wp2_with (first|(go_at_call 83;refine(QF x m r f g n p _ (af.d t) qd).rtn λY O=>?_;obtain⟨s0,s1,R,s3,T⟩:=HBX.o.d O)|(go_at_call 145;refine(A.o _ (af.d (t.thn O)) (s.d (t.thn O)) (C.d (t.thn O))).rtn λw3 u=>?_;obtain⟨t0,t1,t2,t3,t4⟩:=(HBX.o.d O).d u)|fail);refine bodyPost_ret (v:=.tuple #[I6 (4),I6 ((i:Int))]) qH rfl ⟨OC z.o,((t.thn O).c (u.j (t.thn O).size))⟩
    |none=>
     rw[N]at A z;simp only[DX]at A;cases ax:Ch x with
     |some i=>
      rw[ax]at D z;simp only[DX]at D;have aH:((i:Int) != 0)=true:=by
       have:=xI ax;simp;omega
      go_wp2_with (first|(go_at_call 83;refine(QF x m r f g n p _ (af.d t) qd).rtn λY O=>?_;obtain⟨s0,s1,R,s3,T⟩:=HBX.o.d O)|(go_at_call 145;refine(A.o _ (af.d (t.thn O)) (s.d (t.thn O)) (C.d (t.thn O))).rtn λw3 u=>?_;obtain⟨t0,t1,t2,t3,t4⟩:=(HBX.o.d O).d u)|(go_at_call 146;refine(D.o _ (af.d ((t.thn O).c (u.j (t.thn O).size))) (C.d ((t.thn O).c (u.j (t.thn O).size)))).rtn λw4 Z=>?_)|fail);refine bodyPost_ret (v:=.tuple #[I6 (5),I6 ((i:Int))]) qH rfl ⟨OC z.o,(((t.thn O).c (u.j (t.thn O).size)).c (Z.j ((t.thn O).c (u.j (t.thn O).size)).size))⟩
     |none=>
      rw[ax]at D z;simp only[DX]at D;go_wp2_with (first|(go_at_call 83;refine(QF x m r f g n p _ (af.d t) qd).rtn λY O=>?_;obtain⟨s0,s1,R,s3,T⟩:=HBX.o.d O)|(go_at_call 145;refine(A.o _ (af.d (t.thn O)) (s.d (t.thn O)) (C.d (t.thn O))).rtn λw3 u=>?_;obtain⟨t0,t1,t2,t3,t4⟩:=(HBX.o.d O).d u)|(go_at_call 146;refine(D.o _ (af.d ((t.thn O).c (u.j (t.thn O).size))) (C.d ((t.thn O).c (u.j (t.thn O).size)))).rtn λw4 Z=>?_)|fail);refine bodyPost_ret (v:=.tuple #[I6 (0),I6 (0)]) qH rfl ⟨OC z.o,(((t.thn O).c (u.j (t.thn O).size)).c (Z.j ((t.thn O).c (u.j (t.thn O).size)).size))⟩
   have z:Hid (A_ pre x=(3,0)):=show A_ pre x=_ from by
    unfold A_;rw[B];simp only;rw[HA.o,if_neg qh,if_neg hr]
   by_cases r0:(Ad x.v:Int)<1;rotate_left
   focus
    have r1:(3:Int)<(Ad x.v:Int):=qd
   rotate_left
   all_goals
    go_wp2_with (first|(go_at_call 83;refine(QF x m r f g n p _ (af.d t) qd).rtn λY O=>?_;obtain⟨s0,s1,R,s3,T⟩:=HBX.o.d O)|fail);refine bodyPost_ret (v:=.tuple #[I6 (3),I6 (0)]) qH rfl ⟨OC z.o,(t.thn O)⟩
def Mf(pre r s k):EJ pre (r::s) k=if(A_ pre r).1=0 then EJ (pre++[r]) s (k+1) else((A_ pre r).1,(k:Int),(A_ pre r).2):=rfl
def NC(p:Int × Int × Int):Value:=.agg #[.int .i64 p.1,.int .i64 p.2.1,.int .i64 p.2.2]
def iX(h:P:=by
 first
  | (have _:=tP6
     have HX:Hid (A8 rs=EJ (rs.take (k+1)) (rs.drop (k+1)) (k+1)):=show A8 rs=_ from by rw[HG.o,HD.o,Mf,hp,if_pos hp0,HT.o]
     subst hp0)
  | (have HX:Hid (A8 rs=(p1,(k:Int),p2)):=show A8 rs=_ from by rw[HG.o,HD.o,Mf,hp,if_neg hp0]
     have am:(p1 != 0)=true:=by simpa using hp0)
 go_wp2
 first
 |(go_region_held3 (λw'=>At w' wr.heap.size 0 (.string x.name)/\At w' wr.heap.size 1 (I6 x.W)/\At w' wr.heap.size 2 (.slice a_pats x.v.length c_pats)/\At w' wr.heap.size 3 (.slice a_exprs x.w.length c_exprs)/\At w' wr.heap.size 4 (.slice a_acts x.E.length c_acts)) ((go_split_ands;refine⟨?_,?_,?_,?_,?_⟩<;>first|(simp[go_sem];done)|exact zab hb' (by assumption))) (first|(go_at_call 85;refine(hCK.o _ ((hBw _).drew)).rtn λw' hb'=>?_)|fail))
 |fail
 have hW:Bw wr w':=(hBw _).drew.c (hb'.j (by have:=(hBw (.map #[] 0)).size;simp))
 first
  |(have _:=tP6)
  | (have ai:=zab hW y0
     have af:=zab hW y1;have ah:=zab hW y2;have ak:w'.frozen? ⟨w.heap.size,0,none⟩=false:=by rw[(Aw hW).2 _ _ hws];exact f0
     have ao:w'.frozen? ⟨w.heap.size,1,none⟩=false:=by rw[(Aw hW).2 _ _ hws];exact f1
     have aj:w'.frozen? ⟨w.heap.size,2,none⟩=false:=by rw[(Aw hW).2 _ _ hws];exact f2)
 go_wp2
 first
  | (have _:=tP6
     go_roundw
     case rel=>exact⟨k+1,by omega,by go_num,HX.o,yg hws hW.size,λj hj=>zab hW (HY.o.1 j hj),λj=>by rw[(Aw hW).2 _ _ hws];exact HY.o.2 j,hb.thn hW⟩
     case measure=>(simp;omega))
  | (have O:=hb.thn hW
     refine bodyPost_ret (v:=.agg #[I6 p1,I6 (k:Int),I6 p2]) (by simp[results,results41,go_sem,ai,af,ah]) rfl ⟨by rw[HX.o];rfl,?_⟩;exact((O.setCell AH _).setCell AH _).setCell AH _)
 ):=h
def X5(a c rs){q}(w)(hv:Fa q w a rs)(M:rs.length<=c)(aj:EW Ru.le 1048576 rs)(t:∀x∈rs,H_ x.w) :
  Ca 41 #[.slice a rs.length c] w λe w'=>e=.returned (NC (A8 rs))/\Bw w w':=by
 obtain⟨hl,aj⟩:=aj;by_cases A:16<rs.length
 .have ao:(16:Int)<(rs.length:Int):=qd;have n:Hid (A8 rs=(1,0,0)):=show A8 rs=_ from by unfold A8;rw[if_neg qd]
  go_enter func41,ntmps41;go_wp2;refine bodyPost_ret (v:=.agg #[I6 1,I6 0,I6 0]) (by simp[results,results41,go_sem]) rfl ⟨by rw[n.o];rfl,Aj⟩
 have ao:¬(16:Int)<(rs.length:Int):=qd;have n:Hid (A8 rs=EJ [] rs 0):=show A8 rs=_ from by unfold A8;rw[if_pos qd]
 go_enter func41,ntmps41;go_wp2
 go_loopw [13] (λi wr=>∃(k:Nat),k<=rs.length/\i=I6 k/\A8 rs=EJ (rs.take k) (rs.drop k) k/\w.heap.size<wr.heap.size/\(∀j,j<3->At wr w.heap.size j (I6 0))/\(∀j,wr.frozen? ⟨w.heap.size,j,none⟩=false)/\Bw w wr) (mz rs.length)
 case atStart=>exact⟨0,qd,rfl,by rw[n.o];rfl,qe,λj hj=>qV,λj=>ql,Aj⟩
 case round=>
  obtain⟨k,J,rfl,r,hws,g,af,hb⟩:=hrel;have HG:=Aa r;clear r;have y0:=g 0 qd;have y1:=g 1 qd;have y2:=g 2 qd;have f0:=af 0;have f1:=af 1;have f2:=af 2;have HY:=Aa (And.intro g af);clear g af;by_cases u:k<rs.length
  .obtain⟨x,O⟩:=Ba u;have am:=hv.d hb;obtain⟨b,o,a_pats,c_pats,a_exprs,c_exprs,a_acts,c_acts,rfl,C,K,H,B,L,I,ai,f,ah,ak⟩:=am.get O;have z:=aj x (yd O);have y:=t x (yd O);have HD:Hid (rs.drop k=x::rs.drop (k+1)):=CF O;have HT:Hid (rs.take (k+1)=rs.take k++[x]):=Mh rs k x O;have l:(rs.take k).length=k:=by simp;omega
   have hBw:∀o,Bw wr (wr.alloc o):=λo=>Aj;have s:∀o,Bw w (wr.alloc o):=λo=>hb.alloc hb.size _;have hCK:=Aa (λw'(m:Bw wr w')=>xY x a_pats c_pats a_exprs c_exprs a_acts c_acts (some ⟨b,o,none⟩) c (rs.take k) (q:=q) w' (Cr.take (am.d m) k) (ai.d m) (f.d m) (ah.d m) z y ak qd);rw[l]at hCK;have D:(0:Int)<=(k:Int):=qd;have G:(k:Int)<=(c:Int):=qd;obtain⟨⟨p1,p2⟩,hp⟩:∃p,A_ (rs.take k) x=p:=⟨_,rfl⟩
   rw[hp]at hCK;by_cases hp0:p1=0
   .have tP6:=trivial;exact iX
   exact iX
  have HX:Hid (A8 rs=(0,0,0)):=show A8 rs=_ from by rw[HG.o,yy qd];rfl
  go_wp2;refine bodyPost_ret (v:=.agg #[I6 0,I6 0,I6 0]) (by simp[results,results41,go_sem,y0,y1,y2]) rfl ⟨by rw[HX.o];rfl,?_⟩;exact((hb.setCell AH _).setCell AH _).setCell AH _
def Ih(h:P:=by
 go_enter func235,ntmps235;go_wp2_with (go_at_call 265;refine(Ln y.z _ hcl).j ?_;rintro e w' ⟨rfl,rfl⟩)
 all_goals go_ret
 all_goals exact⟨AL (by rw[G.o,O.o];rfl),B0 _ _,λnx' h=>(by rw[G.o,O.o]at h;cases h),FZ _ _⟩
 ):=h
def zkM(x:Ru)(d m a c f l y g i pb nx S w)(hcl:y.z.size<=maxLen)(L:y.args.length<=1048576)(D:w.frozen? ⟨pb,0,none⟩=false)(s:pb<w.heap.size)(b:(Dv y&&decide (y.args.length<=6))=false) :
  Ca 235 #[.agg #[.string x.name,I6 x.W,.slice d x.v.length m,.slice a x.w.length c,.slice f x.E.length l],.agg #[I6 y.u,I6 y.k,.string y.z,.slice g y.args.length i],Pn pb] w λe w'=>
   e=.returned (.bool (BO S y nx).isSome)/\Below pb w w'/\(∀nx',BO S y nx=some nx'->nx'<=60/\At w' pb 0 (I6 (nx':Int)))/\w'.frozen? ⟨pb,0,none⟩=false:=by
 have B0:∀o o',Below pb w ((w.alloc o).alloc o'):=λo o'=>(An.alloc qd _).alloc qf _;have FZ:∀o o',((w.alloc o).alloc o').frozen? ⟨pb,0,none⟩=false:=λo o'=>by rw[(Aw (LC o o')).2 pb 0 s];exact D
 obtain⟨G⟩:Nonempty (Hid (BO S y nx=if Dv y&&decide (y.args.length<=6) then DR S y.args nx else none)):=⟨rfl⟩
 have O:Hid ((Dv y&&decide (y.args.length<=6))=false):=b;by_cases U:6<y.args.length
 .have K:(6:Int)<(y.args.length:Int):=qd;by_cases A:y.u<1
  .exact Ih
  by_cases B:4<y.u;rotate_left;rotate_left
  all_goals
   go_enter func235,ntmps235;go_wp2_with (go_at_call 265;refine(Ln y.z _ hcl).j ?_;rintro e w' ⟨rfl,rfl⟩)
   all_goals go_ret
   all_goals exact⟨AL (by rw[G.o,O.o];rfl),B0 _ _,λnx' h=>(by rw[G.o,O.o]at h;cases h),FZ _ _⟩
 have K:¬(6:Int)<(y.args.length:Int):=qd;by_cases A:y.u=1
 .cases H:DH y.z
  .exact Ih
  by_cases C:y.k=0
  .exfalso;simp[Dv,A,H,C]at b;omega
  exact Ih
 by_cases M:y.u=2
 .by_cases N:0<y.args.length
  .have t:(0:Int)<(y.args.length:Int):=qd;exact Ih
  have t:¬(0:Int)<(y.args.length:Int):=qd;cases n:y.z.toList.isEmpty
  .exact Ih
  by_cases q:y.k < -1000000
  .exact Ih
  by_cases I:1000000<y.k
  .exact Ih
  exfalso;have r:y.args=[]:=Yw qd;have p:y.z.toList=[]:=by simpa using n
  simp[Dv,M,BG,p,r,Mv]at b;omega
 by_cases J:y.u=3
 .cases n:y.z.toList.isEmpty
  .exact Ih
  by_cases q:y.k < -1000000
  .exact Ih
  by_cases I:1000000<y.k
  .exact Ih
  exfalso;have p:y.z.toList=[]:=by simpa using n
  simp[Dv,J,BG,p,Mv]at b;omega
 by_cases B:y.u=4
 .by_cases N:0<y.args.length
  .have t:(0:Int)<(y.args.length:Int):=qd;exact Ih
  have t:¬(0:Int)<(y.args.length:Int):=qd;cases n:y.z.toList.isEmpty
  .exact Ih
  by_cases q:y.k=0
  .exfalso;have r:y.args=[]:=Yw qd;have p:y.z.toList=[]:=by simpa using n
   simp[Dv,B,BG,p,r,q]at b
  exact Ih
 by_cases R:y.u<1;rotate_left
 focus
  have T:4<y.u:=qd
 rotate_left
 all_goals
  go_enter func235,ntmps235;go_wp2_with (go_at_call 265;refine(Ln y.z _ hcl).j ?_;rintro e w' ⟨rfl,rfl⟩)
  all_goals go_ret
  all_goals exact⟨AL (by rw[G.o,O.o];rfl),B0 _ _,λnx' h=>(by rw[G.o,O.o]at h;cases h),FZ _ _⟩
def ZN(h:P:=by go_wp2;go_ret;exact⟨AL (by rw[HN.o];rfl),Fk O,λnx' h=>(by rw[HN.o]at h;cases h),af⟩):=h
def rM(h:P:=by
 have B0:∀o o',Below pb w ((w.alloc o).alloc o'):=λo o'=>(An.alloc (by omega) _).alloc (by simp;omega) _;have FZ:∀o o',((w.alloc o).alloc o').frozen? ⟨pb,0,none⟩=false:=λo o'=>by rw[(Aw (LC o o')).2 pb 0 hpw];exact hf
 obtain⟨G⟩:Nonempty (Hid (BO S y nx=if Dv y&&decide (y.args.length<=6) then DR S y.args nx else none)):=⟨rfl⟩
 have ah:(Dv y&&decide (y.args.length<=6))=true:=hok;have HF:Hid ((Dv y&&decide (y.args.length<=6))=true):=ah;simp only[yi,decide_eq_true_eq]at ah;obtain⟨_,hn⟩:=ah;have aw:¬(6:Int)<(y.args.length:Int):=by omega
 obtain⟨HV⟩:Nonempty (Hid (Dt q w0 a_exprs x.w/\CU q w0 a_args y.args)):=⟨⟨h_exprs,h_args⟩⟩
 clear hok;go_enter func235,ntmps235
 first
  | (have _:=tP
     go_wp2_with (go_at_call 265;refine(Ln y.z _ hcl).j ?_;rintro e w' ⟨rfl,rfl⟩))
  |(go_wp2_with (go_at_call 265;refine(Ln y.z _ _hcl).j ?_;rintro e w' ⟨rfl,rfl⟩))
 go_loopw [90] (λi wr=>∃(k nk:Nat),k<=y.args.length/\i=.int .i64 k/\nk<=60/\DR S y.args nx=DR S (y.args.drop k) nk/\wr.cell? ⟨pb,0,none⟩=some (.int .i64 (nk:Int))/\wr.frozen? ⟨pb,0,none⟩=false/\wr.cell? ⟨w.heap.size,3,none⟩=some (.slice a_exprs x.w.length c_exprs)/\Below pb w wr) (mz y.args.length)
 case atStart=>exact⟨0,nx,by omega,rfl,hnx,rfl,by rw[(Aw AX).1 pb 0 hpw];exact hp,FZ _ _,by simp[go_sem],B0 _ _⟩
 case round=>
  obtain⟨k,nk,hk,rfl,ao,hG,aj,af,ar,O⟩:=hrel;have HG:Hid (DR S y.args nx=DR S (y.args.drop k) nk):=hG;clear hG;have ax:pb<wr.heap.size:=yg hpw O.size;have hB:Bw w0 wr:=hb0.c (O.j hpb);by_cases aq:k<y.args.length
  .obtain⟨v,ai⟩:=Ba aq;have HA:=HV.o.2.d hB;have HE:=HV.o.1.d hB;obtain⟨b,o,ea,hq,c0⟩:=HA.get ai;subst ea;have HD:Hid (y.args.drop k=v::y.args.drop (k+1)):=CF ai;have z0:(0:Int)<=(k:Int):=by omega
   have z1:(k:Int)<(y.args.length:Int):=by omega
   have B1:Bw wr wr.drew:=An.drew;by_cases v0:v<0
   .have HN:Hid (BO S y nx=none):=show BO S y nx=none from by
     rw[G.o,HF.o,if_pos rfl,HG.o,HD.o,JQ,decide_eq_false (by omega)];rfl
    go_wp2
    go_quiet (fail)
    exact ZN
   by_cases v1:(x.w.length:Int)<=v
   .have HN:Hid (BO S y nx=none):=show BO S y nx=none from by
     rw[G.o,HF.o,if_pos rfl,HG.o,HD.o,JQ,decide_eq_false (p:=v<(S.length:Int)) (by omega)];simp
    have d0:decide (v<0)=false:=decide_eq_false v0;go_wp2
    go_quiet (fail)
    exact ZN
   obtain⟨vn,rfl⟩:=Yf (show 0<=v by omega);have ay:vn<S.length:=by omega
   obtain⟨s,hs⟩:∃s,S[vn]?=some s:=⟨S[vn],by simp⟩
   have hsl:=zjv hS hs;cases e3:((s.1:Int) != (nk:Int))
   .have HN:Hid (BO S y nx=DR S (y.args.drop (k+1)) (vn+1)):=show BO S y nx=_ from by
     have:s.1=nk:=by(simp at e3;omega)
     rw[G.o,HF.o,if_pos rfl,HG.o,HD.o,JQ,decide_eq_true (by omega),decide_eq_true (by omega),YG,hs,YE,decide_eq_true this];rfl
    have HM:Hid (DR S y.args nx=DR S (y.args.drop (k+1)) (vn+1)):=show DR S y.args nx=_ from by
     have:=HN.o;rw[G.o,HF.o,if_pos rfl]at this;exact this
    have d0:decide ((vn:Int)<0)=false:=decide_eq_false (by omega);have d1:decide ((x.w.length:Int)<=(vn:Int))=false:=decide_eq_false (by omega);have d2:decide (x.w.length<=vn)=false:=decide_eq_false (by omega);go_wp2
    go_quiet (first|(go_at_call 236;refine Y3 (Tv a_exprs c_exprs x.w S vn s _ (HE.d ?_) hS hs);exact Fk An))
    go_wp2;go_roundw
    case rel=>
     refine⟨k+1,vn+1,by omega,by go_num,by omega,HM.o,?_,?_,?_,?_⟩
     .have ak:(wr.drewN nq).cell? ⟨pb,0,none⟩=some (.int .i64 (nk:Int)):=aj;simp[go_sem,ak]
     .have au:(wr.drewN nq).frozen? ⟨pb,0,none⟩=false:=af;simp[go_sem,au]
     .have am:(wr.drewN nq).cell? ⟨w.heap.size,3,none⟩=some (.slice a_exprs x.w.length c_exprs):=ar;have hne:w.heap.size≠pb:=by omega
      rw[zjR hne];exact am
     .exact(Fk O).setCell AH _
    case measure=>(simp;omega)
   have HN:Hid (BO S y nx=none):=show BO S y nx=none from by
    have:¬s.1=nk:=by(simp at e3;omega)
    rw[G.o,HF.o,if_pos rfl,HG.o,HD.o,JQ,YG,hs,YE,decide_eq_false this];simp
   have d0:decide ((vn:Int)<0)=false:=decide_eq_false (by omega);have d1:decide ((x.w.length:Int)<=(vn:Int))=false:=decide_eq_false (by omega);have d2:decide (x.w.length<=vn)=false:=decide_eq_false (by omega);go_wp2
   go_quiet (first|(go_at_call 236;refine Y3 (Tv a_exprs c_exprs x.w S vn s _ (HE.d ?_) hS hs);exact Fk An))
   exact ZN
  go_wp2;go_ret;have e0:y.args.drop k=[]:=yy (by omega);have HN:BO S y nx=some nk:=by
   rw[G.o,HF.o,if_pos rfl,HG.o,e0];rfl
  exact⟨AL (by rw[HN];rfl),O,λnx' h=>(by rw[HN]at h;injection h with h;subst h;exact⟨ao,aj⟩),af⟩
 ):=h
def zj0(x:Ru)(a m a_exprs c_exprs g l y a_args f)(pb nx:Nat)(S){q}(w0 w)(hb0:Bw w0 w)(h_exprs:Dt q w0 a_exprs x.w)(h_args:CU q w0 a_args y.args)(hS:AU x.w S)(n:S.length=x.w.length)(O:x.w.length<=60)(hcl:y.z.size<=maxLen)(r:y.args.length<=1048576)(hp:w.cell? ⟨pb,0,none⟩=some (.int .i64 (nx:Int)))(hf:w.frozen? ⟨pb,0,none⟩=false)(hpb:w0.heap.size<=pb)(hpw:pb<w.heap.size)(hnx:nx<=60)(hok:(Dv y&&decide (y.args.length<=6))=true)(A:y.u=1)(B:DH y.z=true)(t:y.k=0) :
  Ca 235 #[.agg #[.string x.name,.int .i64 x.W,.slice a x.v.length m,.slice a_exprs x.w.length c_exprs,.slice g x.E.length l],.agg #[.int .i64 y.u,.int .i64 y.k,.string y.z,.slice a_args y.args.length f],.pointer (some ⟨pb,0,none⟩)] w λe w'=>
   e=.returned (.bool (BO S y nx).isSome)/\Below pb w w'/\(∀nx',BO S y nx=some nx'->nx'<=60/\w'.cell? ⟨pb,0,none⟩=some (.int .i64 (nx':Int)))/\w'.frozen? ⟨pb,0,none⟩=false:=by
 have tP:=trivial;exact rM
def rL(h:P:=by
 have B0:∀o o',Below pb w ((w.alloc o).alloc o'):=λo o'=>(An.alloc (by omega) _).alloc (by simp;omega) _;have FZ:∀o o',((w.alloc o).alloc o').frozen? ⟨pb,0,none⟩=false:=λo o'=>by rw[(Aw (LC o o')).2 pb 0 hpw];exact hf
 obtain⟨G⟩:Nonempty (Hid (BO S y nx=if Dv y&&decide (y.args.length<=6) then DR S y.args nx else none)):=⟨rfl⟩
 have O:(Dv y&&decide (y.args.length<=6))=true:=hok;have HF:Hid ((Dv y&&decide (y.args.length<=6))=true):=O;simp only[yi,decide_eq_true_eq]at O;obtain⟨_,hn⟩:=O;have ak:¬(6:Int)<(y.args.length:Int):=by omega
 obtain⟨HV⟩:Nonempty (Hid (Dt q w0 a_exprs x.w/\CU q w0 a_args y.args)):=⟨⟨h_exprs,h_args⟩⟩
 clear hok;go_enter func235,ntmps235;go_wp2_with (go_at_call 265;refine(Ln y.z _ _hcl).j ?_;rintro e w' ⟨rfl,rfl⟩)
 go_loopw [90] (λi wr=>∃(k nk:Nat),k<=y.args.length/\i=.int .i64 k/\nk<=60/\DR S y.args nx=DR S (y.args.drop k) nk/\wr.cell? ⟨pb,0,none⟩=some (.int .i64 (nk:Int))/\wr.frozen? ⟨pb,0,none⟩=false/\wr.cell? ⟨w.heap.size,3,none⟩=some (.slice a_exprs x.w.length c_exprs)/\Below pb w wr) (λi _=>y.args.length-(intOf i).toNat)
 case atStart=>exact⟨0,nx,by omega,rfl,hnx,rfl,by rw[(Aw AX).1 pb 0 hpw];exact hp,FZ _ _,by simp[go_sem],B0 _ _⟩
 case round=>
  obtain⟨k,nk,hk,rfl,ai,hG,aj,ah,aq,af⟩:=hrel;have HG:Hid (DR S y.args nx=DR S (y.args.drop k) nk):=hG;clear hG;have am:pb<wr.heap.size:=yg hpw af.size;have hB:Bw w0 wr:=hb0.c (af.j hpb);have ao:¬k<y.args.length:=by omega
  go_wp2;go_ret;have e0:y.args.drop k=[]:=yy (by omega);have HN:BO S y nx=some nk:=by
   rw[G.o,HF.o,if_pos rfl,HG.o,e0];rfl
  exact⟨AL (by rw[HN];rfl),af,λnx' h=>(by rw[HN]at h;injection h with h;subst h;exact⟨ai,aj⟩),ah⟩
 ):=h
def zjU(x:Ru)(a g a_exprs c_exprs d f y a_args b)(pb nx:Nat)(S){q}(w0 w)(hb0:Bw w0 w)(h_exprs:Dt q w0 a_exprs x.w)(h_args:CU q w0 a_args y.args)(_hS:AU x.w S)(_hSl:S.length=x.w.length)(_hle:x.w.length<=60)(_hcl:y.z.size<=maxLen)(l:y.args.length<=1048576)(hp:w.cell? ⟨pb,0,none⟩=some (.int .i64 (nx:Int)))(hf:w.frozen? ⟨pb,0,none⟩=false)(hpb:w0.heap.size<=pb)(hpw:pb<w.heap.size)(hnx:nx<=60)(hok:(Dv y&&decide (y.args.length<=6))=true)(p:y.u=2)(n:y.z.toList.isEmpty=true)(r:¬y.k < -1000000)(s:¬1000000<y.k)(O:¬(0:Int)<(y.args.length:Int)) :
  Ca 235 #[.agg #[.string x.name,.int .i64 x.W,.slice a x.v.length g,.slice a_exprs x.w.length c_exprs,.slice d x.E.length f],.agg #[.int .i64 y.u,.int .i64 y.k,.string y.z,.slice a_args y.args.length b],.pointer (some ⟨pb,0,none⟩)] w λe w'=>
   e=.returned (.bool (BO S y nx).isSome)/\Below pb w w'/\(∀nx',BO S y nx=some nx'->nx'<=60/\w'.cell? ⟨pb,0,none⟩=some (.int .i64 (nx':Int)))/\w'.frozen? ⟨pb,0,none⟩=false:=by
 have m:=trivial;exact rL
def zj2(x:Ru)(a g a_exprs c_exprs d f y a_args b)(pb nx:Nat)(S){q}(w0 w)(hb0:Bw w0 w)(h_exprs:Dt q w0 a_exprs x.w)(h_args:CU q w0 a_args y.args)(_hS:AU x.w S)(_hSl:S.length=x.w.length)(_hle:x.w.length<=60)(_hcl:y.z.size<=maxLen)(l:y.args.length<=1048576)(hp:w.cell? ⟨pb,0,none⟩=some (.int .i64 (nx:Int)))(hf:w.frozen? ⟨pb,0,none⟩=false)(hpb:w0.heap.size<=pb)(hpw:pb<w.heap.size)(hnx:nx<=60)(hok:(Dv y&&decide (y.args.length<=6))=true)(m:y.u=4)(n:y.z.toList.isEmpty=true)(p:y.k=0)(O:¬(0:Int)<(y.args.length:Int)) :
  Ca 235 #[.agg #[.string x.name,.int .i64 x.W,.slice a x.v.length g,.slice a_exprs x.w.length c_exprs,.slice d x.E.length f],.agg #[.int .i64 y.u,.int .i64 y.k,.string y.z,.slice a_args y.args.length b],.pointer (some ⟨pb,0,none⟩)] w λe w'=>
   e=.returned (.bool (BO S y nx).isSome)/\Below pb w w'/\(∀nx',BO S y nx=some nx'->nx'<=60/\w'.cell? ⟨pb,0,none⟩=some (.int .i64 (nx':Int)))/\w'.frozen? ⟨pb,0,none⟩=false:=by
 exact rL
def zjN(x:Ru)(a m a_exprs c_exprs g l y a_args f)(pb nx:Nat)(S){q}(w0 w)(hb0:Bw w0 w)(h_exprs:Dt q w0 a_exprs x.w)(h_args:CU q w0 a_args y.args)(hS:AU x.w S)(n:S.length=x.w.length)(O:x.w.length<=60)(_hcl:y.z.size<=maxLen)(r:y.args.length<=1048576)(hp:w.cell? ⟨pb,0,none⟩=some (.int .i64 (nx:Int)))(hf:w.frozen? ⟨pb,0,none⟩=false)(hpb:w0.heap.size<=pb)(hpw:pb<w.heap.size)(hnx:nx<=60)(hok:(Dv y&&decide (y.args.length<=6))=true)(A:y.u=3)(t:y.z.toList.isEmpty=true)(B:¬y.k < -1000000)(C:¬1000000<y.k) :
  Ca 235 #[.agg #[.string x.name,.int .i64 x.W,.slice a x.v.length m,.slice a_exprs x.w.length c_exprs,.slice g x.E.length l],.agg #[.int .i64 y.u,.int .i64 y.k,.string y.z,.slice a_args y.args.length f],.pointer (some ⟨pb,0,none⟩)] w λe w'=>
   e=.returned (.bool (BO S y nx).isSome)/\Below pb w w'/\(∀nx',BO S y nx=some nx'->nx'<=60/\w'.cell? ⟨pb,0,none⟩=some (.int .i64 (nx':Int)))/\w'.frozen? ⟨pb,0,none⟩=false:=by
 exact rM
def zjo(x:Ru)(d j a b f i y c g)(pb nx:Nat)(S){q}(w0 w)(A:Bw w0 w)(l:Dt q w0 a x.w)(m:CU q w0 c y.args)(hS:AU x.w S)(s:S.length=x.w.length)(G:x.w.length<=60)(o:y.z.size<=maxLen)(p:y.args.length<=1048576)(H:At w pb 0 (I6 (nx:Int)))(D:w.frozen? ⟨pb,0,none⟩=false)(t:w0.heap.size<=pb)(r:pb<w.heap.size)(B:nx<=60) :
  Ca 235 #[.agg #[.string x.name,I6 x.W,.slice d x.v.length j,.slice a x.w.length b,.slice f x.E.length i],.agg #[I6 y.u,I6 y.k,.string y.z,.slice c y.args.length g],Pn pb] w λe w'=>
   e=.returned (.bool (BO S y nx).isSome)/\Below pb w w'/\(∀nx',BO S y nx=some nx'->nx'<=60/\At w' pb 0 (I6 (nx':Int)))/\w'.frozen? ⟨pb,0,none⟩=false:=by
 cases n:(Dv y&&decide (y.args.length<=6))
 .exact zkM x d j a b f i y c g pb nx S w o p D r n
 have M:=n;simp only[yi,decide_eq_true_eq]at M;obtain⟨O,_⟩:=M;have Y:y.u=1/\DH y.z=true/\y.k=0∨y.u=2/\y.z.toList.isEmpty=true/\¬y.k < -1000000/\¬1000000<y.k/\¬(0:Int)<(y.args.length:Int)∨y.u=3/\y.z.toList.isEmpty=true/\¬y.k < -1000000/\¬1000000<y.k∨y.u=4/\y.z.toList.isEmpty=true/\y.k=0/\¬(0:Int)<(y.args.length:Int):=by
  unfold Dv at O;split at O
  .rename_i h;simp at h O;exact .inl ⟨h,O.1,O.2⟩
  split at O
  .rename_i h;simp[BG,Mv]at h O;exact .inr (.inl ⟨h,by simp[O.1.1],qd,qd,by simp[O.2]⟩)
  split at O
  .rename_i h;simp[BG,Mv]at h O;exact .inr (.inr (.inl ⟨h,by simp[O.1],qd,qd⟩))
  split at O
  .rename_i h;simp[BG]at h O;exact .inr (.inr (.inr ⟨h,by simp[O.1],O.2.1,by simp[O.2.2]⟩))
  cases O
 rcases Y with⟨N,R,I⟩|⟨Z,C,K,J,L⟩|⟨U,C,K,J⟩|⟨T,C,I,L⟩
 .exact zj0 x d j a b f i y c g pb nx S w0 w A l m hS s G o p H D t r B n N R I
 .exact zjU x d j a b f i y c g pb nx S w0 w A l m hS s G o p H D t r B n Z C K J L
 .exact zjN x d j a b f i y c g pb nx S w0 w A l m hS s G o p H D t r B n U C K J
 exact zj2 x d j a b f i y c g pb nx S w0 w A l m hS s G o p H D t r B n T C I L
def Nk(h:P:=by refine r1 5 λK hK=>?_;go_simp;(go_at_call 106;refine(hIs.o _ _ ?_).j ?_;(first|exact se _ _ _ (by simp)|exact rX _ _ _ _ (by simp));rintro e' w' ⟨rfl,rfl⟩);(try go_wp2_with fail);refine hK.o _ _ (by((try dsimp only);(go_split_ands;refine⟨?_,?_,?_,?_,?_,?_,?_,?_⟩<;>first|(simp[go_sem];done)|exact zab hb' (by assumption)))) λhHeld=>?_;clear hK K;(try simp only[pA,pZ,pS,pN]);refine sr 6 40 ?_;first|(refine r1 15 λK hK=>?_;go_simp;(go_at_call 267;refine(hZ.o _).j ?_;rintro e' w' ⟨rfl,hb'⟩);(try go_wp2_with fail);refine hK.o _ _ (by((try dsimp only);(go_split_ands;refine⟨?_,?_,?_,?_,?_,?_,?_,?_⟩<;>first|(simp[go_sem];done)|exact zab hb' (by assumption)))) λhHeld=>?_;clear hK K;(try simp only[pA,pZ,pS,pN]);refine sr 16 40 ?_;refine wpAnyH_done (by kernel_rfl) ?_ _;refine Ya ?_;first|(go_wp2;go_ret;first|exact⟨rfl,B3 _ _ _⟩|exact⟨rfl,(B3 _ _ _).c (hb'.j (by simp;omega))⟩)|(obtain⟨y0,y1,y2,y3,y4,y5,y6,y7⟩:=hHeld;have O:Bw w w':=(B3 _ _ _).c (hb'.j (by simp;omega));have hE:=Aa (hv0.d O);clear hb' hv0;go_wp2;go_quiet (first|(go_at_call 236;refine Y3 (hF.o _ (hE.o.d ?_));exact Fk An)|(go_at_call 269;refine Y3 (hDp.o _ (hE.o.d ?_));exact Fk An));go_wp2;go_ret;first|exact⟨rfl,Fk O⟩|exact⟨AL (by simp;omega),Fk O⟩))|(refine wpAnyH_done (by kernel_rfl) ?_ _;refine Ya ?_;first|(go_wp2;go_ret;first|exact⟨rfl,B3 _ _ _⟩|exact⟨rfl,(B3 _ _ _).c (hb'.j (by simp;omega))⟩)|(obtain⟨y0,y1,y2,y3,y4,y5,y6,y7⟩:=hHeld;have O:Bw w w':=(B3 _ _ _).c (hb'.j (by simp;omega));have hE:=Aa (hv0.d O);clear hb' hv0;go_wp2;go_quiet (first|(go_at_call 236;refine Y3 (hF.o _ (hE.o.d ?_));exact Fk An)|(go_at_call 269;refine Y3 (hDp.o _ (hE.o.d ?_));exact Fk An));go_wp2;go_ret;first|exact⟨rfl,Fk O⟩|exact⟨AL (by simp;omega),Fk O⟩))):=h
def JY(h:P:=by go_enter func234,ntmps234;go_wp2;clear c0 c1 c2 c3 c4 c5 c6 c7 he h1;(try clear h2);(try clear h3);refine wp_region_noPanic ?_;refine wp_region_held_drew (S:=(λw'=>At w' w.heap.size 0 (I6 2)/\At w' w.heap.size 1 (.int .u8 e.op)/\At w' w.heap.size 2 (.string e.A)/\At w' w.heap.size 3 (I6 e.val.u)/\At w' w.heap.size 4 (I6 e.val.num)/\At w' w.heap.size 5 (.string e.val.J)/\At w' w.heap.size 6 (I6 e.a)/\At w' w.heap.size 7 (I6 e.b))) (by kernel_rfl) (by((try dsimp only);(go_split_ands;refine⟨?_,?_,?_,?_,?_,?_,?_,?_⟩<;>first|(simp[go_sem];done)|exact zab hb' (by assumption)))) (λhHeld=>?_);refine sr 0 2 ?_;refine r2 2 4 (λK hK=>?_) λK hK=>?_;(go_simp;refine hK.o _ _ (by((try dsimp only);(go_split_ands;refine⟨?_,?_,?_,?_,?_,?_,?_,?_⟩<;>first|(simp[go_sem];done)|exact zab hb' (by assumption)))) λhHeld=>?_;clear hK K;(try simp only[pA,pZ,pS,pN]);refine r2 3 4 (λK hK=>?_) λK hK=>?_;(go_simp;refine hK.o _ _ (by((try dsimp only);(go_split_ands;refine⟨?_,?_,?_,?_,?_,?_,?_,?_⟩<;>first|(simp[go_sem];done)|exact zab hb' (by assumption)))) λhHeld=>?_;clear hK K;(try simp only[pA,pZ,pS,pN]);refine r1 4 λK hK=>?_;go_simp;(go_at_call 268;refine(XS _).j ?_;rintro O w' ⟨rfl,rfl⟩);(try go_wp2_with fail);refine hK.o _ _ (by((try dsimp only);(go_split_ands;refine⟨?_,?_,?_,?_,?_,?_,?_,?_⟩<;>first|(simp[go_sem];done)|exact zab hb' (by assumption)))) λhHeld=>?_;clear hK K;(try simp only[pA,pZ,pS,pN]);exact Nk);go_simp;(go_at_call 268;refine(XS _).j ?_;rintro O w' ⟨rfl,rfl⟩);(try go_wp2_with fail);refine hK.o _ _ (by((try dsimp only);(go_split_ands;refine⟨?_,?_,?_,?_,?_,?_,?_,?_⟩<;>first|(simp[go_sem];done)|exact zab hb' (by assumption)))) λhHeld=>?_;clear hK K;(try simp only[pA,pZ,pS,pN]);refine r1 3 λK hK=>?_;go_simp;refine hK.o _ _ (by((try dsimp only);(go_split_ands;refine⟨?_,?_,?_,?_,?_,?_,?_,?_⟩<;>first|(simp[go_sem];done)|exact zab hb' (by assumption)))) λhHeld=>?_;clear hK K;(try simp only[pA,pZ,pS,pN]);exact Nk);go_simp;(go_at_call 268;refine(XS _).j ?_;rintro O w' ⟨rfl,rfl⟩);(try go_wp2_with fail);refine hK.o _ _ (by((try dsimp only);(go_split_ands;refine⟨?_,?_,?_,?_,?_,?_,?_,?_⟩<;>first|(simp[go_sem];done)|exact zab hb' (by assumption)))) λhHeld=>?_;clear hK K;(try simp only[pA,pZ,pS,pN]);refine r1 2 λK hK=>?_;go_simp;refine hK.o _ _ (by((try dsimp only);(go_split_ands;refine⟨?_,?_,?_,?_,?_,?_,?_,?_⟩<;>first|(simp[go_sem];done)|exact zab hb' (by assumption)))) λhHeld=>?_;clear hK K;(try simp only[pA,pZ,pS,pN]);refine r1 3 λK hK=>?_;go_simp;refine hK.o _ _ (by((try dsimp only);(go_split_ands;refine⟨?_,?_,?_,?_,?_,?_,?_,?_⟩<;>first|(simp[go_sem];done)|exact zab hb' (by assumption)))) λhHeld=>?_;clear hK K;(try simp only[pA,pZ,pS,pN]);exact Nk):=h
def th(a c es S e w){q}(hv:Dt q w a es)(he:es[S.length]?=some e)(ah:0<=e.op)(p:e.op<256)(g:e.u=2)(af:Di e.op=false) :
  Ca 234 #[.slice a es.length c,I6 (S.length:Int)] w λe' w'=>e'=.returned (.bool (Bl S e).isSome)/\Bw w w':=by
 have s:S.length<es.length:=(ye.1 he).1;have hv0:=hv;obtain⟨b,o,rfl,n,c0,c1,c2,c3,c4,c5,c6,c7⟩:=hv.get he;clear n hv;have O:(Bl S e).isSome=(if CC S e then GZ S e.a e.b else none).isSome:=by simp[Bl,g]
 have B3:∀o f m,Bw w (((w.alloc o).drew.alloc f).alloc m):=λo f m=>((E6 o).drew.alloc qe _).alloc qf _;have r:=Xs e.op;obtain⟨hIs,hZ⟩:=Ah (U2 e.op ah p) (λw=>M8 e.val w);rw[g]at c0;rw[show(Bl S e).isSome=false by rw[O];simp[CC,af]];rw[af]at hIs;clear hv0 O;cases h1:(e.op==0)
 .exact JY
 cases h2:(e.a==0)
 .exact JY
 cases h3:(e.b==0)<;>exact JY
def gw(a c es S e w){q}(hv:Dt q w a es)(he:es[S.length]?=some e)(x:0<=e.op)(t:e.op<256)(n:e.u=2)(ah:Di e.op=true)(af:(e.A.toList.isEmpty&&Cc e.val)=false) :
  Ca 234 #[.slice a es.length c,I6 (S.length:Int)] w λe' w'=>e'=.returned (.bool (Bl S e).isSome)/\Bw w w':=by
 have y:S.length<es.length:=(ye.1 he).1;have hv0:=hv;obtain⟨b,o,rfl,r,c0,c1,c2,c3,c4,c5,c6,c7⟩:=hv.get he;clear r hv;have O:(Bl S e).isSome=(if CC S e then GZ S e.a e.b else none).isSome:=by simp[Bl,n]
 have B3:∀o g p,Bw w (((w.alloc o).drew.alloc g).alloc p):=λo g p=>((E6 o).drew.alloc qe _).alloc qf _;have z:=Xs e.op;obtain⟨hIs,hZ⟩:=Ah (U2 e.op x t) (λw=>M8 e.val w);rw[n]at c0;have h1:(e.op==0)=false:=by
  cases h:(e.op==0)
  .rfl
  have s:e.op=0:=qq;rw[s]at ah;exact absurd ah qh
 rw[ah]at hIs;cases f:e.A.toList.isEmpty
 .rw[show(Bl S e).isSome=false by rw[O];simp[CC,BG,f]];clear hv0 O af;exact JY
 have m:Cc e.val=false:=by simpa[f] using af
 rw[show(Bl S e).isSome=false by rw[O];simp[CC,m]];rw[m]at hZ;clear hv0 O af;exact JY
def t_(a c es S e w){q}(hv:Dt q w a es)(hl:es.length<=60)(hS:AU es S)(he:es[S.length]?=some e)(aB:0<=e.op)(U:e.op<256)(C:e.u=2)(B:Di e.op=true)(Y:e.A.toList.isEmpty=true)(G:Cc e.val=true) :
  Ca 234 #[.slice a es.length c,I6 (S.length:Int)] w λe' w'=>e'=.returned (.bool (Bl S e).isSome)/\Bw w w':=by
 have aH:S.length<es.length:=(ye.1 he).1;have hv0:=hv;obtain⟨b,o,rfl,N,c0,c1,c2,c3,c4,c5,c6,c7⟩:=hv.get he;clear N hv;have af:(Bl S e).isSome=(if CC S e then GZ S e.a e.b else none).isSome:=by simp[Bl,C]
 have B3:∀o H M,Bw w (((w.alloc o).drew.alloc H).alloc M):=λo H M=>((E6 o).drew.alloc qe _).alloc qf _;have aG:=Xs e.op;obtain⟨hIs,hZ⟩:=Ah (U2 e.op aB U) (λw=>M8 e.val w);rw[C]at c0;have h1:(e.op==0)=false:=by
  cases h:(e.op==0)
  .rfl
  have R:e.op=0:=qq;rw[R]at B;exact absurd B qh
 rw[B]at hIs;rw[G]at hZ;have hw:IntKind.i64.wrap ((S.length:Int)-1)=(S.length:Int)-1:=by rw[Yg];omega
 by_cases O:e.b=(S.length:Int)-1
 .by_cases f:e.b<0
  .rw[show(Bl S e).isSome=false by rw[af];simp[CC,show¬0<=e.b by omega]];have I:(e.b != (S.length:Int)-1)=false:=Mp;have W:decide (e.b<0)=true:=decide_eq_true f;clear O f hv0 hS af;exact JY
  have W:decide (e.b<0)=false:=decide_eq_false f;have I:(e.b != (S.length:Int)-1)=false:=Mp;by_cases r:e.a<0
  .rw[show(Bl S e).isSome=false by rw[af];simp[CC,show¬0<=e.a by omega]];have az:decide (e.a<0)=true:=decide_eq_true r;clear O f r hv0 hS af;exact JY
  have az:decide (e.a<0)=false:=decide_eq_false r;obtain⟨g,p⟩:=Yf (show 0<=e.b by omega);have L:g+1=S.length:=qd;obtain⟨sb,ah⟩:∃s,S[g]?=some s:=⟨S[g]'(by omega),qe⟩
  obtain⟨n,y⟩:=Yf (show 0<=e.a by omega);have m:CC S e=true:=by
   simp only[CC,B,BG,Y,G,YJ,yi,decide_eq_true_eq];exact⟨O,qd,qd⟩
  have z:(Bl S e).isSome=(GZ S e.a e.b).isSome:=by rw[af,m];rfl
  have D:=hS.aZ g sb ah;have aI:IntKind.i64.wrap ((sb.1:Int)-1)=(sb.1:Int)-1:=by rw[Yg];omega
  have hF:=Aa (show∀w',Dt q w' (some ⟨b,o,none⟩) es->Ca 236 #[.slice (some ⟨b,o,none⟩) es.length c,I6 e.b] w' λe Z=>e=.returned (I6 (sb.1:Int))/\Z=w' fromλw' h=>by
   rw[p];exact Tv (some ⟨b,o,none⟩) c es S g sb w' h hS ah)
  cases hd:(e.a==(sb.1:Int)-1)
  .have t:¬e.a=(sb.1:Int)-1:=qy;rw[show(Bl S e).isSome=false by
    rw[z];unfold GZ;rw[p,YG,ah];cases S[e.a.toNat]?<;>simp[t]]
   clear p y ah D L hS m z af t O f r;exact JY
  have aF:e.a=(sb.1:Int)-1:=qy;obtain⟨sa,x⟩:∃s,S[n]?=some s:=⟨S[n]'(by omega),qe⟩
  rw[show(Bl S e).isSome=decide (1+max sa.2 sb.2<=20) by
   rw[z];unfold GZ;have T:decide ((n:Int)=(sb.1:Int)-1)=true:=decide_eq_true qd;rw[p,y,YG,YG,ah,x];simp only[T,YJ];by_cases E:1+max sa.2 sb.2<=20
   .rw[decide_eq_true E];rfl
   rw[decide_eq_false E];rfl]
  have hDp:=Aa (λw'(h:Dt q w' (some ⟨b,o,none⟩) es)=>lw (some ⟨b,o,none⟩) c es S.length n g sa.2 sb.2 e w' h he C y p (hS.aJ n sa x) (hS.aJ g sb ah) (m9 (some ⟨b,o,none⟩) c es S w' h hS n sa x) (m9 (some ⟨b,o,none⟩) c es S w' h hS g sb ah));clear y x p ah D L hS m z af aF O f r;exact JY
 rw[show(Bl S e).isSome=false by rw[af];simp[CC,O]];have I:(e.b != (S.length:Int)-1)=true:=Mp;clear O hv0 hS af;exact JY
def ziw(a:Option Addr)(c:Nat)(es:List Ex)(S:List Sp)(e:Ex)(w:World){q:Option Nat}(hv:Dt q w a es)(hl:es.length<=60)(hS:AU es S)(i:es[S.length]?=some e)(N:e.le maxLen)(O:0<=e.op)(t:e.op<256) :
  Ca 234 #[.slice a es.length c,I6 (S.length:Int)] w λp w'=>p=.returned (.bool (Bl S e).isSome)/\Bw w w':=by
 obtain⟨v,C⟩:=N;have T:S.length<es.length:=(ye.1 i).1;have d:=hv;obtain⟨b,o,rfl,H,J,G,D,K,I,L,E,R⟩:=hv.get i;clear H hv;by_cases y:e.u=0
 .have f:(e.u==0)=true:=by simp[y]
  cases m:(e.op==0)<;>cases l:(e.a==0)<;>cases k:(e.b==0)<;>cases n:e.A.toList.isEmpty
  all_goals
   go_enter func234,ntmps234;go_wp2_with (go_at_call 176;refine(Tz e.val _ C).j ?_;rintro p w' ⟨rfl,g⟩);go_ret
  all_goals first
   |exact⟨AL (by simp[Bl,CM,BG,f,m,l,k,n]),Aj⟩
   |exact⟨AL (by simp[Bl,CM,BG,f,m,l,k,n];cases Bf e.val<;>rfl),Aj.thn g⟩
 by_cases x:e.u=1
 .have f:(e.u==0)=false:=by simp[x]
  have r:(e.u==1)=true:=by simp[x]
  cases m:(e.op==0)<;>cases l:(e.a==0)<;>cases k:(e.b==0)<;>cases n:Aq e.A.data.toList
  all_goals
   go_enter func234,ntmps234;go_wp2_with (first|(go_at_call 116;refine(He e.A _ v).j ?_;rintro p w' ⟨rfl,rfl⟩)|(go_at_call 267;refine(M8 e.val _).j ?_;rintro p w' ⟨rfl,g⟩));go_ret
  all_goals first
   |exact⟨AL (by simp[Bl,CM,f,r,m,l,k,n]),Aj⟩
   |exact⟨AL (by simp[Bl,CM,f,r,m,l,k,n];cases Cc e.val<;>rfl),Aj.thn g⟩
 have f:(e.u==0)=false:=by simpa using y
 have r:(e.u==1)=false:=by simpa using x
 by_cases k2:e.u=2
 .clear J G D K I L E R;cases s:Di e.op
  .exact th _ c es S e w d i O t k2 s
  cases B:e.A.toList.isEmpty
  .exact gw _ c es S e w d i O t k2 s (by rw[B];rfl)
  cases z:Cc e.val
  .exact gw _ c es S e w d i O t k2 s (by rw[z];simp)
  exact t_ _ c es S e w d hl hS i O t k2 s B z
 have M:(e.u==2)=false:=QX;cases m:(e.op==0)<;>cases l:(e.a==0)<;>cases k:(e.b==0)
 all_goals
  go_enter func234,ntmps234;go_wp2;go_ret;exact⟨AL (by simp[Bl,f,r,M]),Aj⟩
end
def Hr.owns{w base n a c xs}(h:w.ownsRow base 9 1 (.slice a n c) n (xs.map Value.string)):Hr none w a xs:=by
 intro i s d;have b:(xs.map Value.string)[i]?=some (.string s):=by simp[d]
 obtain⟨g,rfl,_,h0,_⟩:=BM h b;refine⟨g,0,[.string s],rfl,Qb.ah _ _ _,rfl,?_,rfl⟩;exact nV
def za{w:World}{base n a c}{xs:List ByteArray}(h:w.ownsRow base 9 1 (.slice a n c) n (xs.map Value.string))(O:a=none):xs.length=0:=by
 cases xs with
 |nil=>rfl
 |cons x r=>
  obtain⟨g,b,_⟩:=BM h (j:=0) (x:=.string x) qe;rw[O]at b;cases b
def iY:(prog.info? 9).map (λi=>(i.zero,i.size,i.bytes))=some (some (.string ByteArray.empty),1,16):=qg
def vQ(xs:List ByteArray):∀u∈xs.map Value.string,u.oneCell'=true:=by
 intro u hu;obtain⟨s,_,rfl⟩:=yz.1 hu;rfl
def ze{w q a xs}(h:Hr q w a xs):∀c,a=some c->∀(j:Nat)u,(xs.map Value.string)[j]?=some u->w.cell? (c.add j)=some u:=by
 intro c hd j u hu;rw[yA]at hu;cases d:xs[j]? with
 |none=>rw[d]at hu;cases hu
 |some s=>
  rw[d]at hu;simp at hu;subst hu;obtain⟨b,o,rfl,_,e⟩:=h.get d;cases hd;rw[Wl];exact e
def zoK{x}(h:Am x=none):FP (BD [] x.w) x.E 0 1=none:=by
 unfold Am at h;split at h
 .split at h
  .cases h
  .split at h
   .cases h
   .exact h
 cases h
def vN{S y nx n}(h:BO S y nx=some n):DR S y.args nx=some n:=by
 unfold BO at h;split at h
 .exact h
 cases h
def XC{S x r nx n}(h:DR S (x::r) nx=some n):∃(x0:Nat)(O:Sp),x=(x0:Int)/\S[x0]?=some O/\O.1=nx/\DR S r (x0+1)=some n:=by
 rw[JQ]at h;split at h
 .rename_i a;simp only[yi,decide_eq_true_eq]at a;obtain⟨d,e,b⟩:=a;obtain⟨x0,rfl⟩:=Yf d;have c:x0<S.length:=qd;refine⟨x0,S[x0],rfl,qe,?_,h⟩;simpa[c] using b
 cases h
def jz{es S}(hS:AU es S):∀{l:List Int}{nx n:Nat},DR S l nx=some n->nx<=n
 |[],nx,n,h=>by
  have:some nx=some n:=h
  injection this with this
  omega
 |x::r,nx,n,h=>by
  obtain⟨x0,O,rfl,a,rfl,b⟩:=XC h
  have d:=jz hS b
  have c:=hS.aZ x0 O a
  omega
def mU{S}:∀{l:List Int}{nx n:Nat},l≠[]->DR S l nx=some n->∃O:Nat,l.getLast?=some (O:Int)/\n=O+1/\O<S.length
 |[],_,_,h,_=>absurd rfl h
 |x::r,nx,n,_,h=>by
  obtain⟨x0,f,rfl,d,rfl,a⟩:=XC h
  cases r with
  |nil=>
   have:some (x0+1)=some n:=a
   injection this with this
   exact⟨x0,rfl,this.y,(ye.1 d).1⟩
  |cons y e=>
   obtain⟨O,h1,b,c⟩:=mU (l:=y::e) qe a
   exact⟨O,qw,b,c⟩
def kw{α:Type}{f}{l:List α}{j x}(h:l[j]?=some x):(l.take (j+1)).all f=((l.take j).all f&&f x):=by
 rw[yZ,h];simp
def zin{α:Type}{f}{l:List α}{j m x}(h:l[j]?=some x)(hj:j<m)(a:f x=false):(l.take m).all f=false:=by
 rw[W7];refine⟨x,?_,by simp[a]⟩;have:(l.take m)[j]?=some x:=by rw[YC,if_pos hj,h]
 exact yd this
def zmu{es a y}{O:Nat}(h:y.args.getLast?=some (O:Int)):FJ es a y=(es.take (O+1)).all (D_ a):=by
 have c:y.args.isEmpty=false:=by
  cases d:y.args with
  |nil=>rw[d]at h;cases h
  |cons v r=>rfl
 have b:I9 y=O+1:=by
  unfold I9;rw[h];rfl
 unfold FJ;rw[c,b];rfl
def IC:Option Nat->Int
 |none=>-1
 |some i=>(i:Int)
section
attribute [local go_sem ↓] wp_at_zero wp_at_succ
def nX(h:P:=by
 go_roundw
 case rel=>exact⟨j+1,by omega,by omega,by go_num,HJ.o,zab Aj aK,af.alloc hsz _⟩
 case measure=>simp[intOf];omega
 ):=h
def zmn(x J L s B G I){q}(w)(az:Ez q w J x.v)(R:Dt q w s x.w)(ay:FI q w G x.E)(bB:x.le 1048576)(aN:Am x=none) :
  Ca 168 #[.agg #[.string x.name,.int .i64 x.W,.slice J x.v.length L,.slice s x.w.length B,.slice G x.E.length I]] w λe w'=>e=.returned (.int .i64 (IC (AY x)))/\Bw w w':=by
 obtain⟨bK,bm,aY,a8⟩:=bB;obtain⟨bZ,bQ,bI,aU,am,au⟩:=Xx aN;obtain⟨SS,aC⟩:∃S,S=BD [] x.w:=⟨_,rfl⟩
 have a0:AU x.w SS:=by rw[aC];exact(TA (AU.nil _) rfl).1
 have aw:FP SS x.E 0 1=none:=by rw[aC];exact zoK aN
 rw[<-aC]at am;obtain⟨bk,ax,bC,b8,bF,b7,bE,aW⟩:=Up a0 aw am au aU aY a8 bm;clear aC a0 aw am au aU aN aY a8 bm;obtain⟨HH⟩:Nonempty (Hid (AY x=match Ee x.v [] 1 with|.inl i=>some i|.inr f=>GY x f)):=⟨VL x⟩
 go_enter func168,ntmps168;go_wp2
 go_loopw [3,16] (λkv i wr=>∃(k:Nat)(f:List ByteArray)(a:Option Addr)(c:Nat),k<=x.v.length/\i=.int .i64 k/\kv=.slice a f.length c/\Ee x.v [] 1=Ee (x.v.drop k) f (k+1)/\f.length<=6*k/\(a=none->f.length=0)/\Hr none wr a f/\Ep wr w.heap.size x J L s B G I/\Bw w wr) (λ_ i _=>x.v.length-(intOf i).toNat)
 case atStart=>exact⟨0,[],none,0,qd,rfl,rfl,rfl,qe,λ_=>rfl,Cr.nil,Ep.aF _ _ _ _ _ _ _ _ _,Aj⟩
 case round=>
  obtain⟨k,f,a,c,hk,rfl,rfl,hG,b9,Y,aq,O,hb⟩:=hrel;obtain⟨HG,HBX,Z,aH⟩:=Bn hG O aq Y;clear hG aq Y;have aV:w.heap.size<wr.heap.size:=LZ O.1;by_cases bu:k<x.v.length
  .obtain⟨p,aD⟩:=Ba bu;obtain⟨b,o,C,D,rfl,hq,c0,c1,c2,ai⟩:=(az.d hb).get aD;have bN:=aW.o.2 p (yd aD);have bJ:=bF.o p (yd aD);have HD:Hid (x.v.drop k=p::x.v.drop (k+1)):=CF aD;have bw:=Aa ai;obtain⟨T,rfl⟩:∃u,u=wr:=⟨wr,rfl⟩
   clear O ai;go_wp2_with (at_builtin;refine CN qi (.tmp 21) (.tmp 22) 185 qi (T.heap.size+1) 9 _ 1 16 underlying185 iY qi qd _ 0 [] qi (yN _ _ _ _) a f.length c qi (f.map Value.string) qe aH.o (ze (Z.o.d Aj)) (vQ f) qj qd qe ?_;intro a2 a4 w2 bf bh bA;have aO:Below (T.heap.size+1) (T.alloc (.cells #[.bool p.neg,.string p.z,.slice C p.e.length D] 152)) w2:=(An.grown bh.o qe (λj hj=>by cases hj));have d2:w2.cell? ⟨T.heap.size,2,none⟩=some (.slice C p.e.length D):=(aO.cell (p:=⟨T.heap.size,2,none⟩) qe).c ql);have aI:w2.ownsRow (T.heap.size+1) 9 1 (.slice a2 f.length a4) f.length (f.map Value.string):=by
    have:=bf.o;simpa using this
   clear bf bh bA d2 c0 c1 c2 hq
   go_loopw [6,27] (λhv i ao=>∃(j:Nat)(m:List ByteArray)(a':Option Addr)(c':Nat),j<=p.e.length/\i=.int .i64 j/\hv=.slice a' m.length c'/\Cq p.e f=Cq (p.e.drop j) m/\m.length<=6*k+j/\ao.ownsRow (T.heap.size+1) 9 1 (.slice a' m.length c') m.length (m.map Value.string)/\Below (T.heap.size+1) (T.alloc (.cells #[.bool p.neg,.string p.z,.slice C p.e.length D] 152)) ao) (λ_ i _=>p.e.length-(intOf i).toNat)
   case atStart=>exact⟨0,f,a2,a4,qd,rfl,qe,rfl,qd,aI,aO⟩
   case round=>
    clear aI aO;obtain⟨j,m,a',c',hj,rfl,rfl,hT,cd,aa,af⟩:=hrel;obtain⟨HT,HO⟩:=Ah hT aa;clear hT aa;have aQ:Bw T wr:=Aj.c (af.j qd);have M:Bw w wr:=hb.thn aQ;have hsz:=af.size;have A1:∀o,Below (T.heap.size+1) (T.alloc (.cells #[.bool p.neg,.string p.z,.slice C p.e.length D] 152)) (wr.alloc o):=λo=>af.alloc (by simp at hsz;omega) _;by_cases aS:j<p.e.length
    .obtain⟨t,bc⟩:=Ba aS;obtain⟨b',o',ea,hq,c0,c1,c2,c3,c4,c5⟩:=(bw.o.d aQ).get bc;subst ea;have aF:Hid (p.e.drop j=t::p.e.drop (j+1)):=CF bc;have AW:∀o,Bw w (wr.alloc o):=λo=>M.alloc M.size _;by_cases k2:t.u=2
     .have HN:Hid (Cq p.e f=Cq (p.e.drop (j+1)) (m++[t.A])):=show Cq p.e f=_ from by rw[HT.o,aF.o,Mj];simp[Dm,k2]
      rw[k2]at c0;go_wp2_with (at_builtin;refine CN qi (.tmp 51) (.tmp 54) 185 qi (T.heap.size+1) 9 _ 1 16 underlying185 iY qi qd _ m.length _ qi ((HO.o.alloc _).alloc _) (some ⟨wr.heap.size+1,0,none⟩) 1 1 qi [.string t.A] qi (λe=>qo) (Cv _ _ _ _ qe) (by simp[Value.oneCell']) qj qd (by simp at hsz⊢;omega) ?_;intro a3 a5 w3 bt bv b4);have bq:=(((A1 _).alloc (by simp at hsz;simp;omega) _).grown bv.o (by simp at hsz;simp;omega) (λg hg=>(HO.o.lt g hg).1))
      have aT:w3.ownsRow (T.heap.size+1) 9 1 (.slice a3 (m++[t.A]).length a5) (m++[t.A]).length ((m++[t.A]).map Value.string):=by
       have:=bt.o;simpa using this
      go_roundw
      case rel=>exact⟨j+1,m++[t.A],a3,a5,qd,qm,qe,HN.o,qf,aT,bq⟩
      case measure=>simp[intOf];omega
     by_cases k3:t.u=3/\t.A.toList.isEmpty=false
     .obtain⟨k3,v0⟩:=k3;rw[k3]at c0;have hI:=Aa (λw' h=>Vv t.A a' c' m w' (q:=none) h qd);cases hm:Bu t.A m
      all_goals
       rw[hm]at hI;go_wp2_with (go_at_call 106;refine(hI.o _ ((Hr.owns HO.o).d Aj)).j ?_;rintro e' w1 ⟨rfl,rfl⟩)
      .have HX:Hid (AY x=some (k+1)):=show AY x=_ from by
        have hz:Cq p.e f=none:=by
         rw[HT.o,aF.o,Mj];simp[Dm,k3,BG,hm];intro h;simp[h]at v0
        rw[HH.o,HG.o,HD.o,Nb,hz]
       go_ret;exact⟨EB (by rw[HX.o];simp[IC]),AW _⟩
      have HN:Hid (Cq p.e f=Cq (p.e.drop (j+1)) m):=show Cq p.e f=_ from by rw[HT.o,aF.o,Mj];simp[k3,hm]
      go_roundw
      case rel=>exact⟨j+1,m,a',c',qd,qm,rfl,HN.o,qd,HO.o.alloc _,A1 _⟩
      case measure=>simp[intOf];omega
     have HN:Hid (Cq p.e f=Cq (p.e.drop (j+1)) m):=show Cq p.e f=_ from by
      have ha:Dm t=false:=by
       exact n_
      rw[HT.o,aF.o,Mj,ha];simp[k2]
     by_cases h3:t.u=3
     focus
      have bP:t.A.toList.isEmpty=true:=by cases h:t.A.toList.isEmpty<;>simp_all
      clear k3;rw[h3]at c0
     rotate_left
     focus
      clear k3
     rotate_left
     all_goals
      go_wp2;go_roundw
      case rel=>exact⟨j+1,m,a',c',qd,qm,rfl,HN.o,qd,HO.o.alloc _,A1 _⟩
      case measure=>simp[intOf];omega
    have HN:Hid (Cq p.e f=some m):=show Cq p.e f=_ from by
     rw[HT.o,yy qd];rfl
    have d0:wr.cell? ⟨T.heap.size,0,none⟩=some (.bool p.neg):=(af.cell (p:=⟨T.heap.size,0,none⟩) qe).c ql;have a7:Ep wr w.heap.size x (some ⟨b,o,none⟩) L s B G I:=(HBX.o.d Aj).aq af qd;cases bi:p.neg
    all_goals
     rw[bi]at d0;have HM:Hid (Ee x.v [] 1=Ee (x.v.drop (k+1)) (if p.neg then f else m) (k+1+1)):=show Ee x.v [] 1=_ from by rw[HG.o,HD.o,Nb,HN.o]
     rw[bi]at HM;go_wp2
    .go_roundw
     case rel=>exact⟨k+1,m,a',c',qd,qm,rfl,HM.o,qd,za HO.o,Hr.owns HO.o,a7,M⟩
     case measure=>simp[intOf];omega
    go_roundw
    case rel=>exact⟨k+1,f,a,c,qd,qm,rfl,HM.o,qd,aH.o,Z.o.d aQ,a7,M⟩
    case measure=>simp[intOf];omega
  have br:f.length<=36:=qd;have HN:Hid (AY x=GY x f):=show AY x=_ from by rw[HH.o,HG.o,yy qd];rfl
  obtain⟨q0,q1,q2,q3,q4⟩:=O;go_wp2;clear q0 q1 q2 q3 q4
  go_loopw [65] (λi ao=>∃(k nx:Nat),k<=x.E.length/\i=.int .i64 k/\GY x f=Dc (FJ x.w f) (x.E.drop k) (x.v.length+1+k)/\FP SS (x.E.drop k) nx (k+1)=none/\(x.w.take nx).all (D_ f)=true/\Hr none ao a f/\Ep ao w.heap.size x J L s B G I/\Bw w ao) (λi _=>x.E.length-(intOf i).toNat)
  case atStart=>exact⟨0,0,qd,rfl,rfl,ax.o,qe,Z.o,HBX.o,hb⟩
  case round=>
   clear HG HBX Z hb hk aV ax;obtain⟨k,nx,hk,rfl,hG,aw,ak,aq,O,hb⟩:=hrel;obtain⟨HG,ax,aJ,Z,HBX⟩:=DE hG aw ak aq O;have aV:w.heap.size<wr.heap.size:=LZ O.1;clear hG aw ak aq;by_cases bl:k<x.E.length
   .obtain⟨y,aP⟩:=Ba bl;obtain⟨b,o,ac,U,rfl,hq,c0,c1,c2,c3,K⟩:=(ay.d hb).get aP;have b0:=(bE.o.2 y (yd aP)).2;have HD:Hid (x.E.drop k=y::x.E.drop (k+1)):=CF aP;have AW:∀o,Bw w (wr.alloc o):=λo=>hb.alloc hb.size _;obtain⟨nx',bj,aL⟩:∃n,BO SS y nx=some n/\FP SS (x.E.drop (k+1)) n (k+1+1)=none:=by
     have h:=ax.o;rw[HD.o,OH]at h;cases hg:BO SS y nx with
     |none=>rw[hg]at h;cases h
     |some n=>rw[hg]at h;exact⟨n,rfl,h⟩
    have aj:=vN bj;have aG:=Aa aL;clear aL bj;by_cases N:y.args=[]
    .have ad:nx'=nx:=by
      rw[N]at aj;have:some nx=some nx':=aj;injection this with this;exact this.y
     subst ad;have HX:Hid (GY x f=Dc (FJ x.w f) (x.E.drop (k+1)) (x.v.length+1+(k+1))):=show GY x f=_ from by
      rw[HG.o,HD.o,Gw,show FJ x.w f y=true by simp[FJ,N]];rfl
     have aR:y.args.length=0:=by simp[N]
     rw[aR]at c3;clear N aj aR O;go_wp2;go_roundw
     case rel=>exact⟨k+1,nx',qd,qm,HX.o,aG.o,aJ.o,Z.o.d Aj,HBX.o.d Aj,AW _⟩
     case measure=>simp[intOf];omega
    obtain⟨xl,aE,bn,bO⟩:=mU N aj;have bH:=jz bk.o aj;obtain⟨H,ab⟩:∃H,y.args.length=H+1:=⟨y.args.length-1,by have:=List.length_pos_iff.2 N;omega⟩
    have ar:y.args[H]?=some (xl:Int):=by
     rw[WN,ab,KT]at aE;exact aE
    obtain⟨x0,s0,aZ,bg,aM⟩:∃(x0:Nat)(s0:Sp),y.args[0]?=some (x0:Int)/\SS[x0]?=some s0/\s0.1=nx:=by
     cases hy:y.args with
     |nil=>exact absurd hy N
     |cons v r=>
      rw[hy]at aj;obtain⟨x0,s0,rfl,h1,h2,_⟩:=XC aj;exact⟨x0,s0,qe,h1,h2⟩
    have bp:Hid (FJ x.w f y=(x.w.take (xl+1)).all (D_ f)):=zmu aE;obtain⟨ba,oa,ea,_,g0⟩:=K.get aZ;subst ea;obtain⟨bX,b6,bD,_,gl⟩:=K.get ar;cases bD;have bL:=bC.o;rw[ab]at c3;have z0:(0:Int)<(H:Int)+1:=qd;have z1:¬(H:Int)+1=0:=qd;have z2:(0:Int)<((H+1:Nat):Int):=qd;have z3:(((H+1:Nat):Int)==0)=false:=by simp;omega
    have z4:(((H:Int)+1)==0)=false:=by simp;omega
    have bo:=λo=>zab (E6 o) g0;have bz:=λo=>zab (E6 o) O.2.2.2.1;have bd:=Aa (λo=>(R.d (AW o)));clear O N aj aE hq;simp only[KJ]at g0 bo;go_wp2;obtain⟨bS,bG⟩:=Ah (K) gl;clear z1 z3 z4 gl aZ ar g0 c0 c1 c2 c3 K;have hz:=λn=>Tv s B x.w SS x0 s0 ((wr.alloc (.cells #[.int .i64 y.u,.int .i64 y.k,.string y.z,.slice (some ⟨ba,oa,none⟩) (H+1) U] 227)).drewN n) ((bd.o _).d (Fk An)) bk.o bg;have HZ:=Aa hz;clear hz
    go_quiet (first|(go_at_call 236;refine Y3 (HZ.o _)))
    rw[aM];clear bo bz bd aM bg HZ z0 z2;go_wp2;obtain⟨wa,rfl⟩:∃u,u=wr:=⟨wr,rfl⟩
    go_loopw [11] (λkv a9=>∃(j:Nat),nx<=j/\j<=xl+1/\kv=.int .i64 (j:Int)/\(x.w.take j).all (D_ f)=true/\a9.cell? ⟨wa.heap.size,3,none⟩=some (.slice (some ⟨ba,oa,none⟩) (H+1) U)/\Bw wa a9) (λkv _=>xl+1-(intOf kv).toNat)
    case atStart=>exact⟨nx,yu _,qd,rfl,aJ.o,ql,Fk Aj⟩
    case round=>
     obtain⟨j,bV,bY,rfl,ak,aK,af⟩:=hrel;have aA:=Aa ak;clear ak;have M:Bw w wr:=hb.thn af;have aX:=HBX.o.d af;have bU:=zab af bG.o;have bM:IntKind.i64.wrap ((H:Int)+1-1)=(H:Int):=by rw[show(H:Int)+1-1=(H:Int) by omega,Yg];omega
     have bR:IntKind.i64.wrap (((H+1:Nat):Int)-1)=(H:Int):=by rw[show((H+1:Nat):Int)-1=(H:Int) by omega,Yg];omega
     have bT:IntKind.i64.wrap (H:Int)=(H:Int):=by rw[Yg];omega
     have y0:(0:Int)<=(H:Int):=qd;have y1:(H:Int)<((H+1:Nat):Int):=qd;have y2:(H:Int)<(H:Int)+1:=qd;by_cases aS:j<=xl
     .obtain⟨e,aB⟩:∃e,x.w[j]?=some e:=⟨x.w[j]'(by omega),qe⟩
      obtain⟨be,oe,ee,b5,e0,e1,e2,e3,e4,e5,e6,e7⟩:=(R.d M).get aB;subst ee;obtain⟨r0,r1,r2,r3,r4⟩:=aX;have v0:(0:Int)<=(j:Int):=qd;have v1:(j:Int)<(x.w.length:Int):=qd;have v2:(j:Int)<=(xl:Int):=qd;have hsz:=af.size;have bW:=λo=>zab (E6 o) r2;clear r0 r1 r2 r4;by_cases ek:e.u=1
      .rw[ek]at e0;have hI:=Aa (λw' h=>Vv e.A a c f w' (q:=none) h qd);cases hm:Bu e.A f
       all_goals
        rw[hm]at hI;go_wp2_with (go_at_call 106;refine(hI.o _ ((Z.o.d af).d Aj)).j ?_;rintro e' w1 ⟨rfl,rfl⟩)
       .have HX:Hid (AY x=some (x.v.length+1+k)):=show AY x=_ from by
         rw[HN.o,HG.o,HD.o,Gw,bp.o,zin aB qd (show D_ f e=false by simp[D_,ek,hm])];rfl
        go_ret;exact⟨EB (by rw[HX.o];simp[IC];omega),M.alloc M.size _⟩
       have HJ:Hid ((x.w.take (j+1)).all (D_ f)=true):=show(x.w.take (j+1)).all (D_ f)=true from by rw[kw aB,aA.o];simp[D_,hm]
       exact nX
      have HJ:Hid ((x.w.take (j+1)).all (D_ f)=true):=show(x.w.take (j+1)).all (D_ f)=true from by rw[kw aB,aA.o];simp[D_,ek]
      go_wp2;exact nX
     have a6:j=xl+1:=qd;have v2:¬(j:Int)<=(xl:Int):=qd;have HX:Hid (GY x f=Dc (FJ x.w f) (x.E.drop (k+1)) (x.v.length+1+(k+1))):=show GY x f=_ from by
      rw[HG.o,HD.o,Gw,bp.o,<-a6,aA.o];rfl
     clear aX;go_wp2;go_roundw
     case rel=>exact⟨k+1,nx',qd,qm,HX.o,aG.o,by rw[bn,<-a6];exact aA.o,Z.o.d af,HBX.o.d af,M⟩
     case measure=>simp[intOf];omega
   exact oN
end
end Go.Proofs.YtikojfajahnhgaaGreat
