import Derived.Test.YtikojfajahnhgaaGreatKas
import Derived.Test.YtikojfajahnhgaaGreatKai
set_option linter.all false
set_option maxHeartbeats 8000000
set_option maxRecDepth 100000
namespace Go.Proofs.YtikojfajahnhgaaGreat
attribute [local simp] At I6 Pn mzI
attribute [local go_sem] At I6 Pn
open Go.RowKit Go.Proofs.Tryz
variable{P:Prop}
section
attribute [local go_sem ↓] wp_at_zero wp_at_succ
def zj5{es S}(h:AY es S){i:Nat}{s}(a:S[i]?=some s):s.1<=es.length:=by
 have:=h.bn i s a;have b:i<S.length:=(yf.1 a).1;have:=h.1;omega
def zjM{w:World}{b g o i x}(h:b≠g):(w.setCell ⟨g,i,none⟩ x).cell? ⟨b,o,none⟩=w.cell? ⟨b,o,none⟩:=by
 unfold World.cell?;rw[Yb _ _ _ _ h]
def JX{S x r nx}:DH S (x::r) nx=if decide (0<=x)&&(decide (x<(S.length:Int))&&decide ((S[x.toNat]?.getD (0,0)).1=nx)) then DH S r (x.toNat+1) else none:=rfl
def Ij(h:P:=by
 go_enter func235,ntmps235;go_wp2_with (go_at_call 265;refine(Ln y.ak _ hcl).ac ?_;rintro e w' ⟨rfl,rfl⟩)
 all_goals go_ret
 all_goals exact⟨AE (by rw[G.o,O.o];rfl),Y _ _,λnx' h=>(by rw[G.o,O.o]at h;cases h),FZ _ _⟩
 ):=h
def zkV(x:Ru)(l d b a j g y f i pb nx S w)(hcl:y.ak.size<=maxLen)(H:y.args.length<=1048576)(E:w.frozen? ⟨pb,0,none⟩=false)(r:pb<w.heap.size)(c:(EW y&&decide (y.args.length<=6))=false) :
  Ca 235 #[.agg #[.string x.name,I6 x.aH,.slice l x.af.length d,.slice b x.exprs.length a,.slice j x.ao.length g],.agg #[I6 y.kind,I6 y.k,.string y.ak,.slice f y.args.length i],Pn pb] w λe w'=>
   e=.returned (.bool (BW S y nx).isSome)/\Below pb w w'/\(∀nx',BW S y nx=some nx'->nx'<=60/\At w' pb 0 (I6 (nx':Int)))/\w'.frozen? ⟨pb,0,none⟩=false:=by
 have Y:∀o o',Below pb w ((w.alloc o).alloc o'):=λo o'=>(Aj.alloc qd _).alloc qg _;have FZ:∀o o',((w.alloc o).alloc o').frozen? ⟨pb,0,none⟩=false:=λo o'=>by rw[(Ah (LC o o')).2 pb 0 r];exact E
 obtain⟨G⟩:Nonempty (Hid (BW S y nx=if EW y&&decide (y.args.length<=6) then DH S y.args nx else none)):=⟨rfl⟩
 have O:Hid ((EW y&&decide (y.args.length<=6))=false):=c;by_cases J:6<y.args.length
 .have C:(6:Int)<(y.args.length:Int):=qd;by_cases u:y.kind<1
  .exact Ij
  by_cases t:4<y.kind;rotate_left;rotate_left
  all_goals
   go_enter func235,ntmps235;go_wp2_with (go_at_call 265;refine(Ln y.ak _ hcl).ac ?_;rintro e w' ⟨rfl,rfl⟩)
   all_goals go_ret
   all_goals exact⟨AE (by rw[G.o,O.o];rfl),Y _ _,λnx' h=>(by rw[G.o,O.o]at h;cases h),FZ _ _⟩
 have C:¬(6:Int)<(y.args.length:Int):=qd;by_cases u:y.kind=1
 .cases v:DN y.ak
  .exact Ij
  by_cases D:y.k=0
  .exfalso;simp[EW,u,v,D]at c;omega
  exact Ij
 by_cases B:y.kind=2
 .by_cases A:0<y.args.length
  .have p:(0:Int)<(y.args.length:Int):=qd;exact Ij
  have p:¬(0:Int)<(y.args.length:Int):=qd;cases m:y.ak.toList.isEmpty
  .exact Ij
  by_cases s:y.k < -1000000
  .exact Ij
  by_cases z:1000000<y.k
  .exact Ij
  exfalso;have q:y.args=[]:=YR qd;have n:y.ak.toList=[]:=by simpa using m
  simp[EW,B,BT,n,q,OY]at c;omega
 by_cases I:y.kind=3
 .cases m:y.ak.toList.isEmpty
  .exact Ij
  by_cases s:y.k < -1000000
  .exact Ij
  by_cases z:1000000<y.k
  .exact Ij
  exfalso;have n:y.ak.toList=[]:=by simpa using m
  simp[EW,I,BT,n,OY]at c;omega
 by_cases t:y.kind=4
 .by_cases A:0<y.args.length
  .have p:(0:Int)<(y.args.length:Int):=qd;exact Ij
  have p:¬(0:Int)<(y.args.length:Int):=qd;cases m:y.ak.toList.isEmpty
  .exact Ij
  by_cases s:y.k=0
  .exfalso;have q:y.args=[]:=YR qd;have n:y.ak.toList=[]:=by simpa using m
   simp[EW,t,BT,n,q,s]at c
  exact Ij
 by_cases K:y.kind<1;rotate_left
 focus
  have L:4<y.kind:=qd
 rotate_left
 all_goals
  go_enter func235,ntmps235;go_wp2_with (go_at_call 265;refine(Ln y.ak _ hcl).ac ?_;rintro e w' ⟨rfl,rfl⟩)
  all_goals go_ret
  all_goals exact⟨AE (by rw[G.o,O.o];rfl),Y _ _,λnx' h=>(by rw[G.o,O.o]at h;cases h),FZ _ _⟩
def XJ(h:P:=by go_wp2;go_ret;exact⟨AE (by rw[HN.o];rfl),Fo O,λnx' h=>(by rw[HN.o]at h;cases h),Y⟩):=h
def pY(h:P:=by
 have B0:∀o o',Below pb w ((w.alloc o).alloc o'):=λo o'=>(Aj.alloc (by omega) _).alloc (by simp;omega) _;have FZ:∀o o',((w.alloc o).alloc o').frozen? ⟨pb,0,none⟩=false:=λo o'=>by rw[(Ah (LC o o')).2 pb 0 hpw];exact hf
 obtain⟨G⟩:Nonempty (Hid (BW S y nx=if EW y&&decide (y.args.length<=6) then DH S y.args nx else none)):=⟨rfl⟩
 have af:(EW y&&decide (y.args.length<=6))=true:=hok;have HF:Hid ((EW y&&decide (y.args.length<=6))=true):=af;simp only[yk,decide_eq_true_eq]at af;obtain⟨_,hn⟩:=af;have av:¬(6:Int)<(y.args.length:Int):=by omega
 obtain⟨HV⟩:Nonempty (Hid (BP q w0 a_exprs x.exprs/\Bf q w0 a_args y.args)):=⟨⟨h_exprs,h_args⟩⟩
 clear hok;go_enter func235,ntmps235
 first
  | (have _:=tP
     go_wp2_with (go_at_call 265;refine(Ln y.ak _ hcl).ac ?_;rintro e w' ⟨rfl,rfl⟩))
  |(go_wp2_with (go_at_call 265;refine(Ln y.ak _ _hcl).ac ?_;rintro e w' ⟨rfl,rfl⟩))
 go_loopw [90] (λi wr=>∃(k nk:Nat),k<=y.args.length/\i=.int .i64 k/\nk<=60/\DH S y.args nx=DH S (y.args.drop k) nk/\wr.cell? ⟨pb,0,none⟩=some (.int .i64 (nk:Int))/\wr.frozen? ⟨pb,0,none⟩=false/\wr.cell? ⟨w.heap.size,3,none⟩=some (.slice a_exprs x.exprs.length c_exprs)/\Below pb w wr) (mz y.args.length)
 case atStart=>exact⟨0,nx,by omega,rfl,hnx,rfl,by rw[(Ah Ax).1 pb 0 hpw];exact hp,FZ _ _,by simp[go_sem],B0 _ _⟩
 case round=>
  obtain⟨k,nk,hk,rfl,ar,hG,ah,Y,am,O⟩:=hrel;have HG:Hid (DH S y.args nx=DH S (y.args.drop k) nk):=hG;clear hG;have aw:pb<wr.heap.size:=yh hpw O.size;have hB:Bw w0 wr:=hb0.j (O.ac hpb);by_cases aj:k<y.args.length
  .obtain⟨v,ai⟩:=AJ aj;have HA:=HV.o.2.J hB;have HE:=HV.o.1.J hB;obtain⟨b,o,ea,hq,c0⟩:=HA.get ai;subst ea;have HD:Hid (y.args.drop k=v::y.args.drop (k+1)):=Ck ai;have z0:(0:Int)<=(k:Int):=by omega
   have z1:(k:Int)<(y.args.length:Int):=by omega
   have B1:Bw wr wr.drew:=Aj.drew;by_cases v0:v<0
   .have HN:Hid (BW S y nx=none):=show BW S y nx=none from by
     rw[G.o,HF.o,if_pos rfl,HG.o,HD.o,JX,decide_eq_false (by omega)];rfl
    go_wp2
    go_quiet (fail)
    exact XJ
   by_cases v1:(x.exprs.length:Int)<=v
   .have HN:Hid (BW S y nx=none):=show BW S y nx=none from by
     rw[G.o,HF.o,if_pos rfl,HG.o,HD.o,JX,decide_eq_false (p:=v<(S.length:Int)) (by omega)];simp
    have d0:decide (v<0)=false:=decide_eq_false v0;go_wp2
    go_quiet (fail)
    exact XJ
   obtain⟨vn,rfl⟩:=Ym (show 0<=v by omega);have au:vn<S.length:=by omega
   obtain⟨s,hs⟩:∃s,S[vn]?=some s:=⟨S[vn],by simp⟩
   have hsl:=zj5 hS hs;cases e3:((s.1:Int) != (nk:Int))
   .have HN:Hid (BW S y nx=DH S (y.args.drop (k+1)) (vn+1)):=show BW S y nx=_ from by
     have:s.1=nk:=by(simp at e3;omega)
     rw[G.o,HF.o,if_pos rfl,HG.o,HD.o,JX,decide_eq_true (by omega),decide_eq_true (by omega),YK,hs,YY,decide_eq_true this];rfl
    have HM:Hid (DH S y.args nx=DH S (y.args.drop (k+1)) (vn+1)):=show DH S y.args nx=_ from by
     have:=HN.o;rw[G.o,HF.o,if_pos rfl]at this;exact this
    have d0:decide ((vn:Int)<0)=false:=decide_eq_false (by omega);have d1:decide ((x.exprs.length:Int)<=(vn:Int))=false:=decide_eq_false (by omega);have d2:decide (x.exprs.length<=vn)=false:=decide_eq_false (by omega);go_wp2
    go_quiet (first|(go_at_call 236;refine Wf (SI a_exprs c_exprs x.exprs S vn s _ (HE.J ?_) hS hs);exact Fo Aj))
    go_wp2;go_roundw
    case rel=>
     refine⟨k+1,vn+1,by omega,by go_num,by omega,HM.o,?_,?_,?_,?_⟩
     .have aq:(wr.drewN nq).cell? ⟨pb,0,none⟩=some (.int .i64 (nk:Int)):=ah;simp[go_sem,aq]
     .have ao:(wr.drewN nq).frozen? ⟨pb,0,none⟩=false:=Y;simp[go_sem,ao]
     .have ak:(wr.drewN nq).cell? ⟨w.heap.size,3,none⟩=some (.slice a_exprs x.exprs.length c_exprs):=am;have hne:w.heap.size≠pb:=by omega
      rw[zjM hne];exact ak
     .exact(Fo O).setCell AA _
    case measure=>(simp;omega)
   have HN:Hid (BW S y nx=none):=show BW S y nx=none from by
    have:¬s.1=nk:=by(simp at e3;omega)
    rw[G.o,HF.o,if_pos rfl,HG.o,HD.o,JX,YK,hs,YY,decide_eq_false this];simp
   have d0:decide ((vn:Int)<0)=false:=decide_eq_false (by omega);have d1:decide ((x.exprs.length:Int)<=(vn:Int))=false:=decide_eq_false (by omega);have d2:decide (x.exprs.length<=vn)=false:=decide_eq_false (by omega);go_wp2
   go_quiet (first|(go_at_call 236;refine Wf (SI a_exprs c_exprs x.exprs S vn s _ (HE.J ?_) hS hs);exact Fo Aj))
   exact XJ
  go_wp2;go_ret;have e0:y.args.drop k=[]:=yD (by omega);have HN:BW S y nx=some nk:=by
   rw[G.o,HF.o,if_pos rfl,HG.o,e0];rfl
  exact⟨AE (by rw[HN];rfl),O,λnx' h=>(by rw[HN]at h;injection h with h;subst h;exact⟨ar,ah⟩),Y⟩
 ):=h
def zjH(x:Ru)(f c a_exprs c_exprs d g y a_args a)(pb nx:Nat)(S){q}(w0 w)(hb0:Bw w0 w)(h_exprs:BP q w0 a_exprs x.exprs)(h_args:Bf q w0 a_args y.args)(hS:AY x.exprs S)(m:S.length=x.exprs.length)(O:x.exprs.length<=60)(hcl:y.ak.size<=maxLen)(l:y.args.length<=1048576)(hp:w.cell? ⟨pb,0,none⟩=some (.int .i64 (nx:Int)))(hf:w.frozen? ⟨pb,0,none⟩=false)(hpb:w0.heap.size<=pb)(hpw:pb<w.heap.size)(hnx:nx<=60)(hok:(EW y&&decide (y.args.length<=6))=true)(r:y.kind=1)(n:DN y.ak=true)(Y:y.k=0) :
  Ca 235 #[.agg #[.string x.name,.int .i64 x.aH,.slice f x.af.length c,.slice a_exprs x.exprs.length c_exprs,.slice d x.ao.length g],.agg #[.int .i64 y.kind,.int .i64 y.k,.string y.ak,.slice a_args y.args.length a],.pointer (some ⟨pb,0,none⟩)] w λe w'=>
   e=.returned (.bool (BW S y nx).isSome)/\Below pb w w'/\(∀nx',BW S y nx=some nx'->nx'<=60/\w'.cell? ⟨pb,0,none⟩=some (.int .i64 (nx':Int)))/\w'.frozen? ⟨pb,0,none⟩=false:=by
 have tP:=trivial;exact pY
def pX(h:P:=by
 have B0:∀o o',Below pb w ((w.alloc o).alloc o'):=λo o'=>(Aj.alloc (by omega) _).alloc (by simp;omega) _;have FZ:∀o o',((w.alloc o).alloc o').frozen? ⟨pb,0,none⟩=false:=λo o'=>by rw[(Ah (LC o o')).2 pb 0 hpw];exact hf
 obtain⟨G⟩:Nonempty (Hid (BW S y nx=if EW y&&decide (y.args.length<=6) then DH S y.args nx else none)):=⟨rfl⟩
 have O:(EW y&&decide (y.args.length<=6))=true:=hok;have HF:Hid ((EW y&&decide (y.args.length<=6))=true):=O;simp only[yk,decide_eq_true_eq]at O;obtain⟨_,hn⟩:=O;have ak:¬(6:Int)<(y.args.length:Int):=by omega
 obtain⟨HV⟩:Nonempty (Hid (BP q w0 a_exprs x.exprs/\Bf q w0 a_args y.args)):=⟨⟨h_exprs,h_args⟩⟩
 clear hok;go_enter func235,ntmps235;go_wp2_with (go_at_call 265;refine(Ln y.ak _ _hcl).ac ?_;rintro e w' ⟨rfl,rfl⟩)
 go_loopw [90] (λi wr=>∃(k nk:Nat),k<=y.args.length/\i=.int .i64 k/\nk<=60/\DH S y.args nx=DH S (y.args.drop k) nk/\wr.cell? ⟨pb,0,none⟩=some (.int .i64 (nk:Int))/\wr.frozen? ⟨pb,0,none⟩=false/\wr.cell? ⟨w.heap.size,3,none⟩=some (.slice a_exprs x.exprs.length c_exprs)/\Below pb w wr) (λi _=>y.args.length-(intOf i).toNat)
 case atStart=>exact⟨0,nx,by omega,rfl,hnx,rfl,by rw[(Ah Ax).1 pb 0 hpw];exact hp,FZ _ _,by simp[go_sem],B0 _ _⟩
 case round=>
  obtain⟨k,nk,hk,rfl,ai,hG,af,ah,am,Y⟩:=hrel;have HG:Hid (DH S y.args nx=DH S (y.args.drop k) nk):=hG;clear hG;have ao:pb<wr.heap.size:=yh hpw Y.size;have hB:Bw w0 wr:=hb0.j (Y.ac hpb);have aj:¬k<y.args.length:=by omega
  go_wp2;go_ret;have e0:y.args.drop k=[]:=yD (by omega);have HN:BW S y nx=some nk:=by
   rw[G.o,HF.o,if_pos rfl,HG.o,e0];rfl
  exact⟨AE (by rw[HN];rfl),Y,λnx' h=>(by rw[HN]at h;injection h with h;subst h;exact⟨ai,af⟩),ah⟩
 ):=h
def zjU(x:Ru)(d b a_exprs c_exprs c f y a_args a)(pb nx:Nat)(S){q}(w0 w)(hb0:Bw w0 w)(h_exprs:BP q w0 a_exprs x.exprs)(h_args:Bf q w0 a_args y.args)(_hS:AY x.exprs S)(_hSl:S.length=x.exprs.length)(_hle:x.exprs.length<=60)(_hcl:y.ak.size<=maxLen)(g:y.args.length<=1048576)(hp:w.cell? ⟨pb,0,none⟩=some (.int .i64 (nx:Int)))(hf:w.frozen? ⟨pb,0,none⟩=false)(hpb:w0.heap.size<=pb)(hpw:pb<w.heap.size)(hnx:nx<=60)(hok:(EW y&&decide (y.args.length<=6))=true)(p:y.kind=2)(m:y.ak.toList.isEmpty=true)(n:¬y.k < -1000000)(l:¬1000000<y.k)(O:¬(0:Int)<(y.args.length:Int)) :
  Ca 235 #[.agg #[.string x.name,.int .i64 x.aH,.slice d x.af.length b,.slice a_exprs x.exprs.length c_exprs,.slice c x.ao.length f],.agg #[.int .i64 y.kind,.int .i64 y.k,.string y.ak,.slice a_args y.args.length a],.pointer (some ⟨pb,0,none⟩)] w λe w'=>
   e=.returned (.bool (BW S y nx).isSome)/\Below pb w w'/\(∀nx',BW S y nx=some nx'->nx'<=60/\w'.cell? ⟨pb,0,none⟩=some (.int .i64 (nx':Int)))/\w'.frozen? ⟨pb,0,none⟩=false:=by
 have r:=trivial;exact pX
def zkE(x:Ru)(d b a_exprs c_exprs c f y a_args a)(pb nx:Nat)(S){q}(w0 w)(hb0:Bw w0 w)(h_exprs:BP q w0 a_exprs x.exprs)(h_args:Bf q w0 a_args y.args)(_hS:AY x.exprs S)(_hSl:S.length=x.exprs.length)(_hle:x.exprs.length<=60)(_hcl:y.ak.size<=maxLen)(g:y.args.length<=1048576)(hp:w.cell? ⟨pb,0,none⟩=some (.int .i64 (nx:Int)))(hf:w.frozen? ⟨pb,0,none⟩=false)(hpb:w0.heap.size<=pb)(hpw:pb<w.heap.size)(hnx:nx<=60)(hok:(EW y&&decide (y.args.length<=6))=true)(l:y.kind=4)(m:y.ak.toList.isEmpty=true)(O:y.k=0)(Y:¬(0:Int)<(y.args.length:Int)) :
  Ca 235 #[.agg #[.string x.name,.int .i64 x.aH,.slice d x.af.length b,.slice a_exprs x.exprs.length c_exprs,.slice c x.ao.length f],.agg #[.int .i64 y.kind,.int .i64 y.k,.string y.ak,.slice a_args y.args.length a],.pointer (some ⟨pb,0,none⟩)] w λe w'=>
   e=.returned (.bool (BW S y nx).isSome)/\Below pb w w'/\(∀nx',BW S y nx=some nx'->nx'<=60/\w'.cell? ⟨pb,0,none⟩=some (.int .i64 (nx':Int)))/\w'.frozen? ⟨pb,0,none⟩=false:=by
 exact pX
def zkv(x:Ru)(f c a_exprs c_exprs d g y a_args a)(pb nx:Nat)(S){q}(w0 w)(hb0:Bw w0 w)(h_exprs:BP q w0 a_exprs x.exprs)(h_args:Bf q w0 a_args y.args)(hS:AY x.exprs S)(m:S.length=x.exprs.length)(O:x.exprs.length<=60)(_hcl:y.ak.size<=maxLen)(l:y.args.length<=1048576)(hp:w.cell? ⟨pb,0,none⟩=some (.int .i64 (nx:Int)))(hf:w.frozen? ⟨pb,0,none⟩=false)(hpb:w0.heap.size<=pb)(hpw:pb<w.heap.size)(hnx:nx<=60)(hok:(EW y&&decide (y.args.length<=6))=true)(u:y.kind=3)(r:y.ak.toList.isEmpty=true)(t:¬y.k < -1000000)(n:¬1000000<y.k) :
  Ca 235 #[.agg #[.string x.name,.int .i64 x.aH,.slice f x.af.length c,.slice a_exprs x.exprs.length c_exprs,.slice d x.ao.length g],.agg #[.int .i64 y.kind,.int .i64 y.k,.string y.ak,.slice a_args y.args.length a],.pointer (some ⟨pb,0,none⟩)] w λe w'=>
   e=.returned (.bool (BW S y nx).isSome)/\Below pb w w'/\(∀nx',BW S y nx=some nx'->nx'<=60/\w'.cell? ⟨pb,0,none⟩=some (.int .i64 (nx':Int)))/\w'.frozen? ⟨pb,0,none⟩=false:=by
 exact pY
def zkd(x:Ru)(j d a b i f y c g)(pb nx:Nat)(S){q}(w0 w)(u:Bw w0 w)(l:BP q w0 a x.exprs)(m:Bf q w0 c y.args)(hS:AY x.exprs S)(v:S.length=x.exprs.length)(Y:x.exprs.length<=60)(p:y.ak.size<=maxLen)(r:y.args.length<=1048576)(B:At w pb 0 (I6 (nx:Int)))(A:w.frozen? ⟨pb,0,none⟩=false)(s:w0.heap.size<=pb)(o:pb<w.heap.size)(t:nx<=60) :
  Ca 235 #[.agg #[.string x.name,I6 x.aH,.slice j x.af.length d,.slice a x.exprs.length b,.slice i x.ao.length f],.agg #[I6 y.kind,I6 y.k,.string y.ak,.slice c y.args.length g],Pn pb] w λe w'=>
   e=.returned (.bool (BW S y nx).isSome)/\Below pb w w'/\(∀nx',BW S y nx=some nx'->nx'<=60/\At w' pb 0 (I6 (nx':Int)))/\w'.frozen? ⟨pb,0,none⟩=false:=by
 cases n:(EW y&&decide (y.args.length<=6))
 .exact zkV x j d a b i f y c g pb nx S w p r A o n
 have H:=n;simp only[yk,decide_eq_true_eq]at H;obtain⟨O,_⟩:=H;have K:y.kind=1/\DN y.ak=true/\y.k=0∨y.kind=2/\y.ak.toList.isEmpty=true/\¬y.k < -1000000/\¬1000000<y.k/\¬(0:Int)<(y.args.length:Int)∨y.kind=3/\y.ak.toList.isEmpty=true/\¬y.k < -1000000/\¬1000000<y.k∨y.kind=4/\y.ak.toList.isEmpty=true/\y.k=0/\¬(0:Int)<(y.args.length:Int):=by
  unfold EW at O;split at O
  .rename_i h;simp at h O;exact .inl ⟨h,O.1,O.2⟩
  split at O
  .rename_i h;simp[BT,OY]at h O;exact .inr (.inl ⟨h,by simp[O.1.1],qd,qd,by simp[O.2]⟩)
  split at O
  .rename_i h;simp[BT,OY]at h O;exact .inr (.inr (.inl ⟨h,by simp[O.1],qd,qd⟩))
  split at O
  .rename_i h;simp[BT]at h O;exact .inr (.inr (.inr ⟨h,by simp[O.1],O.2.1,by simp[O.2.2]⟩))
  cases O
 rcases K with⟨M,I,E⟩|⟨L,z,G,C,D⟩|⟨N,z,G,C⟩|⟨J,z,E,D⟩
 .exact zjH x j d a b i f y c g pb nx S w0 w u l m hS v Y p r B A s o t n M I E
 .exact zjU x j d a b i f y c g pb nx S w0 w u l m hS v Y p r B A s o t n L z G C D
 .exact zkv x j d a b i f y c g pb nx S w0 w u l m hS v Y p r B A s o t n N z G C
 exact zkE x j d a b i f y c g pb nx S w0 w u l m hS v Y p r B A s o t n J z E D
def Ql(x:Ru)(a f c d j g){q}(w)(O:CH q w a x.af)(hl:x.af.length<=1048576) :
  Ca 83 #[.agg #[.string x.name,I6 x.aH,.slice a x.af.length f,.slice c x.exprs.length d,.slice j x.ao.length g]] w λe w'=>
   e=.returned (I6 (Ad x.af:Int))/\Bw w w':=by
 go_enter func83,ntmps83;exact oV
def GA{α}(f)(x:α)(r k):Di f (x::r) k=if f x then Di f r (k+1) else some k:=rfl
def DE:Option Nat->Int
 |none=>0
 |some i=>(i:Int)
def ow(h:P:=by
 have HB:Hid (Cw x=some (x.af.length+1+k)):=GD.o.2 (by
  rcases O with h|h<;>simp[Fa,h]<;>omega)
 rcases O with h|h
 all_goals
  go_wp2;go_ret;exact⟨E_ (by rw[HB.o];simp[DE];omega),B1 _⟩
 ):=h
def zlo(x c d n m f g){q}(w)(af:CH q w c x.af)(I:C9 q w f x.ao)(hl:x.af.length<=1048576)(av:x.ao.length<=1048576) :
  Ca 146 #[.agg #[.string x.name,I6 x.aH,.slice c x.af.length d,.slice n x.exprs.length m,.slice f x.ao.length g]] w λe w'=>
   e=.returned (I6 (DE (Cw x)))/\Bw w w':=by
 have au:Ad x.af<=x.af.length:=KD;go_enter func146,ntmps146;go_wp2_with (go_at_call 83;refine(Ql x c d n m f g _ (af.J Af) hl).an λs Y=>?_;have E:At s w.heap.size 2 (.slice c x.af.length d):=zab Y qk;have K:At s w.heap.size 4 (.slice f x.ao.length g):=zab Y qk);have L:Bw w s:=Af.aj Y;have u:w.heap.size<s.heap.size:=by have:=Y.size;simp at this;omega
 clear Y K
 go_loopw [12] (λi wr=>∃(k:Nat),k<=x.ao.length/\i=I6 k/\Cw x=Di (Fa (Ad x.af)) (x.ao.drop k) (x.af.length+1+k)/\At wr w.heap.size 2 (.slice c x.af.length d)/\w.heap.size<wr.heap.size/\Bw w wr) (mz x.ao.length)
 case atStart=>exact⟨0,qd,rfl,rfl,E,u,L⟩
 case round=>
  obtain⟨k,W,rfl,C,N,R,hb⟩:=hrel;have HG:Hid (Cw x=Di (Fa (Ad x.af)) (x.ao.drop k) (x.af.length+1+k)):=C;clear C;by_cases G:k<x.ao.length
  .obtain⟨y,D⟩:=AJ G;obtain⟨b,o,r,t,rfl,T,c0,Z,c2,U,p⟩:=(I.J hb).get D;have A:Hid (x.ao.drop k=y::x.ao.drop (k+1)):=Ck D;have B1:∀o,Bw w (wr.alloc o):=λo=>hb.alloc hb.size _;have B:∀o,At (wr.alloc o) w.heap.size 2 (.slice c x.af.length d):=λo=>by
    have:Bw wr (wr.alloc o):=Af;exact zab this N
   have v:∀o,w.heap.size<(wr.alloc o).heap.size:=λo=>by simp;omega
   have good:Fa (Ad x.af) y=true->Cw x=Di (Fa (Ad x.af)) (x.ao.drop (k+1)) (x.af.length+1+(k+1)):=λh=>by
    rw[HG.o,A.o,GA,h];rfl
   have z:Fa (Ad x.af) y=false->Cw x=some (x.af.length+1+k):=λh=>by
    rw[HG.o,A.o,GA,h];rfl
   obtain⟨GD⟩:Nonempty (Hid ((Fa (Ad x.af) y=true->Cw x=Di (Fa (Ad x.af)) (x.ao.drop (k+1)) (x.af.length+1+(k+1)))/\(Fa (Ad x.af) y=false->Cw x=some (x.af.length+1+k)))):=⟨⟨good,z⟩⟩
   clear good z;by_cases O:y.kind=2∨y.kind=3
   .by_cases r0:y.k<1
    .exact ow
    by_cases r1:(Ad x.af:Int)<y.k
    .exact ow
    have HB:Hid (Cw x=Di (Fa (Ad x.af)) (x.ao.drop (k+1)) (x.af.length+1+(k+1))):=GD.o.1 (by
     rcases O with h|h<;>simp[Fa,h]<;>omega)
    rcases O with h|h
    all_goals
     go_wp2;go_roundw
     case rel=>exact⟨k+1,qd,ql,HB.o,B _,v _,B1 _⟩
     case measure=>(simp;omega)
   have M:(y.kind==2)=false:=by simp;omega
   have H:(y.kind==3)=false:=by simp;omega
   have HB:Hid (Cw x=Di (Fa (Ad x.af)) (x.ao.drop (k+1)) (x.af.length+1+(k+1))):=GD.o.1 (by simp[Fa,M,H]);go_wp2;go_roundw
   case rel=>exact⟨k+1,qd,ql,HB.o,B _,v _,B1 _⟩
   case measure=>(simp;omega)
  exact mw
end
section
open Go.Maps
attribute [local go_sem ↓] wp_at_zero wp_at_succ
def Oc(v:Value):Option (DataW Unit × List MemPlace):=
 match v with
 |.agg a=>if a.size=0 then some (.lit (.bool true),[]) else none
 |_=>none
def zI{v z}(h:Oc v=some z):v=.agg #[]:=by
 unfold Oc at h;split at h
 .rename_i a;split at h
  .rename_i O;rw[Array.eq_empty_of_size_eq_zero O]
  .cases h
 cases h
def QS:Keyed prog 9:=string_keyed underlying9
def DA(known:List ByteArray)(D:DataW Unit):Prop:=∀s:ByteArray,s.size<=maxLen->has D (.string s.data.toList)=BI s known
def DA.start:DA [] (.map []):=λ_ _=>rfl
def v_(s v a):BI s (a++[v])=(BI s a||decide (v=s)):=by
 simp[BI,List.any_append]
def DA.put{a D v}(h:DA a D)(f:IsMap D)(d):DA (a++[v]) (D.put (.string v.data.toList) d):=by
 intro s c;rw[v_];by_cases b:v=s
 .subst b;rw[has_put_same f (k:=.string v.data.toList) trivial d,decide_eq_true rfl,Bool.or_true]
 rw[has_put_other (λe=>b (by injection e with e;exact(Go.WideShapes.bytes_inj e).ai)) d,h s c,decide_eq_false b,Bool.or_false]
abbrev CY(w:World)(b n:Nat)(D:DataW Unit):Prop:=w.ownsMap prog 9 Oc b n D
def ZL(w):(zeroValue 308).run prog w=.ok (.agg #[]) w:=qf
def zh{w b n D a}(h:CY w b n D)(d:DA a D){s}(c:s.size<=maxLen) :
  (Instr.lookup 230 (.map (some b)) (.string s) true).run prog w=.ok (.tuple #[.agg #[],.bool (BI s a)]) w:=by
 obtain⟨v,e,O,hv⟩:=h.look_ok QS (t:=230) underlying230 (ZL w) (show Oc (.agg #[])=some (.lit (.bool true),[]) from rfl) (mY underlying9 c);rw[O,d s c,zI hv]
def vq(b n D a s w)(h:CY w b n D)(d:DA a D)(c:s.size<=maxLen) :
  Ca 142 #[.map (some b),.string s] w λe w'=>e=.returned (.bool (BI s a))/\Bw w w':=by
 have hl:=zh h d c;go_enter func142,ntmps142;go_wp2;go_ret;exact⟨rfl,Af⟩
def UU(b n D a s)(d:DA a D)(c:s.size<=maxLen):Hid (∀w,CY w b n D->Ca 142 #[.map (some b),.string s] w λe w'=>e=.returned (.bool (BI s a))/\Bw w w'):=
 λw h=>vq b n D a s w h d c
def vX(b n D d a c es w){q}(h:CY w b n D)(y:DA d D)(hv:BP q w a es)(hl:es.length<=1048576)(v:∀e∈es,e.var.size<=maxLen) :
  Ca 202 #[.map (some b),.slice a es.length c] w λe w'=>e=.returned (.bool (es.all (Es d)))/\Bw w w':=by
 go_enter func202,ntmps202;go_wp2
 go_loopw [9] (λi wr=>∃(k:Nat),k<=es.length/\i=I6 k/\es.all (Es d)=(es.drop k).all (Es d)/\Bw w wr) (mz es.length)
 case atStart=>exact⟨0,qd,rfl,rfl,Aj⟩
 case round=>
  obtain⟨k,G,rfl,s,hb⟩:=hrel;have HG:Hid (es.all (Es d)=(es.drop k).all (Es d)):=s;clear s;by_cases u:k<es.length
  .obtain⟨e,O⟩:=AJ u;obtain⟨I,o,rfl,A,M,H,T,B,N,C,E,R⟩:=(hv.J hb).get O;have l:Hid (es.drop k=e::es.drop (k+1)):=Ck O;have t:=v e (yd O);have x:=h.lt;have z:Hid (CY wr b n D):=show CY wr b n D from by
    obtain⟨m1,m2,m3,m4⟩:=h;exact⟨m1,m2,(hb.block b x).j m3,m4⟩
   have f:∀o,Bw w (wr.alloc o):=λo=>hb.alloc hb.size _;cases r:(e.kind==1)
   .have g:Hid (Es d e=true):=show Es d e=true from by simp[Es,r]
    go_wp2;go_roundw
    case rel=>exact⟨k+1,qd,ql,by rw[HG.o,l.o,Y3,g.o];rfl,f _⟩
    case measure=>(simp;omega)
   have g:Hid (Es d e=BI e.var d):=show Es d e=_ from by simp[Es,r]
   cases m:BI e.var d
   all_goals
    have p:=UU b n D d e.var y t;rw[m]at p;go_wp2_with (go_at_call 142;refine(p.o _ (z.o.alloc _)).ac ?_;rintro K L ⟨rfl,Y⟩)
   .go_ret;exact⟨AE (by rw[HG.o,l.o,Y3,g.o,m];rfl),(f _).j (Y.ac (f _).size)⟩
   go_roundw
   case rel=>exact⟨k+1,qd,ql,by rw[HG.o,l.o,Y3,g.o,m];rfl,(f _).j (Y.ac (f _).size)⟩
   case measure=>(simp;omega)
  exact Qv
def vk(b n D w)(h:CY w b n D) :
  Ca 252 #[.map (some b)] w λe w'=>e=.returned (.map (some w.heap.size))/\CY w' w.heap.size n D/\Bw w w':=by
 obtain⟨es,a,d,F,c,O⟩:=h;have f:=λw=>run_eql_map_nil_sl (P:=prog) w 230 _ _ (some b) underlying230;go_enter func252,ntmps252;go_wp2;rw[run_callFunc_extern func275 qf qf qf (e:=Extern.MapsClone.clone) qf,run_maps_clone_sl w 230 d];simp only[Result.andThen];rw[Xy];go_wp2;rw[run_typeAssert_map_sl _ 230 _ _ _ _ underlying230];simp only[Result.andThen];rw[Xy];go_wp2;go_ret;exact⟨rfl,⟨es,a,(MapKept.heap_alloc w _).1,F,c,O⟩,(Yw _ w).alloc AA _⟩
def Md(t r a):CL (t::r) a=if Fe t&&!BI t.var a then none else CL r (if t.kind==2 then a++[t.var] else a):=rfl
def TO{w w' b n D}(h:CY w b n D)(d:Bw w w'):CY w' b n D:=by
 have hl:=h.lt;obtain⟨es,a,e,c⟩:=h;exact⟨es,a,(d.block b hl).j e,c⟩
def wY{w w':World}{m b o}(h:w.grownBy w' (some m))(a:b≠m)(hl:b<w.heap.size):w'.cell? ⟨b,o,none⟩=w.cell? ⟨b,o,none⟩:=by
 unfold World.cell?;rw[h.block b hl (by intro e;first|exact a e|(injection e with e;first|exact a e|exact a e.ai))]
def oA(h:P:=by
 unfold Fe BT;by_cases h3:t.kind=3
 .have:t.var.toList.isEmpty=true:=by cases h:t.var.toList.isEmpty<;>simp_all
  simp[this]
 simp[h3]
 ):=h
def pR(h:P:=by
 have aw:=hown0.lt;rw[hneg];go_enter func201,ntmps201
 first
  | (have _:=tP
     go_wp2
     go_loopw [14] (λi wr=>∃(k O:Nat)(here:List ByteArray)(D':DataW Unit),k<=x.aa.length/\i=.int .i64 k/\CL x.aa known=CL (x.aa.drop k) here/\O<=n+k/\CY wr (b) O D'/\DA here D'/\Below (b) w wr) (mz x.aa.length)
     case atStart=>exact⟨0,n,known,D,by omega,rfl,rfl,by omega,hown0.alloc _,hI,Aj.alloc (by omega) _⟩)
  | (have aC:=hb0.size
     go_wp2_with (go_at_call 252;refine(vk b n D _ (hown0.alloc _)).an λw1⟨av,am⟩=>?_;have q2:w1.cell? ⟨w.heap.size,2,none⟩=some (.slice a x.aa.length c):=zab am (by simp[go_sem]));have ao:CY w1 (w.heap.size+1) n D:=by simpa using av
     have aA:Bw w w1:=Af.aj am;clear av am q2 aw hown0
     go_loopw [14] (λi wr=>∃(k O:Nat)(here:List ByteArray)(D':DataW Unit),k<=x.aa.length/\i=.int .i64 k/\CL x.aa known=CL (x.aa.drop k) here/\O<=n+k/\CY wr (w.heap.size+1) O D'/\DA here D'/\Below (w.heap.size) w wr) (mz x.aa.length)
     case atStart=>exact⟨0,n,known,D,by omega,rfl,rfl,by omega,ao,hI,aA⟩)
 case round=>
  obtain⟨k,O,here,D',hk,rfl,hG,aD,hown,Y,hb⟩:=hrel;have HG:=Aa hG;clear hG;have aE:=hown.lt;by_cases az:k<x.aa.length
  .obtain⟨t,aj⟩:=AJ az;obtain⟨b',o,rfl,hq,c0,c1,c2,c3,c4,c5⟩:=(hv.J (hb0.j (hb.ac (by omega)))).get aj;have ak:=(hs.2 t (yd aj)).1;have HD:Hid (x.aa.drop k=t::x.aa.drop (k+1)):=Ck aj
   first
    | (have _:=tP
       have hBa:∀o,Below (b) w (wr.alloc o):=λo=>hb.alloc (by have:=hb.size;omega) _;have ah:∀o,CY (wr.alloc o) (b) O D':=λo=>hown.alloc o)
    | (have hBa:∀ o,Below (w.heap.size) w (wr.alloc o):=λo=>hb.alloc (by have:=hb.size;omega) _
       have ah:∀o,CY (wr.alloc o) (w.heap.size+1) O D':=λo=>hown.alloc o)
   by_cases k2:t.kind=2
   .have HN:Hid (CL x.aa known=CL (x.aa.drop (k+1)) (here++[t.var])):=show CL x.aa known=_ from by rw[HG.o,HD.o,Md];simp[Fe,k2]
    have ax:=Y.put (v:=t.var) hown.isMap (.lit (.bool true));obtain⟨w2,aq,au,af⟩:=(hown.alloc (.cells #[.int .i64 2,.int .i64 t.op,.string t.var,.int .i64 t.val.kind,.int .i64 t.val.num,.string t.val.av] 189)).update QS (t:=230) underlying230 (by unfold maxLen;omega) (mY underlying9 ak) (show Oc (.agg #[])=some (.lit (.bool true),[]) from rfl);obtain⟨ay,HG2⟩:=Ak au af;have d0:w2.cell? ⟨wr.heap.size,0,none⟩=some (.int .i64 2):=by
     rw[wY af (by omega) (by simp)];simp[go_sem]
    have ar:=hBa (.cells #[.int .i64 2,.int .i64 t.op,.string t.var,.int .i64 t.val.kind,.int .i64 t.val.num,.string t.val.av] 189)
    first
     | (have _:=tP
        have hB2:Below (b) w w2:=ar.grown af (by have:=hb.size;simp;omega) (λj hj=>by cases hj;omega))
     |(have hB2:Below (w.heap.size) w w2:=ar.grown af (by have:=hb.size;simp;omega) (λj hj=>by cases hj;omega))
    clear au af ah hBa;rw[k2]at c0;go_wp2;clear aq;go_roundw
    case rel=>exact⟨k+1,O+1,_,_,by omega,by go_num,HN.o,by omega,ay.o,ax,hB2⟩
    case measure=>(simp;omega)
   by_cases k3:t.kind=3/\t.var.toList.isEmpty=false
   .obtain⟨k3,v0⟩:=k3
    first
     | (have _:=tP
        have hH:=UU (b) O D' here t.var Y ak)
     |(have hH:=UU (w.heap.size+1) O D' here t.var Y ak)
    cases hm:BI t.var here
    all_goals
     rw[hm]at hH;go_wp2_with (go_at_call 142;refine(hH.o _ (ah _)).ac ?_;rintro e' w1 ⟨rfl,ai⟩)
    .have HN:Hid (CL x.aa known=none):=show CL x.aa known=none from by rw[HG.o,HD.o,Md];simp[Fe,k3,BT,hm];intro h;simp[h]at v0
     go_ret
     first
      | (have _:=tP
         exact⟨AE (by rw[HN.o];rfl),(hBa _).j (ai.ac (by simp;omega)),λh e=>(by rw[HN.o]at e;cases e)⟩)
      |(exact⟨AE (by rw[HN.o];rfl),(hBa _).j (ai.ac (by simp;omega))⟩)
    have HN:Hid (CL x.aa known=CL (x.aa.drop (k+1)) here):=show CL x.aa known=_ from by rw[HG.o,HD.o,Md];simp[k3,hm]
    go_roundw
    case rel=>exact⟨k+1,O,_,_,by omega,by go_num,HN.o,by omega,TO (ah _) ai,Y,(hBa _).j (ai.ac (by have:=(hBa default).size;have:=hb.size;simp;omega))⟩
    case measure=>(simp;omega)
   have HN:Hid (CL x.aa known=CL (x.aa.drop (k+1)) here):=show CL x.aa known=_ from by
    have ha:Fe t=false:=by
     exact oA
    rw[HG.o,HD.o,Md,ha];simp[k2]
   by_cases h3:t.kind=3
   focus
    have aB:t.var.toList.isEmpty=true:=by cases h:t.var.toList.isEmpty<;>simp_all
   rotate_left;rotate_left
   all_goals
    clear k3;go_wp2;go_roundw
    case rel=>exact⟨k+1,O,_,_,by omega,by go_num,HN.o,by omega,ah _,Y,hBa _⟩
    case measure=>(simp;omega)
  have HN:Hid (CL x.aa known=some here):=show CL x.aa known=_ from by
   exact Qr
  go_wp2;go_ret
  first
   | (have _:=tP
      exact⟨AE (by rw[HN.o];rfl),hb,λh e=>(by rw[HN.o]at e;injection e with e;subst e;exact⟨O,D',by omega,hown,Y⟩)⟩)
   |(exact⟨AE (by rw[HN.o];rfl),hb⟩)
 ):=h
def yU(x:Pt)(a c b n D known){q}(w0 w)(hb0:Bw w0 w)(hv:CJ q w0 a x.aa)(hs:CP Tm.le maxLen x.aa)(hl:x.aa.length<=1048576)(hown0:CY w b n D)(hI:DA known D)(Y:w0.heap.size<=b)(d:n<=1048576)(hneg:x.neg=false) :
  Ca 201 #[.agg #[.bool x.neg,.string x.ak,.slice a x.aa.length c],.map (some b)] w λe w'=>
   e=.returned (.bool (CL x.aa known).isSome)/\Below b w w'/\∀here,CL x.aa known=some here->∃O D',O<=n+x.aa.length/\CY w' b O D'/\DA here D':=by
 have tP:=trivial;exact pR
def wv(x:Pt)(a c b n D known){q}(w0 w)(hb0:Bw w0 w)(hv:CJ q w0 a x.aa)(hs:CP Tm.le maxLen x.aa)(hl:x.aa.length<=1048576)(hown0:CY w b n D)(hI:DA known D)(d:n<=1048576)(hneg:x.neg=true) :
  Ca 201 #[.agg #[.bool x.neg,.string x.ak,.slice a x.aa.length c],.map (some b)] w λe w'=>
   e=.returned (.bool (CL x.aa known).isSome)/\Bw w w':=by
 exact pR
def Ek.aJ{w w' b B x f d a c e g}(h:Ek w b x f d a c e g)(k:Below B w w')(i:b<B):Ek w' b x f d a c e g:=by
 obtain⟨O,n,m,l,o⟩:=h;exact⟨(k.cell (p:=⟨b,0,none⟩) i).j O,(k.cell (p:=⟨b,1,none⟩) i).j n,(k.cell (p:=⟨b,2,none⟩) i).j m,(k.cell (p:=⟨b,3,none⟩) i).j l,(k.cell (p:=⟨b,4,none⟩) i).j o⟩
def Na(p:Pt)(r:List Pt)(a:List ByteArray)(k:Nat):ET (p::r) a k=match CL p.aa a with|none=>.inl k|some b=>ET r (if p.neg then a else b) (k+1):=rfl
def G_(x:Ru)(known:List ByteArray):Option Nat:=Di (FW x.exprs known) x.ao (x.af.length+1)
def U4(x:Ru):A7 x=match ET x.af [] 1 with|.inl i=>some i|.inr a=>G_ x a:=qi
def gj(h:P:=by
 rw[hcov]at hCV HU
 first
  | (have _:=tP5
     have HX:Hid (A7 x=some (x.af.length+1+k)):=show A7 x=_ from by rw[HN.o,HG.o,HD.o,GA,HU.o];rfl)
  |(have HX:Hid (G_ x known=Di (FW x.exprs known) (x.ao.drop (k+1)) (x.af.length+1+(k+1))):=show G_ x known=_ from by rw[HG.o,HD.o,GA,HU.o];rfl)
 go_wp2;clear q3 c0 c1 c2 c3
 first
 |(go_region_held3 (λw'=>w'.cell? ⟨w.heap.size,3,none⟩=some (.slice (some ⟨be,oe,none⟩) x.exprs.length c_exprs)/\w'.cell? ⟨wr.heap.size,3,none⟩=some (.slice (some ⟨ba,oa,none⟩) (ln+1) c_args)/\w'.cell? ⟨ba,oa+ln,none⟩=some (.int .i64 (vn:Int))) ((go_split_ands;refine⟨?_,?_,?_⟩<;>first|(simp[go_sem,hcv0,hq3'];done)|exact zab hb' (by assumption))) (first|(go_at_call 202;refine(hCV.o _ (HM.o.alloc _).drew ((hBa _).drew)).an λw' hb'=>?_;have r2:=zab hb' (zab (Af.drew) q2))|fail))
 |fail
 go_wp2
 first
  | (have _:=tP5
     go_ret;exact⟨E_ (by rw[HX.o];simp[DE];omega),(hBa _).drew.j (hb'.ac (by have:=(hBa (.map #[] 0)).size;simp;omega))⟩)
  | (go_roundw
     case rel=>exact⟨k+1,by omega,by go_num,HX.o,TO (HM.o.alloc _).drew hb',(HBX.o.J Af.drew).J hb',(hBa _).drew.j (hb'.ac (by have:=(hBa (.map #[] 0)).size;simp;omega))⟩
     case measure=>(simp;omega))
 ):=h
def nB(h:P:=by go_wp2;go_ret;exact⟨E_ (by rw[HN.o,HG.o,yD (by omega)];rfl),hb⟩):=h
def zil(x f g c c_exprs d m){q}(w)(ak:CH q w f x.af)(u:BP q w c x.exprs)(am:C9 q w d x.ao)(aD:x.le 1048576)(aX:x.af.length<=6)(aC:∀p∈x.af,p.aa.length<=6)(ar:∀y∈x.ao,∀v∈y.args,0<=v/\v<(x.exprs.length:Int))(aP:x.exprs.length<=c_exprs)(aN:x.exprs.length<=60) :
  Ca 145 #[.agg #[.string x.name,.int .i64 x.aH,.slice f x.af.length g,.slice c x.exprs.length c_exprs,.slice d x.ao.length m]] w λe w'=>e=.returned (.int .i64 (DE (A7 x)))/\Bw w w':=by
 obtain⟨aO,aL,aA,ay⟩:=aD;have a0:=aA.1;have ad:=ay.1;obtain⟨HH⟩:Nonempty (Hid (A7 x=match ET x.af [] 1 with|.inl i=>some i|.inr known=>G_ x known)):=⟨U4 x⟩
 have aE:=λw=>run_makeMap (P:=prog) 230 w;go_enter func145,ntmps145;go_wp2;clear aE
 go_loopw [13] (λi wr=>∃(k n:Nat)(known:List ByteArray)(D:DataW Unit),k<=x.af.length/\i=.int .i64 k/\ET x.af [] 1=ET (x.af.drop k) known (k+1)/\n<=6*k/\CY wr (w.heap.size+1) n D/\DA known D/\Ek wr w.heap.size x f g c c_exprs d m/\Bw w wr) (mz x.af.length)
 case atStart=>
  refine⟨0,0,[],.map [],qd,rfl,rfl,qd,?_,DA.start,(Ek.made w 53 x f g c c_exprs d m).J Af,Af.alloc qe _⟩;have:=WB (H:=Unit) (w.alloc (.cells #[.string x.name,.int .i64 x.aH,.slice f x.af.length g,.slice c x.exprs.length c_exprs,.slice d x.ao.length m] 53)) prog 9 Oc;simpa using this
 case round=>
  obtain⟨k,n,known,D,hk,rfl,N,hn,s,hI,af,hb⟩:=hrel;obtain⟨HG,HBX,HM⟩:=AQ N af s;have ax:=s.lt;clear N s;by_cases aJ:k<x.af.length
  .obtain⟨p,ao⟩:=AJ aJ;obtain⟨b,o,z,t,rfl,hq,c0,c1,c2,ah⟩:=ak.get ao;have R:=aL.2 p (yd ao);have aM:=aC p (yd ao);have d0:=zab hb c0;have d1:=zab hb c1;have d2:=zab hb c2;have HD:Hid (x.af.drop k=p::x.af.drop (k+1)):=Ck ao;have hBa:∀o,Bw w (wr.alloc o):=λo=>hb.alloc hb.size _;clear c0 c1 c2 af;cases K:p.neg
   .have O:=Aa (λw' G E=>yU p z t (w.heap.size+1) n D known (q:=q) w w' G ah (R.2.ac Fm (Tm.ac Fm)) R.2.1 E hI qd qd K);rw[K]at d0 O;cases B:CL p.aa known with
    |none=>
     rw[B]at O;have HN:Hid (A7 x=some (k+1)):=show A7 x=_ from by rw[HH.o,HG.o,HD.o,Na,B]
     go_wp2_with (go_at_call 201;refine(O.o _ (hBa _) (HM.o.alloc _)).ac ?_;rintro e w1 ⟨rfl,Y,_⟩);go_ret;exact⟨E_ (by rw[HN.o];simp[DE]),(hBa _).j (Y.ac qd)⟩
    |some A=>
     rw[B]at O;have HN:Hid (ET x.af [] 1=ET (x.af.drop (k+1)) A (k+1+1)):=show ET x.af [] 1=_ from by rw[HG.o,HD.o,Na,B,K];rfl
     go_wp2_with (go_at_call 201;refine(O.o _ (hBa _) (HM.o.alloc _)).an λw1⟨Y,hh⟩=>?_);obtain⟨n2,D2,aS,aw,aI⟩:=hh A rfl;go_roundw
     case rel=>exact⟨k+1,n2,A,D2,qd,ql,HN.o,qd,aw,aI,(HBX.o.J Af).aJ Y qd,(hBa _).j (Y.ac qd)⟩
     case measure=>(simp;omega)
   have O:=Aa (λw' G E=>wv p z t (w.heap.size+1) n D known (q:=q) w w' G ah (R.2.ac Fm (Tm.ac Fm)) R.2.1 E hI qd K);rw[K]at d0 O;cases B:CL p.aa known with
   |none=>
    rw[B]at O;have HN:Hid (A7 x=some (k+1)):=show A7 x=_ from by rw[HH.o,HG.o,HD.o,Na,B]
    go_wp2_with (go_at_call 201;refine(O.o _ (hBa _) (HM.o.alloc _)).an λw1 Y=>?_);go_ret;exact⟨E_ (by rw[HN.o];simp[DE]),(hBa _).j (Y.ac (hBa _).size)⟩
   |some A=>
    rw[B]at O;have HN:Hid (ET x.af [] 1=ET (x.af.drop (k+1)) known (k+1+1)):=show ET x.af [] 1=_ from by rw[HG.o,HD.o,Na,B,K];rfl
    go_wp2_with (go_at_call 201;refine(O.o _ (hBa _) (HM.o.alloc _)).an λw1 Y=>?_);have aw:=TO (HM.o.alloc _) Y;go_roundw
    case rel=>exact⟨k+1,n,known,D,qd,ql,HN.o,qd,aw,hI,(HBX.o.J Af).J Y,(hBa _).j (Y.ac (hBa _).size)⟩
    case measure=>(simp;omega)
  have HN:Hid (A7 x=G_ x known):=show A7 x=_ from by rw[HH.o,HG.o,yD qd];rfl
  obtain⟨q0,U,q2,q3,Z⟩:=af;go_wp2;clear q0 U q2 q3 Z
  go_loopw [28] (λi av=>∃(k:Nat),k<=x.ao.length/\i=.int .i64 k/\G_ x known=Di (FW x.exprs known) (x.ao.drop k) (x.af.length+1+k)/\CY av (w.heap.size+1) n D/\Ek av w.heap.size x f g c c_exprs d m/\Bw w av) (mz x.ao.length)
  case atStart=>exact⟨0,qd,rfl,rfl,HM.o,HBX.o,hb⟩
  case round=>
   clear HG HBX HM hb hk hn ax;obtain⟨k,hk,rfl,N,s,af,hb⟩:=hrel;obtain⟨HG,HBX,HM⟩:=AQ N af s;have ax:=s.lt;clear N s;by_cases az:k<x.ao.length
   .obtain⟨y,T⟩:=AJ az;obtain⟨b,o,W,c_args,rfl,hq,c0,c1,c2,c3,C⟩:=(am.J hb).get T;have aB:=ar y (yd T);have aQ:=(ay.2 y (yd T)).2;have HD:Hid (x.ao.drop k=y::x.ao.drop (k+1)):=Ck T;have hBa:∀o,Bw w (wr.alloc o):=λo=>hb.alloc hb.size _;obtain⟨q0,U,q2,q3,Z⟩:=af;by_cases M:y.args.length=0
    .have HK:Hid (FW x.exprs known y=true):=show FW x.exprs known y=true from by simp[FW,YR M]
     have HX:Hid (G_ x known=Di (FW x.exprs known) (x.ao.drop (k+1)) (x.af.length+1+(k+1))):=show G_ x known=_ from by rw[HG.o,HD.o,GA,HK.o];rfl
     have aK:decide (0<y.args.length)=false:=decide_eq_false qd;have aT:decide ((0:Int)<(y.args.length:Int))=false:=decide_eq_false qd;clear q0 U q2 Z;go_wp2
     go_quiet (fail)
     go_wp2;go_roundw
     case rel=>exact⟨k+1,qd,ql,HX.o,HM.o.alloc _,HBX.o.J (Fo Af),Fo (hBa _)⟩
     case measure=>(simp;omega)
    obtain⟨ln,I⟩:∃ln,y.args.length=ln+1:=⟨y.args.length-1,qd⟩
    obtain⟨vl,au⟩:∃v,y.args[ln]?=some v:=⟨y.args[ln]'(by omega),qe⟩
    obtain⟨ab,aZ⟩:=aB vl (yd au);obtain⟨vn,rfl⟩:=Ym ab;have aF:vn<x.exprs.length:=qd;obtain⟨ba,oa,ea,aY,ca⟩:=C.get au;subst ea;obtain⟨be,oe,ee,_⟩:=u.get (yK aF);subst ee;have HU:Hid (FW x.exprs known y=(x.exprs.take (vn+1)).all (Es known)):=show FW x.exprs known y=_ from by
     have G:y.args.isEmpty=false:=by
      cases h:y.args with
      |nil=>simp[h]at I
      |cons v r=>rfl
     have E:Jn y=vn+1:=by
      unfold Jn;rw[Ke,I,XD,au];rfl
     unfold FW;rw[G,E];rfl
    have L:(x.exprs.take (vn+1)).length=vn+1:=by simp;omega
    have hCV:=Aa (λw'(G:CY w' (w.heap.size+1) n D)(E:Bw w w')=>vX (w.heap.size+1) n D known (some ⟨be,oe,none⟩) c_exprs (x.exprs.take (vn+1)) w' (q:=q) G hI (Bq.take (u.J E) (vn+1)) qd (λe he=>yi (aA.2 e (Wa he)).1 Fm));rw[L]at hCV;have z0:(0:Int)<=(vn:Int)+1:=qd;have z1:(vn:Int)+1<=(c_exprs:Int):=qd;have z2:(ln:Int)<(ln:Int)+1:=qd;have aG:ln<=1048576:=qd;have aW:IntKind.i64.wrap ((ln:Int)+1-1)=(ln:Int):=by rw[show(ln:Int)+1-1=(ln:Int) by omega,yS];omega
    have aU:IntKind.i64.wrap (((ln+1:Nat):Int)-1)=(ln:Int):=by rw[show((ln+1:Nat):Int)-1=(ln:Int) by omega,yS];omega
    have aR:IntKind.i64.wrap (ln:Int)=(ln:Int):=by rw[yS];omega
    have aV:IntKind.i64.wrap ((vn:Int)+1)=(vn:Int)+1:=by rw[yS];omega
    have z3:(0:Int)<=(ln:Int):=qd;have z4:(ln:Int)<((ln+1:Nat):Int):=qd;have z5:(vn:Int)+1<=(x.exprs.length:Int):=qd;have aH:vn<60:=qd;rw[I]at c3;have hcv0:(wr.alloc (.cells #[.int .i64 y.kind,.int .i64 y.k,.string y.ak,.slice (some ⟨ba,oa,none⟩) (ln+1) c_args] 227)).cell? ⟨ba,oa+ln,none⟩=some (.int .i64 (vn:Int)):=zab Af ca;have hq3':(wr.alloc (.cells #[.int .i64 y.kind,.int .i64 y.k,.string y.ak,.slice (some ⟨ba,oa,none⟩) (ln+1) c_args] 227)).cell? ⟨w.heap.size,3,none⟩=some (.slice (some ⟨be,oe,none⟩) x.exprs.length c_exprs):=zab Af q3;clear q0 U Z ca aB M;have aK:decide (0<ln+1)=true:=decide_eq_true qd;cases hcov:(x.exprs.take (vn+1)).all (Es known)
    .have tP5:=trivial;exact gj
    exact gj
   exact nB
end
section
attribute [local go_sem ↓] wp_at_zero wp_at_succ
def JV(y c a d b x)(i:(y.kind==1)=c)(e:(y.kind==2)=a)(g:(y.kind==3)=d)(f:(y.kind==4)=b)(h:x=(if c then DN y.ak&&y.k==0
  else if a then(y.ak.toList.isEmpty&&(decide (-1000000<=y.k)&&decide (y.k<=1000000)))&&((y.args.length:Int)==0)
  else if d then y.ak.toList.isEmpty&&(decide (-1000000<=y.k)&&decide (y.k<=1000000))
  else if b then y.ak.toList.isEmpty&&(y.k==0&&((y.args.length:Int)==0))
  else false)):x=EW y:=by
 have L:y.args.isEmpty=((y.args.length:Int)==0):=by
  cases y.args with
  |nil=>rfl
  |cons v r=>simp;omega
 rw[h,<-i,<-e,<-g,<-f,<-L];rfl
def o8(h:P:=by
 cases hg:DN y.ak
 all_goals
  go_enter func251,ntmps251;go_wp2_with (go_at_call 248;refine(SV y.ak _ hcl).ac ?_;rintro e w' ⟨rfl,rfl⟩);go_ret;exact⟨AE (JV y true false false false _ (by simp[k1]) (by simp[k1]) (by simp[k1]) (by simp[k1]) (by simp[hg])),Af⟩
 ):=h
def Xl(y a b w)(hcl:y.ak.size<=maxLen) :
  Ca 251 #[.agg #[I6 y.kind,I6 y.k,.string y.ak,.slice a y.args.length b]] w λe w'=>
   e=.returned (.bool (EW y))/\Bw w w':=by
 cases c:y.ak.toList.isEmpty
 .by_cases k1:y.kind=1
  .exact o8
  by_cases k2:y.kind=2
  .go_enter func251,ntmps251;go_wp2;go_ret;exact⟨AE (JV y false true false false _ qZ qZ qZ qZ (by simp[c])),Af⟩
  by_cases k3:y.kind=3
  .go_enter func251,ntmps251;go_wp2;go_ret;exact⟨AE (JV y false false true false _ Lt Lt Lt Lt (by simp[c])),Af⟩
  by_cases k4:y.kind=4
  .go_enter func251,ntmps251;go_wp2;go_ret;exact⟨AE (JV y false false false true _ I0 I0 I0 I0 (by simp[c])),Af⟩
  go_enter func251,ntmps251;go_wp2;go_ret;exact⟨AE (JV y false false false false _ (by simpa using k1) QC (by simpa using k3) (by simpa using k4) rfl),Af⟩
 have i:(-1000000<=y.k/\y.k<=1000000)∨(¬-1000000<=y.k/\y.k<=1000000)∨(-1000000<=y.k/\¬y.k<=1000000):=qd;rcases i with⟨d,f⟩|⟨d,f⟩|⟨d,f⟩
 all_goals
  by_cases k1:y.kind=1
  .exact o8
  by_cases k2:y.kind=2
  .go_enter func251,ntmps251;go_wp2;go_ret;exact⟨AE (JV y false true false false _ qZ qZ qZ qZ (by simp[c,d,f]<;>intros<;>omega)),Af⟩
  by_cases k3:y.kind=3
  .go_enter func251,ntmps251;go_wp2;go_ret;exact⟨AE (JV y false false true false _ Lt Lt Lt Lt (by simp[c,d,f]<;>intros<;>omega)),Af⟩
  by_cases k4:y.kind=4
  .by_cases g:y.k=0
   .first
    |(exfalso;omega)
    | (go_enter func251,ntmps251
       go_wp2;go_ret;exact⟨AE (JV y false false false true _ I0 I0 I0 I0 (by simp[c,g])),Af⟩)
   go_enter func251,ntmps251;go_wp2;go_ret;exact⟨AE (JV y false false false true _ I0 I0 I0 I0 (by simp[c,g])),Af⟩
  go_enter func251,ntmps251;go_wp2;go_ret;exact⟨AE (JV y false false false false _ (by simpa using k1) QC (by simpa using k3) (by simpa using k4) rfl),Af⟩
def nU(h:P:=by refine bodyPost_ret (v:=.tuple #[I6 (nx:Int),.bool false]) (by simp[results,results200,go_sem]) rfl ⟨⟨nx,by rw[HN.o];rfl,λn h=>(by rw[HN.o]at h;cases h)⟩,Af.aj hb'⟩):=h
def X5(h:P:=by go_wp2;refine bodyPost_ret (v:=.tuple #[I6 (O:Int),.bool false]) (by simp[results,results200,go_sem]) rfl ⟨⟨O,by rw[HN.o];rfl,λn h=>(by rw[HN.o]at h;cases h)⟩,hb⟩):=h
def lj(y a c r H S)(nx:Nat){q q'}(w)(d:Bf q w a y.args)(hv:Gv q' w r S)(hl:S.length<=60)(f:y.ak.size<=maxLen)(D:y.args.length<=1048576)(l:nx<=60) :
  Ca 200 #[.agg #[I6 y.kind,I6 y.k,.string y.ak,.slice a y.args.length c],.slice r S.length H,I6 (nx:Int)] w λe w'=>
   (∃v:Int,e=.returned (.tuple #[I6 v,.bool (BW S y nx).isSome])/\∀n,BW S y nx=some n->v=(n:Int)/\n<=60)/\Bw w w':=by
 obtain⟨G⟩:Nonempty (Hid (BW S y nx=if EW y&&decide (y.args.length<=6) then DH S y.args nx else none)):=⟨rfl⟩
 cases Y:EW y
 .have HN:Hid (BW S y nx=none):=show BW S y nx=none from by rw[G.o,Y];rfl
  go_enter func200,ntmps200;go_wp2_with (go_at_call 251;refine(Xl y a c _ f).an λw' hb'=>?_);exact nU
 by_cases L:6<y.args.length
 .have E:(6:Int)<(y.args.length:Int):=qd;have HN:Hid (BW S y nx=none):=show BW S y nx=none from by rw[G.o,Y,decide_eq_false qd];rfl
  go_enter func200,ntmps200;go_wp2_with (go_at_call 251;refine(Xl y a c _ f).an λw' hb'=>?_;have x:At w' w.heap.size 3 (.slice a y.args.length c):=zab hb' qk);exact nU
 have E:¬(6:Int)<(y.args.length:Int):=qd;have t:Hid (BW S y nx=DH S y.args nx):=show BW S y nx=_ from by rw[G.o,Y,decide_eq_true qd];rfl
 go_enter func200,ntmps200;go_wp2_with (go_at_call 251;refine(Xl y a c _ f).an λw' hb'=>?_;have x:At w' w.heap.size 3 (.slice a y.args.length c):=zab hb' qk);have C:Bw w w':=Af.aj hb';clear x hb'
 go_loopw [2,23] (λn i wr=>∃(k O:Nat),k<=y.args.length/\i=I6 k/\n=I6 (O:Int)/\O<=60/\DH S y.args nx=DH S (y.args.drop k) O/\Bw w wr) (λ_ i _=>y.args.length-(intOf i).toNat)
 case atStart=>exact⟨0,nx,qd,rfl,rfl,l,rfl,C⟩
 case round=>
  obtain⟨k,O,M,rfl,rfl,B,A,hb⟩:=hrel;have HG:Hid (BW S y nx=DH S (y.args.drop k) O):=show BW S y nx=_ from by rw[t.o,A]
  clear A;by_cases aj:k<y.args.length
  .obtain⟨v,z⟩:=AJ aj;obtain⟨b,o,rfl,I,c0⟩:=(d.J hb).get z;have j:Hid (y.args.drop k=v::y.args.drop (k+1)):=Ck z;by_cases U:v<0
   .have HN:Hid (BW S y nx=none):=show BW S y nx=none from by
     rw[HG.o,j.o,JX,decide_eq_false qd];rfl
    exact X5
   by_cases v1:(S.length:Int)<=v
   .have HN:Hid (BW S y nx=none):=show BW S y nx=none from by
     rw[HG.o,j.o,JX,decide_eq_false (p:=v<(S.length:Int)) qd];simp
    exact X5
   obtain⟨g,rfl⟩:=Ym (show 0<=v by omega);have W:g<S.length:=qd;obtain⟨s,m⟩:∃s,S[g]?=some s:=⟨S[g],qe⟩
   obtain⟨N,o',rfl,R,T,K⟩:=(hv.J hb).get m;have Z:¬S.length<=g:=qd;cases u:((s.1:Int) != (O:Int))
   .have HN:Hid (BW S y nx=DH S (y.args.drop (k+1)) (g+1)):=show BW S y nx=_ from by
     have:s.1=O:=by(simp at u;omega)
     rw[HG.o,j.o,JX,decide_eq_true qd,decide_eq_true qd,YK,m,YY,decide_eq_true this];rfl
    go_wp2;go_roundw
    case rel=>
     exact⟨k+1,g+1,qd,ql,ql,qd,by rw[<-t.o,HN.o],hb⟩
    case measure=>simp[intOf];omega
   have HN:Hid (BW S y nx=none):=show BW S y nx=none from by
    have:¬s.1=O:=by(simp at u;omega)
    rw[HG.o,j.o,JX,YK,m,YY,decide_eq_false this];simp
   exact X5
  have HN:Hid (BW S y nx=some O):=show BW S y nx=_ from by
   exact Qr
  go_wp2;refine bodyPost_ret (v:=.tuple #[I6 (O:Int),.bool true]) (by simp[results,results200,go_sem]) rfl ⟨⟨O,OW,λn h=>(by rw[HN.o]at h;injection h with h;subst h;exact⟨rfl,B⟩)⟩,hb⟩
def rest(x:Ru):Option Nat:=if(B_ [] x.exprs).length<x.exprs.length then some ((B_ [] x.exprs).length+1) else G8 (B_ [] x.exprs) x.ao 0 1
def UR(x:Ru)(h:IQ x=true):An x=match Di Dc x.af 1 with|some i=>some i|none=>rest x:=by
 unfold An rest;rw[if_pos h];cases Di Dc x.af 1<;>rfl
def OL(S:List Sp)(a:Ac)(r:List Ac)(nx k:Nat):G8 S (a::r) nx k=match BW S a nx with|none=>some k|some nx'=>G8 S r nx' (k+1):=rfl
def oU(h:P:=by go_enter func144,ntmps144;go_wp2_with (go_at_call 197;refine(IX x.name _ am).ac ?_;rintro e w' ⟨rfl,rfl⟩);refine bodyPost_ret (v:=.tuple #[I6 0,.bool false]) (by simp[results,results144,go_sem]) rfl ⟨⟨0,by rw[HN.o];rfl,λi h=>(by rw[HN.o]at h;injection h with h;subst h;rfl)⟩,Af⟩):=h
def XF(h:P:=by
 have HN:Hid (An x=some 0):=show An x=some 0 from by simp[An,IQ];omega
 exact oU
 ):=h
def xw(x f g a c d j){q}(w)(au:CH q w f x.af)(m:BP q w a x.exprs)(ax:C9 q w d x.ao)(aW:x.le 1048576)(ho:GW x.exprs) :
  Ca 144 #[.agg #[.string x.name,I6 x.aH,.slice f x.af.length g,.slice a x.exprs.length c,.slice d x.ao.length j]] w λe w'=>
   (∃i:Int,e=.returned (.tuple #[I6 i,.bool (An x).isNone])/\∀n,An x=some n->i=(n:Int))/\Bw w w':=by
 obtain⟨aS,aT,aI,aQ⟩:=aW;have am:x.name.size<=maxLen:=yi aS Fm;have a8:=aT.1;have bc:=aI.1;have aa:=aQ.1;cases hg:Aw x.name.data.toList
 .have HN:Hid (An x=some 0):=show An x=some 0 from by simp[An,IQ,hg]
  exact oU
 by_cases l6:6<x.af.length
 .have aX:(6:Int)<(x.af.length:Int):=qd;exact XF
 have aX:¬(6:Int)<(x.af.length:Int):=qd;by_cases l8:8<x.ao.length
 .have a0:(8:Int)<(x.ao.length:Int):=qd;exact XF
 have a0:¬(8:Int)<(x.ao.length:Int):=qd;by_cases a9:60<x.exprs.length
 .have aV:(60:Int)<(x.exprs.length:Int):=qd;exact XF
 have aV:¬(60:Int)<(x.exprs.length:Int):=qd;have HH:Hid (An x=match Di Dc x.af 1 with|some i=>some i|none=>rest x):=UR x (by simp[IQ,hg];omega);go_enter func144,ntmps144;go_wp2_with (go_at_call 197;refine(IX x.name _ am).ac ?_;rintro e w' ⟨rfl,rfl⟩)
 go_loopw [35] (λi wr=>∃(k:Nat),k<=x.af.length/\i=I6 k/\(An x=match Di Dc (x.af.drop k) (k+1) with|some i=>some i|none=>rest x)/\Ek wr w.heap.size x f g a c d j/\Bw w wr) (λi _=>x.af.length-(intOf i).toNat)
 case atStart=>exact⟨0,qd,rfl,HH.o,Ek.made _ _ _ _ _ _ _ _ _,Af⟩
 case round=>
  obtain⟨k,hk,rfl,L,ak,C⟩:=hrel;have HG:Hid (An x=match Di Dc (x.af.drop k) (k+1) with|some i=>some i|none=>rest x):=L;clear L;by_cases a4:k<x.af.length
  .obtain⟨p,aH⟩:=AJ a4;obtain⟨b,o,z,u,rfl,hq,c0,c1,c2,aj⟩:=(au.J C).get aH;have aD:=aT.2 p (yd aH);have I:Hid (x.af.drop k=p::x.af.drop (k+1)):=Ck aH;cases aP:Dc p
   all_goals
    go_wp2_with (go_at_call 198;refine(lh p z u _ (aj.J Af) (yi aD.1 Fm) (aD.2.ac Fm (Tm.ac Fm)) aD.2.1).an λH Y=>?_)
   .have HN:Hid (An x=some (k+1)):=show An x=_ from by rw[HG.o,I.o,GA,aP];rfl
    have W:Bw wr H:=Af.aj Y;refine bodyPost_ret (v:=.tuple #[I6 ((k:Int)+1),.bool false]) Zo rfl ⟨⟨(k:Int)+1,OW,λi h=>(by rw[HN.o]at h;injection h with h;subst h;simp)⟩,C.aj W⟩
   have HN:Hid (An x=match Di Dc (x.af.drop (k+1)) (k+1+1) with|some i=>some i|none=>rest x):=show An x=_ from by rw[HG.o,I.o,GA,aP];rfl
   have W:Bw wr H:=Af.aj Y;go_roundw
   case rel=>exact⟨k+1,qd,ql,HN.o,ak.J W,C.aj W⟩
   case measure=>simp[intOf];omega
  have HR:Hid (An x=rest x):=show An x=rest x from by rw[HG.o,yD qd];rfl
  have HBX:=Aa ak;obtain⟨q0,q1,q2,q3,q4⟩:=ak;obtain⟨aC,a6⟩:=S3 (es:=x.exprs) (l:=x.exprs) (AY.nil x.exprs) rfl;have ab:=aC.1;have HS:=Aa aC;clear aC a6;by_cases O:(B_ [] x.exprs).length=x.exprs.length
  .have N:Hid (rest x=G8 (B_ [] x.exprs) x.ao 0 1):=show rest x=_ from by unfold rest;rw[if_neg qd]
   have aN:decide ((B_ [] x.exprs).length=x.exprs.length)=true:=decide_eq_true O;have a5:=Aa O;clear O;go_wp2_with (go_at_call 199;refine(jp x f g a c d j _ (m.J C) qd (aI.ac Fm (Ex.ac Fm)) ho).ac ?_;rintro e H ⟨⟨R,aE,rfl,aA⟩,Y⟩;have r4:=zab Y q4);have aO:=HBX.o.J Y;have aY:Bw w H:=C.aj Y;clear q0 q1 q2 q3 q4 r4 HBX Y aN
   go_loopw [7,59] (λnv i aG=>∃(k A:Nat),k<=x.ao.length/\i=I6 k/\nv=I6 (A:Int)/\A<=60/\An x=G8 (B_ [] x.exprs) (x.ao.drop k) A (k+1)/\Ek aG w.heap.size x f g a c d j/\Gv none aG R (B_ [] x.exprs)/\Bw w aG) (λ_ i _=>x.ao.length-(intOf i).toNat)
   case atStart=>exact⟨0,0,qd,rfl,rfl,qd,by rw[HR.o,N.o];rfl,aO,aA,aY⟩
   case round=>
    obtain⟨k,A,hk,rfl,rfl,aK,L,ah,ai,D⟩:=hrel;obtain⟨B,aM⟩:=Ak L ah;clear L;by_cases aR:k<x.ao.length
    .obtain⟨y,Z⟩:=AJ aR;obtain⟨b,o,s,t,rfl,hq,c0,c1,c2,c3,r⟩:=(ax.J D).get Z;have U:=aQ.2 y (yd Z);have I:Hid (x.ao.drop k=y::x.ao.drop (k+1)):=Ck Z;clear ah;cases T:BW (B_ [] x.exprs) y A with
     |none=>
      have HN:Hid (An x=some (k+1)):=show An x=_ from by rw[B.o,I.o,OL,T]
      have G:=Aa (λw h1 h2=>lj y s t R aE (B_ [] x.exprs) A (q:=q) (q':=none) w h1 h2 qd (yi U.1 Fm) U.2 aK);rw[T]at G;go_wp2_with (go_at_call 200;refine(G.o _ (r.J Af) (ai.J Af)).ac ?_;rintro e w3 ⟨⟨v,rfl,aL⟩,aF⟩);have K:Bw wr w3:=Af.aj aF;refine bodyPost_ret (v:=.tuple #[I6 ((k:Int)+1),.bool false]) Zo rfl ⟨⟨(k:Int)+1,OW,λi h=>(by rw[HN.o]at h;injection h with h;subst h;simp)⟩,D.aj K⟩
     |some aB=>
      have HN:Hid (An x=G8 (B_ [] x.exprs) (x.ao.drop (k+1)) aB (k+1+1)):=show An x=_ from by rw[B.o,I.o,OL,T]
      have G:=Aa (λw h1 h2=>lj y s t R aE (B_ [] x.exprs) A (q:=q) (q':=none) w h1 h2 qd (yi U.1 Fm) U.2 aK);rw[T]at G;go_wp2_with (go_at_call 200;refine(G.o _ (r.J Af) (ai.J Af)).ac ?_;rintro e w3 ⟨⟨v,rfl,aL⟩,aF⟩;obtain⟨rfl,aU⟩:=aL aB rfl);have K:Bw wr w3:=Af.aj aF;go_roundw
      case rel=>exact⟨k+1,aB,qd,ql,rfl,aU,HN.o,aM.o.J K,ai.J K,D.aj K⟩
      case measure=>simp[intOf];omega
    have e0:x.ao.drop k=[]:=yD qd;obtain⟨q0,q1,q2,q3,q4⟩:=ah;have a7:k=x.ao.length:=qd;have M:Hid (An x=if A=(B_ [] x.exprs).length then none else some (k+1)):=show An x=_ from by rw[B.o,e0];rfl
    go_wp2;by_cases E:A=(B_ [] x.exprs).length
    .refine bodyPost_ret (v:=.tuple #[I6 ((x.ao.length:Int)+1),.bool true]) (by simp[results,results144,go_sem,E]) rfl ⟨⟨_,by rw[M.o,if_pos E];rfl,λi h=>(by rw[M.o,if_pos E]at h;cases h)⟩,D⟩
    have aZ:((A:Int)==((B_ [] x.exprs).length:Int))=false:=by simp;omega
    refine bodyPost_ret (v:=.tuple #[I6 ((x.ao.length:Int)+1),.bool false]) (by simp[results,results144,go_sem];omega) rfl ⟨⟨_,by rw[M.o,if_neg E];rfl,λi h=>(by rw[M.o,if_neg E]at h;injection h with h;subst h;simp;omega)⟩,D⟩
  have N:Hid (rest x=some ((B_ [] x.exprs).length+1)):=show rest x=_ from by unfold rest;rw[if_pos qd]
  have aN:decide ((B_ [] x.exprs).length=x.exprs.length)=false:=decide_eq_false O;have a5:=Aa O;clear O;go_wp2_with (go_at_call 199;refine(jp x f g a c d j _ (m.J C) qd (aI.ac Fm (Ex.ac Fm)) ho).ac ?_;rintro e H ⟨⟨R,aE,rfl,aA⟩,Y⟩);refine bodyPost_ret (v:=.tuple #[I6 (((B_ [] x.exprs).length:Int)+1),.bool false]) Zo rfl ⟨⟨((B_ [] x.exprs).length:Int)+1,by rw[HR.o,N.o];rfl,λi h=>(by rw[HR.o,N.o]at h;injection h with h;subst h;simp)⟩,C.aj Y⟩
def OH{a b p}(h:p=(a,b)):Ending.returned (.tuple #[I6 a,I6 b])=.returned (.tuple #[I6 p.1,I6 p.2]):=by rw[h]
def mH{α f}:∀{l:List α}{k:Nat},Di f l k=none->∀x∈l,f x=true
 |[],_,_,x,hx=>by simp at hx
 |y::r,k,h,x,hx=>by
  rw[GA]at h
  split at h
  .rename_i b
   rcases yO.1 hx with rfl|a
   .exact b
   .exact mH h x a
  cases h
def kb{S}:∀{l:List Int}{nx n:Nat},DH S l nx=some n->∀v∈l,0<=v/\v<(S.length:Int)
 |[],_,_,_,v,hv=>by simp at hv
 |x::r,nx,n,h,v,hv=>by
  rw[JX]at h
  split at h
  .rename_i a
   simp only[yk,decide_eq_true_eq]at a
   rcases yO.1 hv with rfl|b
   .exact⟨a.1,a.2.1⟩
   .exact kb h v b
  cases h
def lU{S}:∀{l:List Ac}{nx k:Nat},G8 S l nx k=none->∀y∈l,∀v∈y.args,0<=v/\v<(S.length:Int)
 |[],_,_,_,y,hy,_,_=>by simp at hy
 |a::r,nx,k,h,y,hy,v,hv=>by
  rw[OL]at h
  cases b:BW S a nx with
  |none=>rw[b]at h;cases h
  |some O=>
   rw[b]at h
   rcases yO.1 hy with rfl|c
   .unfold BW at b
    split at b
    .exact kb b v hv
    cases b
   exact lU h y c v hv
def VK{x}(h:An x=none):x.af.length<=6/\x.ao.length<=8/\x.exprs.length<=60/\(∀p∈x.af,p.aa.length<=6)/\(B_ [] x.exprs).length=x.exprs.length/\∀y∈x.ao,∀v∈y.args,0<=v/\v<(x.exprs.length:Int):=by
 have c:IQ x=true:=by
  cases d:IQ x
  .simp[An,d]at h
  rfl
 rw[UR x c]at h;have O:=c;simp only[IQ,yk,decide_eq_true_eq]at O;cases b:Di Dc x.af 1 with
 |some i=>rw[b]at h;cases h
 |none=>
  rw[b]at h;have a:rest x=none:=h;unfold rest at a;split at a
  .cases a
  rename_i e;have j:=(S3 (es:=x.exprs) (l:=x.exprs) (AY.nil x.exprs) rfl).1.1;have Y:(B_ [] x.exprs).length=x.exprs.length:=qd;refine⟨O.2.1,O.2.2.1,O.2.2.2,λp g=>?_,Y,λy f v hv=>?_⟩
  .have:=mH b p g;simp only[Dc,yk,decide_eq_true_eq]at this;exact this.2.1
  have:=lU a y f v hv;omega
def VR{α f}:∀{l:List α}{k i:Nat},Di f l k=some i->k<=i
 |[],_,_,h=>by cases h
 |x::r,k,i,h=>by
  rw[GA]at h
  split at h
  .have:=VR h
   omega
  injection h with h
  omega
def jq:∀{l:List Pt}{a:List ByteArray}{k i:Nat},ET l a k=.inl i->k<=i
 |[],_,_,_,h=>by cases h
 |p::r,a,k,i,h=>by
  rw[Na]at h
  split at h
  .injection h with h
   omega
  have:=jq h
  omega
def zS{x i}(h:A7 x=some i):1<=i:=by
 rw[U4]at h;split at h
 .rename_i j hj;injection h with h;have:=jq hj;omega
 have:=VR h;omega
def uP{x i}(h:Cw x=some i):1<=i:=by
 have:=VR h;omega
def vh(x g m d c f n aC aH p){q}(w)(ay:Do q w aC p)(Y:CH q w g x.af)(r:BP q w d x.exprs)(A:C9 q w f x.ao)(az:x.le 1048576)(ho:GW x.exprs)(aF:x.exprs.length<=c)(aR:p.length<=16) :
  Ca 85 #[.agg #[.string x.name,I6 x.aH,.slice g x.af.length m,.slice d x.exprs.length c,.slice f x.ao.length n],.slice aC p.length aH] w λe w'=>
   e=.returned (.tuple #[I6 (Br p x).1,I6 (Br p x).2])/\Bw w w':=by
 have ar:=az;obtain⟨aP,aN,aT,aL⟩:=az;have I:=Aa (λw H G N=>xw x g m d c f n (q:=q) w H G N ar ho);cases B:An x with
 |some i=>
  rw[B]at I;have u:Hid (Br p x=(1,(i:Int))):=show Br p x=_ from by unfold Br;rw[B]
  go_enter func85,ntmps85;go_wp2_with (go_at_call 144;refine(I.o _ (Y.J Af) (r.J Af) (A.J Af)).ac ?_;rintro e w1 ⟨⟨v,rfl,hv⟩,D⟩;obtain rfl:=hv i rfl);refine bodyPost_ret (v:=.tuple #[I6 (1),I6 ((i:Int))]) qD rfl ⟨OH u.o,Af.aj D⟩
 |none=>
  rw[B]at I;obtain⟨aM,aQ,aB,aG,aK,au⟩:=VK B;go_enter func85,ntmps85;go_wp2_with (go_at_call 144;refine(I.o _ (Y.J Af) (r.J Af) (A.J Af)).ac ?_;rintro e w1 ⟨⟨v,rfl,_⟩,D⟩);have aA:Bw w w1:=Af.aj D;have aD:=(Ek.made w 53 x g m d c f n).J D;clear D
  go_loopw [23] (λi wr=>∃(k:Nat),k<=p.length/\i=I6 k/\p.any (λo=>decide (o.name=x.name))=(p.drop k).any (λo=>decide (o.name=x.name))/\Ek wr w.heap.size x g m d c f n/\Bw w wr) (mz p.length)
  case atStart=>exact⟨0,qd,rfl,rfl,aD,aA⟩
  case round=>
   clear aA aD;obtain⟨k,hk,rfl,hG,am,s⟩:=hrel;obtain⟨HG,HBX⟩:=Ak hG am;clear hG;by_cases aJ:k<p.length
   .obtain⟨y,aE⟩:=AJ aJ;obtain⟨b,o,a1,k1,a2,k2,a3,k3,rfl,hq,c0,c1,c2,c3,c4,_,_,_⟩:=(ay.J s).get aE;have HD:Hid (p.drop k=y::p.drop (k+1)):=Ck aE;have E:∀o,Bw w (wr.alloc o):=λo=>s.alloc s.size _;obtain⟨L,q1,q2,q3,q4⟩:=am;have aa:w.heap.size<wr.heap.size:=ES L;have aS:∀o,At (wr.alloc o) w.heap.size 0 (.string x.name):=λo=>zab (Ez o) L;clear q1 q2 q3 q4 L;cases K:(y.name.toList==x.name.toList)
    .have M:Hid (p.any (λo=>decide (o.name=x.name))=(p.drop (k+1)).any (λo=>decide (o.name=x.name))):=show _=_ from by
      rw[EV]at K;rw[HG.o,HD.o,KI,K];rfl
     go_wp2;go_roundw
     case rel=>exact⟨k+1,qd,ql,M.o,HBX.o.J Af,E _⟩
     case measure=>(simp;omega)
    have M:Hid (Br p x=(2,0)):=show Br p x=_ from by
     rw[EV]at K;unfold Br;rw[B];simp only;rw[HG.o,HD.o,KI,K];rfl
    go_wp2;refine bodyPost_ret (v:=.tuple #[I6 (2),I6 (0)]) qD rfl ⟨OH M.o,E _⟩
   have HA:Hid (p.any (λo=>decide (o.name=x.name))=false):=show _=_ from by rw[HG.o,yD qd];rfl
   have aO:Ad x.af<=x.af.length:=KD;obtain⟨z,C⟩:=Ak (λw H G N=>zil x g m d c f n (q:=q) w H G N ar aM aG au aF aB) (λw H G=>zlo x g m d c f n (q:=q) w H G aN.1 aL.1);obtain⟨L,q1,q2,q3,q4⟩:=am;by_cases hr:1<=Ad x.af/\Ad x.af<=3
   .have u:Hid (Br p x=match A7 x with|some i=>(4,(i:Int))|none=>match Cw x with|some i=>(5,(i:Int))|none=>(0,0)):=show Br p x=_ from by
     unfold Br;rw[B];simp only;rw[HA.o,if_neg qh,if_pos hr];cases A7 x with
     |some i=>rfl
     |none=>cases Cw x<;>rfl
    have r0:¬(Ad x.af:Int)<1:=qd;have r1:¬(3:Int)<(Ad x.af:Int):=qd;cases W:A7 x with
    |some i=>
     rw[W]at z u;simp only[DE]at z;have aI:((i:Int) != 0)=true:=by
      have:=zS W;simp;omega
     go_wp2_with (first|(go_at_call 83;refine(Ql x g m d c f n _ (Y.J s) qd).an λw2 O=>?_;obtain⟨R,s1,s2,s3,T⟩:=HBX.o.J O)|(go_at_call 145;refine(z.o _ (Y.J (s.aj O)) (r.J (s.aj O)) (A.J (s.aj O))).an λw3 t=>?_;obtain⟨t0,t1,t2,t3,t4⟩:=(HBX.o.J O).J t)|fail);refine bodyPost_ret (v:=.tuple #[I6 (4),I6 ((i:Int))]) qD rfl ⟨OH u.o,((s.aj O).j (t.ac (s.aj O).size))⟩
    |none=>
     rw[W]at z u;simp only[DE]at z;cases Z:Cw x with
     |some i=>
      rw[Z]at C u;simp only[DE]at C;have aI:((i:Int) != 0)=true:=by
       have:=uP Z;simp;omega
      go_wp2_with (first|(go_at_call 83;refine(Ql x g m d c f n _ (Y.J s) qd).an λw2 O=>?_;obtain⟨R,s1,s2,s3,T⟩:=HBX.o.J O)|(go_at_call 145;refine(z.o _ (Y.J (s.aj O)) (r.J (s.aj O)) (A.J (s.aj O))).an λw3 t=>?_;obtain⟨t0,t1,t2,t3,t4⟩:=(HBX.o.J O).J t)|(go_at_call 146;refine(C.o _ (Y.J ((s.aj O).j (t.ac (s.aj O).size))) (A.J ((s.aj O).j (t.ac (s.aj O).size)))).an λw4 U=>?_)|fail);refine bodyPost_ret (v:=.tuple #[I6 (5),I6 ((i:Int))]) qD rfl ⟨OH u.o,(((s.aj O).j (t.ac (s.aj O).size)).j (U.ac ((s.aj O).j (t.ac (s.aj O).size)).size))⟩
     |none=>
      rw[Z]at C u;simp only[DE]at C;go_wp2_with (first|(go_at_call 83;refine(Ql x g m d c f n _ (Y.J s) qd).an λw2 O=>?_;obtain⟨R,s1,s2,s3,T⟩:=HBX.o.J O)|(go_at_call 145;refine(z.o _ (Y.J (s.aj O)) (r.J (s.aj O)) (A.J (s.aj O))).an λw3 t=>?_;obtain⟨t0,t1,t2,t3,t4⟩:=(HBX.o.J O).J t)|(go_at_call 146;refine(C.o _ (Y.J ((s.aj O).j (t.ac (s.aj O).size))) (A.J ((s.aj O).j (t.ac (s.aj O).size)))).an λw4 U=>?_)|fail);refine bodyPost_ret (v:=.tuple #[I6 (0),I6 (0)]) qD rfl ⟨OH u.o,(((s.aj O).j (t.ac (s.aj O).size)).j (U.ac ((s.aj O).j (t.ac (s.aj O).size)).size))⟩
   have u:Hid (Br p x=(3,0)):=show Br p x=_ from by
    unfold Br;rw[B];simp only;rw[HA.o,if_neg qh,if_neg hr]
   by_cases r0:(Ad x.af:Int)<1;rotate_left
   focus
    have r1:(3:Int)<(Ad x.af:Int):=qd
   rotate_left
   all_goals
    go_wp2_with (first|(go_at_call 83;refine(Ql x g m d c f n _ (Y.J s) qd).an λw2 O=>?_;obtain⟨R,s1,s2,s3,T⟩:=HBX.o.J O)|fail);refine bodyPost_ret (v:=.tuple #[I6 (3),I6 (0)]) qD rfl ⟨OH u.o,(s.aj O)⟩
end
def Hu.owns{w base n a c xs}(h:w.ownsRow base 9 1 (.slice a n c) n (xs.map Value.string)):Hu none w a xs:=by
 intro i s b;have Y:(xs.map Value.string)[i]?=some (.string s):=by simp[b]
 obtain⟨g,rfl,_,h0,_⟩:=CC h Y;refine⟨g,0,[.string s],rfl,Qb.bare _ _ _,rfl,?_,rfl⟩;exact mZ
def ze{w:World}{base n a c}{xs:List ByteArray}(h:w.ownsRow base 9 1 (.slice a n c) n (xs.map Value.string))(O:a=none):xs.length=0:=by
 cases xs with
 |nil=>rfl
 |cons x r=>
  obtain⟨g,b,_⟩:=CC h (j:=0) (x:=.string x) qe;rw[O]at b;cases b
def gy:(prog.info? 9).map (λi=>(i.zero,i.size,i.bytes))=some (some (.string ByteArray.empty),1,16):=qf
def uz(xs:List ByteArray):∀u∈xs.map Value.string,u.oneCell'=true:=by
 intro u hu;obtain⟨s,_,rfl⟩:=yz.1 hu;rfl
def zD{w q a xs}(h:Hu q w a xs):∀d,a=some d->∀(j:Nat)u,(xs.map Value.string)[j]?=some u->w.cell? (d.add j)=some u:=by
 intro d hd j u hu;rw[yx]at hu;cases c:xs[j]? with
 |none=>rw[c]at hu;cases hu
 |some s=>
  rw[c]at hu;simp at hu;subst hu;obtain⟨b,o,rfl,_,e⟩:=h.get c;cases hd;rw[YZ];exact e
def zoR{x}(h:An x=none):G8 (B_ [] x.exprs) x.ao 0 1=none:=by
 unfold An at h;split at h
 .split at h
  .cases h
  .split at h
   .cases h
   .exact h
 cases h
def xR{S y nx n}(h:BW S y nx=some n):DH S y.args nx=some n:=by
 unfold BW at h;split at h
 .exact h
 cases h
def VY{S x r nx n}(h:DH S (x::r) nx=some n):∃(x0:Nat)(O:Sp),x=(x0:Int)/\S[x0]?=some O/\O.1=nx/\DH S r (x0+1)=some n:=by
 rw[JX]at h;split at h
 .rename_i a;simp only[yk,decide_eq_true_eq]at a;obtain⟨Y,d,c⟩:=a;obtain⟨x0,rfl⟩:=Ym Y;have b:x0<S.length:=qd;refine⟨x0,S[x0],rfl,qe,?_,h⟩;simpa[b] using c
 cases h
def jc{es S}(hS:AY es S):∀{l:List Int}{nx n:Nat},DH S l nx=some n->nx<=n
 |[],nx,n,h=>by
  have:some nx=some n:=h
  injection this with this
  omega
 |x::r,nx,n,h=>by
  obtain⟨x0,O,rfl,b,rfl,a⟩:=VY h
  have d:=jc hS a
  have c:=hS.bn x0 O b
  omega
def l7{S}:∀{l:List Int}{nx n:Nat},l≠[]->DH S l nx=some n->∃O:Nat,l.getLast?=some (O:Int)/\n=O+1/\O<S.length
 |[],_,_,h,_=>absurd rfl h
 |x::r,nx,n,_,h=>by
  obtain⟨x0,Y,rfl,b,rfl,a⟩:=VY h
  cases r with
  |nil=>
   have:some (x0+1)=some n:=a
   injection this with this
   exact⟨x0,rfl,this.ai,(yf.1 b).1⟩
  |cons y d=>
   obtain⟨O,h1,e,c⟩:=l7 (l:=y::d) qe a
   exact⟨O,qt,e,c⟩
def ji{α:Type}{f}{l:List α}{j x}(h:l[j]?=some x):(l.take (j+1)).all f=((l.take j).all f&&f x):=by
 rw[yY,h];simp
def zij{α:Type}{f}{l:List α}{j m x}(h:l[j]?=some x)(hj:j<m)(a:f x=false):(l.take m).all f=false:=by
 rw[Ku];refine⟨x,?_,by simp[a]⟩;have:(l.take m)[j]?=some x:=by rw[YU,if_pos hj,h]
 exact yd this
def zmM{es a y}{O:Nat}(h:y.args.getLast?=some (O:Int)):FW es a y=(es.take (O+1)).all (Es a):=by
 have c:y.args.isEmpty=false:=by
  cases d:y.args with
  |nil=>rw[d]at h;cases h
  |cons v r=>rfl
 have b:Jn y=O+1:=by
  unfold Jn;rw[h];rfl
 unfold FW;rw[c,b];rfl
def IE:Option Nat->Int
 |none=>-1
 |some i=>(i:Int)
section
attribute [local go_sem ↓] wp_at_zero wp_at_succ
def np(h:P:=by
 go_roundw
 case rel=>exact⟨j+1,by omega,by omega,by go_num,HJ.o,zab Af aH,Y.alloc hsz _⟩
 case measure=>simp[intOf];omega
 ):=h
def zmX(x H D m s B E){q}(w)(ax:CH q w H x.af)(K:BP q w m x.exprs)(aB:C9 q w B x.ao)(bo:x.le 1048576)(aN:An x=none) :
  Ca 168 #[.agg #[.string x.name,.int .i64 x.aH,.slice H x.af.length D,.slice m x.exprs.length s,.slice B x.ao.length E]] w λe w'=>e=.returned (.int .i64 (IE (A7 x)))/\Bw w w':=by
 obtain⟨bI,bl,bk,a9⟩:=bo;obtain⟨b0,bL,bH,aP,ak,aq⟩:=VK aN;obtain⟨W,ay⟩:∃S,S=B_ [] x.exprs:=⟨_,rfl⟩
 have a4:AY x.exprs W:=by rw[ay];exact(S3 (AY.nil _) rfl).1
 have ao:G8 W x.ao 0 1=none:=by rw[ay];exact zoR aN
 rw[<-ay]at ak;obtain⟨aX,az,bz,bK,bt,b8,bE,a5⟩:=NG a4 ao ak aq aP bk a9 bl;clear ay a4 ao ak aq aP aN bk a9 bl;obtain⟨HH⟩:Nonempty (Hid (A7 x=match ET x.af [] 1 with|.inl i=>some i|.inr d=>G_ x d)):=⟨U4 x⟩
 go_enter func168,ntmps168;go_wp2
 go_loopw [3,16] (λkv i wr=>∃(k:Nat)(d:List ByteArray)(a:Option Addr)(c:Nat),k<=x.af.length/\i=.int .i64 k/\kv=.slice a d.length c/\ET x.af [] 1=ET (x.af.drop k) d (k+1)/\d.length<=6*k/\(a=none->d.length=0)/\Hu none wr a d/\Ek wr w.heap.size x H D m s B E/\Bw w wr) (λ_ i _=>x.af.length-(intOf i).toNat)
 case atStart=>exact⟨0,[],none,0,qd,rfl,rfl,rfl,qe,λ_=>rfl,Bq.nil,Ek.made _ _ _ _ _ _ _ _ _,Af⟩
 case round=>
  obtain⟨k,d,a,c,hk,rfl,rfl,hG,bO,T,au,O,hb⟩:=hrel;obtain⟨HG,HBX,R,aF⟩:=BE hG O au T;clear hG au T;have bg:w.heap.size<wr.heap.size:=ES O.1;by_cases bv:k<x.af.length
  .obtain⟨p,aC⟩:=AJ bv;obtain⟨b,o,A,z,rfl,hq,c0,c1,c2,af⟩:=(ax.J hb).get aC;have bM:=a5.o.2 p (yd aC);have bG:=bt.o p (yd aC);have HD:Hid (x.af.drop k=p::x.af.drop (k+1)):=Ck aC;have bA:=Aa af;obtain⟨M,rfl⟩:∃u,u=wr:=⟨wr,rfl⟩
   clear O af;go_wp2_with (at_builtin;refine EU qi (.tmp 21) (.tmp 22) 185 qi (M.heap.size+1) 9 _ 1 16 underlying185 gy qi qd _ 0 [] qi (y9 _ _ _ _) a d.length c qi (d.map Value.string) qe aF.o (zD (R.o.J Af)) (uz d) qm qd qe ?_;intro a2 bh w2 bn aV bB;have aM:Below (M.heap.size+1) (M.alloc (.cells #[.bool p.neg,.string p.ak,.slice A p.aa.length z] 152)) w2:=(Aj.grown aV.o qe (λj hj=>by cases hj));have d2:w2.cell? ⟨M.heap.size,2,none⟩=some (.slice A p.aa.length z):=(aM.cell (p:=⟨M.heap.size,2,none⟩) qe).j qk);have aG:w2.ownsRow (M.heap.size+1) 9 1 (.slice a2 d.length bh) d.length (d.map Value.string):=by
    have:=bn.o;simpa using this
   clear bn aV bB d2 c0 c1 c2 hq
   go_loopw [6,27] (λhv i am=>∃(j:Nat)(f:List ByteArray)(a':Option Addr)(c':Nat),j<=p.aa.length/\i=.int .i64 j/\hv=.slice a' f.length c'/\CL p.aa d=CL (p.aa.drop j) f/\f.length<=6*k+j/\am.ownsRow (M.heap.size+1) 9 1 (.slice a' f.length c') f.length (f.map Value.string)/\Below (M.heap.size+1) (M.alloc (.cells #[.bool p.neg,.string p.ak,.slice A p.aa.length z] 152)) am) (λ_ i _=>p.aa.length-(intOf i).toNat)
   case atStart=>exact⟨0,d,a2,bh,qd,rfl,qe,rfl,qd,aG,aM⟩
   case round=>
    clear aG aM;obtain⟨j,f,a',c',hj,rfl,rfl,hT,bQ,U,Y⟩:=hrel;obtain⟨HT,HO⟩:=Ak hT U;clear hT U;have aL:Bw M wr:=Af.j (Y.ac qd);have I:Bw w wr:=hb.aj aL;have hsz:=Y.size;have A1:∀o,Below (M.heap.size+1) (M.alloc (.cells #[.bool p.neg,.string p.ak,.slice A p.aa.length z] 152)) (wr.alloc o):=λo=>Y.alloc (by simp at hsz;omega) _;by_cases aW:j<p.aa.length
    .obtain⟨t,aZ⟩:=AJ aW;obtain⟨b',o',ea,hq,c0,c1,c2,c3,c4,c5⟩:=(bA.o.J aL).get aZ;subst ea;have aA:Hid (p.aa.drop j=t::p.aa.drop (j+1)):=Ck aZ;have AW:∀o,Bw w (wr.alloc o):=λo=>I.alloc I.size _;by_cases k2:t.kind=2
     .have HN:Hid (CL p.aa d=CL (p.aa.drop (j+1)) (f++[t.var])):=show CL p.aa d=_ from by rw[HT.o,aA.o,Md];simp[Fe,k2]
      rw[k2]at c0;go_wp2_with (at_builtin;refine EU qi (.tmp 51) (.tmp 54) 185 qi (M.heap.size+1) 9 _ 1 16 underlying185 gy qi qd _ f.length _ qi ((HO.o.alloc _).alloc _) (some ⟨wr.heap.size+1,0,none⟩) 1 1 qi [.string t.var] qi (λe=>qp) (Et _ _ _ _ qe) (by simp[Value.oneCell']) qm qd (by simp at hsz⊢;omega) ?_;intro a3 bi w3 bC bw b5);have bu:=(((A1 _).alloc (by simp at hsz;simp;omega) _).grown bw.o (by simp at hsz;simp;omega) (λg hg=>(HO.o.lt g hg).1))
      have a0:w3.ownsRow (M.heap.size+1) 9 1 (.slice a3 (f++[t.var]).length bi) (f++[t.var]).length ((f++[t.var]).map Value.string):=by
       have:=bC.o;simpa using this
      go_roundw
      case rel=>exact⟨j+1,f++[t.var],a3,bi,qd,ql,qe,HN.o,qg,a0,bu⟩
      case measure=>simp[intOf];omega
     by_cases k3:t.kind=3/\t.var.toList.isEmpty=false
     .obtain⟨k3,v0⟩:=k3;rw[k3]at c0;have hI:=Aa (λw' h=>UO t.var a' c' f w' (q:=none) h qd);cases hm:BI t.var f
      all_goals
       rw[hm]at hI;go_wp2_with (go_at_call 106;refine(hI.o _ ((Hu.owns HO.o).J Af)).ac ?_;rintro e' w1 ⟨rfl,rfl⟩)
      .have HX:Hid (A7 x=some (k+1)):=show A7 x=_ from by
        have hz:CL p.aa d=none:=by
         rw[HT.o,aA.o,Md];simp[Fe,k3,BT,hm];intro h;simp[h]at v0
        rw[HH.o,HG.o,HD.o,Na,hz]
       go_ret;exact⟨E_ (by rw[HX.o];simp[IE]),AW _⟩
      have HN:Hid (CL p.aa d=CL (p.aa.drop (j+1)) f):=show CL p.aa d=_ from by rw[HT.o,aA.o,Md];simp[k3,hm]
      go_roundw
      case rel=>exact⟨j+1,f,a',c',qd,ql,rfl,HN.o,qd,HO.o.alloc _,A1 _⟩
      case measure=>simp[intOf];omega
     have HN:Hid (CL p.aa d=CL (p.aa.drop (j+1)) f):=show CL p.aa d=_ from by
      have ha:Fe t=false:=by
       exact oA
      rw[HT.o,aA.o,Md,ha];simp[k2]
     by_cases h3:t.kind=3
     focus
      have bT:t.var.toList.isEmpty=true:=by cases h:t.var.toList.isEmpty<;>simp_all
      clear k3;rw[h3]at c0
     rotate_left
     focus
      clear k3
     rotate_left
     all_goals
      go_wp2;go_roundw
      case rel=>exact⟨j+1,f,a',c',qd,ql,rfl,HN.o,qd,HO.o.alloc _,A1 _⟩
      case measure=>simp[intOf];omega
    have HN:Hid (CL p.aa d=some f):=show CL p.aa d=_ from by
     rw[HT.o,yD qd];rfl
    have d0:wr.cell? ⟨M.heap.size,0,none⟩=some (.bool p.neg):=(Y.cell (p:=⟨M.heap.size,0,none⟩) qe).j qk;have bj:Ek wr w.heap.size x (some ⟨b,o,none⟩) D m s B E:=(HBX.o.J Af).aJ Y qd;cases a8:p.neg
    all_goals
     rw[a8]at d0;have HM:Hid (ET x.af [] 1=ET (x.af.drop (k+1)) (if p.neg then d else f) (k+1+1)):=show ET x.af [] 1=_ from by rw[HG.o,HD.o,Na,HN.o]
     rw[a8]at HM;go_wp2
    .go_roundw
     case rel=>exact⟨k+1,f,a',c',qd,ql,rfl,HM.o,qd,ze HO.o,Hu.owns HO.o,bj,I⟩
     case measure=>simp[intOf];omega
    go_roundw
    case rel=>exact⟨k+1,d,a,c,qd,ql,rfl,HM.o,qd,aF.o,R.o.J aL,bj,I⟩
    case measure=>simp[intOf];omega
  have bD:d.length<=36:=qd;have HN:Hid (A7 x=G_ x d):=show A7 x=_ from by rw[HH.o,HG.o,yD qd];rfl
  obtain⟨q0,q1,q2,q3,q4⟩:=O;go_wp2;clear q0 q1 q2 q3 q4
  go_loopw [65] (λi am=>∃(k nx:Nat),k<=x.ao.length/\i=.int .i64 k/\G_ x d=Di (FW x.exprs d) (x.ao.drop k) (x.af.length+1+k)/\G8 W (x.ao.drop k) nx (k+1)=none/\(x.exprs.take nx).all (Es d)=true/\Hu none am a d/\Ek am w.heap.size x H D m s B E/\Bw w am) (λi _=>x.ao.length-(intOf i).toNat)
  case atStart=>exact⟨0,0,qd,rfl,rfl,az.o,qe,R.o,HBX.o,hb⟩
  case round=>
   clear HG HBX R hb hk bg az;obtain⟨k,nx,hk,rfl,hG,ao,ah,au,O,hb⟩:=hrel;obtain⟨HG,az,aK,R,HBX⟩:=DU hG ao ah au O;have bg:w.heap.size<wr.heap.size:=ES O.1;clear hG ao ah au;by_cases bf:k<x.ao.length
   .obtain⟨y,aO⟩:=AJ bf;obtain⟨b,o,ad,N,rfl,hq,c0,c1,c2,c3,G⟩:=(aB.J hb).get aO;have bJ:=(bE.o.2 y (yd aO)).2;have HD:Hid (x.ao.drop k=y::x.ao.drop (k+1)):=Ck aO;have AW:∀o,Bw w (wr.alloc o):=λo=>hb.alloc hb.size _;obtain⟨nx',bc,aJ⟩:∃n,BW W y nx=some n/\G8 W (x.ao.drop (k+1)) n (k+1+1)=none:=by
     have h:=az.o;rw[HD.o,OL]at h;cases hg:BW W y nx with
     |none=>rw[hg]at h;cases h
     |some n=>rw[hg]at h;exact⟨n,rfl,h⟩
    have ai:=xR bc;have aI:=Aa aJ;clear aJ bc;by_cases L:y.args=[]
    .have ae:nx'=nx:=by
      rw[L]at ai;have:some nx=some nx':=ai;exact Tf
     subst ae;have HX:Hid (G_ x d=Di (FW x.exprs d) (x.ao.drop (k+1)) (x.af.length+1+(k+1))):=show G_ x d=_ from by
      rw[HG.o,HD.o,GA,show FW x.exprs d y=true by simp[FW,L]];rfl
     have aS:y.args.length=0:=by simp[L]
     rw[aS]at c3;clear L ai aS O;go_wp2;go_roundw
     case rel=>exact⟨k+1,nx',qd,ql,HX.o,aI.o,aK.o,R.o.J Af,HBX.o.J Af,AW _⟩
     case measure=>simp[intOf];omega
    obtain⟨Z,aD,bd,bR⟩:=l7 L ai;have bF:=jc aX.o ai;obtain⟨C,ab⟩:∃C,y.args.length=C+1:=⟨y.args.length-1,by have:=List.length_pos_iff.2 L;omega⟩
    have ar:y.args[C]?=some (Z:Int):=by
     rw[Ke,ab,XD]at aD;exact aD
    obtain⟨x0,s0,a6,a7,aE⟩:∃(x0:Nat)(s0:Sp),y.args[0]?=some (x0:Int)/\W[x0]?=some s0/\s0.1=nx:=by
     cases hy:y.args with
     |nil=>exact absurd hy L
     |cons v r=>
      rw[hy]at ai;obtain⟨x0,s0,rfl,h1,h2,_⟩:=VY ai;exact⟨x0,s0,qe,h1,h2⟩
    have aR:Hid (FW x.exprs d y=(x.exprs.take (Z+1)).all (Es d)):=zmM aD;obtain⟨ba,oa,ea,_,g0⟩:=G.get a6;subst ea;obtain⟨b4,bX,bp,_,gl⟩:=G.get ar;cases bp;have b6:=bz.o;rw[ab]at c3;have z0:(0:Int)<(C:Int)+1:=qd;have z1:¬(C:Int)+1=0:=qd;have z2:(0:Int)<((C+1:Nat):Int):=qd;have z3:(((C+1:Nat):Int)==0)=false:=by simp;omega
    have z4:(((C:Int)+1)==0)=false:=by simp;omega
    have aU:=λo=>zab (Ez o) g0;have bq:=λo=>zab (Ez o) O.2.2.2.1;have aT:=Aa (λo=>(K.J (AW o)));clear O L ai aD hq;simp only[YJ]at g0 aU;go_wp2;obtain⟨bV,br⟩:=Ak (G) gl;clear z1 z3 z4 gl a6 ar g0 c0 c1 c2 c3 G;have hz:=λn=>SI m s x.exprs W x0 s0 ((wr.alloc (.cells #[.int .i64 y.kind,.int .i64 y.k,.string y.ak,.slice (some ⟨ba,oa,none⟩) (C+1) N] 227)).drewN n) ((aT.o _).J (Fo Aj)) aX.o a7;have HZ:=Aa hz;clear hz
    go_quiet (first|(go_at_call 236;refine Wf (HZ.o _)))
    rw[aE];clear aU bq aT aE a7 HZ z0 z2;go_wp2;obtain⟨wa,rfl⟩:∃u,u=wr:=⟨wr,rfl⟩
    go_loopw [11] (λkv aY=>∃(j:Nat),nx<=j/\j<=Z+1/\kv=.int .i64 (j:Int)/\(x.exprs.take j).all (Es d)=true/\aY.cell? ⟨wa.heap.size,3,none⟩=some (.slice (some ⟨ba,oa,none⟩) (C+1) N)/\Bw wa aY) (λkv _=>Z+1-(intOf kv).toNat)
    case atStart=>exact⟨nx,yX _,qd,rfl,aK.o,qk,Fo Af⟩
    case round=>
     obtain⟨j,bN,bY,rfl,ah,aH,Y⟩:=hrel;have av:=Aa ah;clear ah;have I:Bw w wr:=hb.aj Y;have bm:=HBX.o.J Y;have b7:=zab Y br.o;have bZ:IntKind.i64.wrap ((C:Int)+1-1)=(C:Int):=by rw[show(C:Int)+1-1=(C:Int) by omega,yS];omega
     have bW:IntKind.i64.wrap (((C+1:Nat):Int)-1)=(C:Int):=by rw[show((C+1:Nat):Int)-1=(C:Int) by omega,yS];omega
     have bP:IntKind.i64.wrap (C:Int)=(C:Int):=by rw[yS];omega
     have y0:(0:Int)<=(C:Int):=qd;have y1:(C:Int)<((C+1:Nat):Int):=qd;have y2:(C:Int)<(C:Int)+1:=qd;by_cases aW:j<=Z
     .obtain⟨e,aw⟩:∃e,x.exprs[j]?=some e:=⟨x.exprs[j]'(by omega),qe⟩
      obtain⟨be,oe,ee,bU,e0,e1,e2,e3,e4,e5,e6,e7⟩:=(K.J I).get aw;subst ee;obtain⟨r0,r1,r2,r3,r4⟩:=bm;have v0:(0:Int)<=(j:Int):=qd;have v1:(j:Int)<(x.exprs.length:Int):=qd;have v2:(j:Int)<=(Z:Int):=qd;have hsz:=Y.size;have bS:=λo=>zab (Ez o) r2;clear r0 r1 r2 r4;by_cases ek:e.kind=1
      .rw[ek]at e0;have hI:=Aa (λw' h=>UO e.var a c d w' (q:=none) h qd);cases hm:BI e.var d
       all_goals
        rw[hm]at hI;go_wp2_with (go_at_call 106;refine(hI.o _ ((R.o.J Y).J Af)).ac ?_;rintro e' w1 ⟨rfl,rfl⟩)
       .have HX:Hid (A7 x=some (x.af.length+1+k)):=show A7 x=_ from by
         rw[HN.o,HG.o,HD.o,GA,aR.o,zij aw qd (show Es d e=false by simp[Es,ek,hm])];rfl
        go_ret;exact⟨E_ (by rw[HX.o];simp[IE];omega),I.alloc I.size _⟩
       have HJ:Hid ((x.exprs.take (j+1)).all (Es d)=true):=show(x.exprs.take (j+1)).all (Es d)=true from by rw[ji aw,av.o];simp[Es,hm]
       exact np
      have HJ:Hid ((x.exprs.take (j+1)).all (Es d)=true):=show(x.exprs.take (j+1)).all (Es d)=true from by rw[ji aw,av.o];simp[Es,ek]
      go_wp2;exact np
     have aQ:j=Z+1:=qd;have v2:¬(j:Int)<=(Z:Int):=qd;have HX:Hid (G_ x d=Di (FW x.exprs d) (x.ao.drop (k+1)) (x.af.length+1+(k+1))):=show G_ x d=_ from by
      rw[HG.o,HD.o,GA,aR.o,<-aQ,av.o];rfl
     clear bm;go_wp2;go_roundw
     case rel=>exact⟨k+1,nx',qd,ql,HX.o,aI.o,by rw[bd,<-aQ];exact av.o,R.o.J Y,HBX.o.J Y,I⟩
     case measure=>simp[intOf];omega
   exact nB
def L_(a r s k):FT a (r::s) k=if(Br a r).1=0 then FT (a++[r]) s (k+1) else((Br a r).1,(k:Int),(Br a r).2):=rfl
def LA(p:Int × Int × Int):Value:=.agg #[.int .i64 p.1,.int .i64 p.2.1,.int .i64 p.2.2]
def iC(h:P:=by
 first
  | (have _:=tP6
     have HX:Hid (Bh rs=FT (rs.take (k+1)) (rs.drop (k+1)) (k+1)):=show Bh rs=_ from by rw[HG.o,HD.o,L_,hp,if_pos hp0,HT.o]
     subst hp0)
  | (have HX:Hid (Bh rs=(p1,(k:Int),p2)):=show Bh rs=_ from by rw[HG.o,HD.o,L_,hp,if_neg hp0]
     have aj:(p1 != 0)=true:=by simpa using hp0)
 go_wp2
 first
 |(go_region_held3 (λw'=>At w' wr.heap.size 0 (.string x.name)/\At w' wr.heap.size 1 (I6 x.aH)/\At w' wr.heap.size 2 (.slice a_pats x.af.length c_pats)/\At w' wr.heap.size 3 (.slice a_exprs x.exprs.length c_exprs)/\At w' wr.heap.size 4 (.slice a_acts x.ao.length c_acts)) ((go_split_ands;refine⟨?_,?_,?_,?_,?_⟩<;>first|(simp[go_sem];done)|exact zab hb' (by assumption))) (first|(go_at_call 85;refine(hCK.o _ ((hBw _).drew)).an λw' hb'=>?_)|fail))
 |fail
 have hW:Bw wr w':=(hBw _).drew.j (hb'.ac (by have:=(hBw (.map #[] 0)).size;simp))
 first
  |(have _:=tP6)
  | (have O:=zab hW y0
     have ah:=zab hW y1;have Y:=zab hW y2;have am:w'.frozen? ⟨w.heap.size,0,none⟩=false:=by rw[(Ah hW).2 _ _ hws];exact f0
     have ai:w'.frozen? ⟨w.heap.size,1,none⟩=false:=by rw[(Ah hW).2 _ _ hws];exact f1
     have ak:w'.frozen? ⟨w.heap.size,2,none⟩=false:=by rw[(Ah hW).2 _ _ hws];exact f2)
 go_wp2
 first
  | (have _:=tP6
     go_roundw
     case rel=>exact⟨k+1,by omega,by go_num,HX.o,yh hws hW.size,λj hj=>zab hW (HY.o.1 j hj),λj=>by rw[(Ah hW).2 _ _ hws];exact HY.o.2 j,hb.aj hW⟩
     case measure=>(simp;omega))
  | (have af:=hb.aj hW
     refine bodyPost_ret (v:=.agg #[I6 p1,I6 (k:Int),I6 p2]) (by simp[results,results41,go_sem,O,ah,Y]) rfl ⟨by rw[HX.o];rfl,?_⟩;exact((af.setCell AA _).setCell AA _).setCell AA _)
 ):=h
def mP(a c rs){q}(w)(hv:Do q w a rs)(E:rs.length<=c)(ai:CP Ru.le 1048576 rs)(t:∀x∈rs,GW x.exprs) :
  Ca 41 #[.slice a rs.length c] w λe w'=>e=.returned (LA (Bh rs))/\Bw w w':=by
 obtain⟨hl,ai⟩:=ai;by_cases H:16<rs.length
 .have ak:(16:Int)<(rs.length:Int):=qd;have m:Hid (Bh rs=(1,0,0)):=show Bh rs=_ from by unfold Bh;rw[if_neg qd]
  go_enter func41,ntmps41;go_wp2;refine bodyPost_ret (v:=.agg #[I6 1,I6 0,I6 0]) (by simp[results,results41,go_sem]) rfl ⟨by rw[m.o];rfl,Af⟩
 have ak:¬(16:Int)<(rs.length:Int):=qd;have m:Hid (Bh rs=FT [] rs 0):=show Bh rs=_ from by unfold Bh;rw[if_pos qd]
 go_enter func41,ntmps41;go_wp2
 go_loopw [13] (λi wr=>∃(k:Nat),k<=rs.length/\i=I6 k/\Bh rs=FT (rs.take k) (rs.drop k) k/\w.heap.size<wr.heap.size/\(∀j,j<3->At wr w.heap.size j (I6 0))/\(∀j,wr.frozen? ⟨w.heap.size,j,none⟩=false)/\Bw w wr) (mz rs.length)
 case atStart=>exact⟨0,qd,rfl,by rw[m.o];rfl,qe,λj hj=>qR,λj=>qk,Af⟩
 case round=>
  obtain⟨k,A,rfl,n,hws,f,O,hb⟩:=hrel;have HG:=Aa n;clear n;have y0:=f 0 qd;have y1:=f 1 qd;have y2:=f 2 qd;have f0:=O 0;have f1:=O 1;have f2:=O 2;have HY:=Aa (And.intro f O);clear f O;by_cases u:k<rs.length
  .obtain⟨x,Y⟩:=AJ u;have aj:=hv.J hb;obtain⟨b,o,a_pats,c_pats,a_exprs,c_exprs,a_acts,c_acts,rfl,y,C,B,K,z,G,af,d,ah,am⟩:=aj.get Y;have s:=ai x (yd Y);have ao:=t x (yd Y);have HD:Hid (rs.drop k=x::rs.drop (k+1)):=Ck Y;have HT:Hid (rs.take (k+1)=rs.take k++[x]):=GC rs k x Y;have g:(rs.take k).length=k:=by simp;omega
   have hBw:∀o,Bw wr (wr.alloc o):=λo=>Af;have r:∀o,Bw w (wr.alloc o):=λo=>hb.alloc hb.size _;have hCK:=Aa (λw'(l:Bw wr w')=>vh x a_pats c_pats a_exprs c_exprs a_acts c_acts (some ⟨b,o,none⟩) c (rs.take k) (q:=q) w' (Bq.take (aj.J l) k) (af.J l) (d.J l) (ah.J l) s ao am qd);rw[g]at hCK;have I:(0:Int)<=(k:Int):=qd;have D:(k:Int)<=(c:Int):=qd;obtain⟨⟨p1,p2⟩,hp⟩:∃p,Br (rs.take k) x=p:=⟨_,rfl⟩
   rw[hp]at hCK;by_cases hp0:p1=0
   .have tP6:=trivial;exact iC
   exact iC
  have HX:Hid (Bh rs=(0,0,0)):=show Bh rs=_ from by rw[HG.o,yD qd];rfl
  go_wp2;refine bodyPost_ret (v:=.agg #[I6 0,I6 0,I6 0]) (by simp[results,results41,go_sem,y0,y1,y2]) rfl ⟨Ny,?_⟩;exact((hb.setCell AA _).setCell AA _).setCell AA _
end
end Go.Proofs.YtikojfajahnhgaaGreat
