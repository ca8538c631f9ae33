import Derived.Test.YtikojfajahnhgaaGreatKac
import Derived.Test.YtikojfajahnhgaaGreatKae
set_option linter.all false
set_option maxHeartbeats 8000000
set_option maxRecDepth 100000
namespace Go.Proofs.YtikojfajahnhgaaGreat
open Go.RowKit Go.Proofs.Tryz
attribute [local go_sem ↓] wp_at_zero wp_at_succ
attribute [local simp] At I6 Pn mzI Bk
attribute [local go_sem] At I6 Pn Bk
variable{P:Prop}
def zkn{es S}(h:Bt es S){i:Nat}{s}(a:S[i]?=some s):s.1<=es.length:=by
 have:=h.bf i s a;have b:i<S.length:=(yf.1 a).1;have:=h.1;omega
def zkb{w:Aa}{b g o i x}(h:b≠g):(w.setCell ⟨g,i,none⟩ x).cell? ⟨b,o,none⟩=w.cell? ⟨b,o,none⟩:=by
 unfold World.cell?;rw[yD _ _ _ _ h]
def MJ{S x r nx}:EU S (x::r) nx=if decide (0<=x)&&(decide (x<(S.length:Int))&&decide ((S[x.toNat]?.getD (0,0)).1=nx)) then EU S r (x.toNat+1) else none:=rfl
def K4(h:P:=by
 go_enter func235,ntmps235;go_wp2_with (go_at_call 265;refine(Nt y.E _ hcl).j ?_;rintro e w' ⟨rfl,rfl⟩)
 all_goals go_ret
 all_goals exact⟨Ba (by rw[G.o,O.o];rfl),B0 _ _,λnx' h=>(by rw[G.o,O.o]at h;cases h),FZ _ _⟩
 ):=h
def zln(x:Ru)(i d a c m g y l f pb nx S w)(hcl:y.E.size<=maxLen)(J:y.args.length<=1048576)(H:w.frozen? ⟨pb,0,none⟩=false)(r:pb<w.heap.size)(b:(Et y&&decide (y.args.length<=6))=false) :
  Ca 235 #[.agg #[.string x.name,I6 x.aq,.slice i x.x.length d,.slice a x.A.length c,.slice m x.K.length g],.agg #[I6 y.w,I6 y.k,.string y.E,.slice l y.args.length f],Pn pb] w λe w'=>
   e=.returned (.bool (CM S y nx).isSome)/\Below pb w w'/\(∀nx',CM S y nx=some nx'->nx'<=60/\At w' pb 0 (I6 (nx':Int)))/\w'.frozen? ⟨pb,0,none⟩=false:=by
 have B0:∀o o',Below pb w ((w.alloc o).alloc o'):=λo o'=>(Au.alloc qd _).alloc qe _;have FZ:∀o o',((w.alloc o).alloc o').frozen? ⟨pb,0,none⟩=false:=λo o'=>by rw[(AU (NP o o')).2 pb 0 r];exact H
 obtain⟨G⟩:Nonempty (Hid (CM S y nx=if Et y&&decide (y.args.length<=6) then EU S y.args nx else none)):=⟨rfl⟩
 have O:Hid ((Et y&&decide (y.args.length<=6))=false):=b;by_cases z:6<y.args.length
 .have M:=Hk z;by_cases u:y.w<1
  .exact K4
  by_cases v:4<y.w;rotate_left;rotate_left
  all_goals
   go_enter func235,ntmps235;go_wp2_with (go_at_call 265;refine(Nt y.E _ hcl).j ?_;rintro e w' ⟨rfl,rfl⟩)
   all_goals go_ret
   all_goals exact⟨Ba (by rw[G.o,O.o];rfl),B0 _ _,λnx' h=>(by rw[G.o,O.o]at h;cases h),FZ _ _⟩
 have M:=FN z;by_cases u:y.w=1
 .cases C:DS y.E
  .exact K4
  by_cases D:y.k=0
  .exfalso;simp[Et,u,C,D]at b;omega
  exact K4
 by_cases I:y.w=2
 .by_cases p:0<y.args.length
  .have s:=Hk p;exact K4
  have s:=FN p;cases he:y.E.toList.isEmpty
  .exact K4
  by_cases t:y.k < -1000000
  .exact K4
  by_cases L:1000000<y.k
  .exact K4
  exfalso;have q:y.args=[]:=YJ qd;have n:y.E.toList=[]:=TZ;simp[Et,I,DA,n,q,OS]at b;omega
 by_cases B:y.w=3
 .cases he:y.E.toList.isEmpty
  .exact K4
  by_cases t:y.k < -1000000
  .exact K4
  by_cases L:1000000<y.k
  .exact K4
  exfalso;have n:y.E.toList=[]:=TZ;simp[Et,B,DA,n,OS]at b;omega
 by_cases v:y.w=4
 .by_cases p:0<y.args.length
  .have s:=Hk p;exact K4
  have s:=FN p;cases he:y.E.toList.isEmpty
  .exact K4
  by_cases t:y.k=0
  .exfalso;have q:y.args=[]:=YJ qd;have n:y.E.toList=[]:=TZ;simp[Et,v,DA,n,q,t]at b
  exact K4
 by_cases N:y.w<1;rotate_left
 focus
  have R:4<y.w:=qd
 rotate_left
 all_goals
  go_enter func235,ntmps235;go_wp2_with (go_at_call 265;refine(Nt y.E _ hcl).j ?_;rintro e w' ⟨rfl,rfl⟩)
  all_goals go_ret
  all_goals exact⟨Ba (by rw[G.o,O.o];rfl),B0 _ _,λnx' h=>(by rw[G.o,O.o]at h;cases h),FZ _ _⟩
def jG(h:P:=by go_wp2;go_ret;exact⟨Ba (by rw[HN.o];rfl),GH O,λnx' h=>(by rw[HN.o]at h;cases h),af⟩):=h
def uz(h:P:=by
 have B0:∀o o',Below pb w ((w.alloc o).alloc o'):=λo o'=>(Au.alloc (by omega) _).alloc (by simp;omega) _;have FZ:∀o o',((w.alloc o).alloc o').frozen? ⟨pb,0,none⟩=false:=λo o'=>by rw[(AU (NP o o')).2 pb 0 hpw];exact hf
 obtain⟨G⟩:Nonempty (Hid (CM S y nx=if Et y&&decide (y.args.length<=6) then EU S y.args nx else none)):=⟨rfl⟩
 have ah:(Et y&&decide (y.args.length<=6))=true:=hok;have HF:Hid ((Et y&&decide (y.args.length<=6))=true):=ah;simp only[ym,decide_eq_true_eq]at ah;obtain⟨_,hn⟩:=ah;have ay:¬(6:Int)<(y.args.length:Int):=by omega
 obtain⟨HV⟩:Nonempty (Hid (EI q w0 a_exprs x.A/\CJ q w0 a_args y.args)):=⟨⟨h_exprs,h_args⟩⟩
 clear hok;go_enter func235,ntmps235
 first
  | (have _:=tP
     go_wp2_with (go_at_call 265;refine(Nt y.E _ hcl).j ?_;rintro e w' ⟨rfl,rfl⟩))
  |(go_wp2_with (go_at_call 265;refine(Nt y.E _ _hcl).j ?_;rintro e w' ⟨rfl,rfl⟩))
 go_loopw [90] (λi wr=>∃(k nk:Nat),k<=y.args.length/\i=.int .i64 k/\nk<=60/\EU S y.args nx=EU S (y.args.drop k) nk/\wr.cell? ⟨pb,0,none⟩=some (.int .i64 (nk:Int))/\wr.frozen? ⟨pb,0,none⟩=false/\wr.cell? ⟨w.heap.size,3,none⟩=some (.slice a_exprs x.A.length c_exprs)/\Below pb w wr) (mz y.args.length)
 case atStart=>exact⟨0,nx,by omega,rfl,hnx,rfl,by rw[(AU Br).1 pb 0 hpw];exact hp,FZ _ _,by simp[go_sem],B0 _ _⟩
 case round=>
  obtain⟨k,nk,hk,rfl,aq,hG,aj,af,ao,O⟩:=hrel;have HG:Hid (EU S y.args nx=EU S (y.args.drop k) nk):=hG;clear hG;have ax:pb<wr.heap.size:=yg hpw O.size;have hB:Bw w0 wr:=hb0.c (O.j hpb);by_cases ak:k<y.args.length
  .obtain⟨v,ai⟩:=Bq ak;have HA:=HV.2.e hB;have HE:=HV.1.e hB;obtain⟨b,o,ea,hq,c0⟩:=HA.get ai;subst ea;have HD:Hid (y.args.drop k=v::y.args.drop (k+1)):=Dx ai;obtain⟨z0,z1⟩:=CZ ak;have B1:Bw wr wr.drew:=Au.drew;by_cases v0:v<0
   .have HN:Hid (CM S y nx=none):=show CM S y nx=none from by
     rw[G.o,HF.o,if_pos rfl,HG.o,HD.o,MJ,decide_eq_false (by omega)];rfl
    go_wp2
    go_quiet (fail)
    exact jG
   by_cases v1:(x.A.length:Int)<=v
   .have HN:Hid (CM S y nx=none):=show CM S y nx=none from by
     rw[G.o,HF.o,if_pos rfl,HG.o,HD.o,MJ,decide_eq_false (p:=v<(S.length:Int)) (by omega)];simp
    have d0:decide (v<0)=false:=decide_eq_false v0;go_wp2
    go_quiet (fail)
    exact jG
   obtain⟨vn,rfl⟩:=Yk (show 0<=v by omega);have aw:vn<S.length:=by omega
   obtain⟨s,hs⟩:∃s,S[vn]?=some s:=⟨S[vn],by simp⟩
   have hsl:=zkn hS hs;cases e3:((s.1:Int) != (nk:Int))
   .have HN:Hid (CM S y nx=EU S (y.args.drop (k+1)) (vn+1)):=show CM S y nx=_ from by
     have:s.1=nk:=by(simp at e3;omega)
     rw[G.o,HF.o,if_pos rfl,HG.o,HD.o,MJ,decide_eq_true (by omega),decide_eq_true (by omega),YG,hs,YE,decide_eq_true this];rfl
    have HM:Hid (EU S y.args nx=EU S (y.args.drop (k+1)) (vn+1)):=show EU S y.args nx=_ from by
     have:=HN.o;rw[G.o,HF.o,if_pos rfl]at this;exact this
    have d0:decide ((vn:Int)<0)=false:=decide_eq_false (by omega);have d1:decide ((x.A.length:Int)<=(vn:Int))=false:=decide_eq_false (by omega);have d2:decide (x.A.length<=vn)=false:=decide_eq_false (by omega);go_wp2
    go_quiet (first|(go_at_call 236;refine Y5 (VQ a_exprs c_exprs x.A S vn s _ (HE.e ?_) hS hs);exact GH Au))
    go_wp2;go_roundw
    case rel=>
     refine⟨k+1,vn+1,by omega,by go_num,by omega,HM,?_,?_,?_,?_⟩
     .have au:(wr.drewN nq).cell? ⟨pb,0,none⟩=some (.int .i64 (nk:Int)):=aj;simp[go_sem,au]
     .have am:(wr.drewN nq).frozen? ⟨pb,0,none⟩=false:=af;simp[go_sem,am]
     .have ar:(wr.drewN nq).cell? ⟨w.heap.size,3,none⟩=some (.slice a_exprs x.A.length c_exprs):=ao;have hne:w.heap.size≠pb:=by omega
      rw[zkb hne];exact ar
     .exact(GH O).setCell Bg _
    case measure=>(simp;omega)
   have HN:Hid (CM S y nx=none):=show CM S y nx=none from by
    have:¬s.1=nk:=by(simp at e3;omega)
    rw[G.o,HF.o,if_pos rfl,HG.o,HD.o,MJ,YG,hs,YE,decide_eq_false this];simp
   have d0:decide ((vn:Int)<0)=false:=decide_eq_false (by omega);have d1:decide ((x.A.length:Int)<=(vn:Int))=false:=decide_eq_false (by omega);have d2:decide (x.A.length<=vn)=false:=decide_eq_false (by omega);go_wp2
   go_quiet (first|(go_at_call 236;refine Y5 (VQ a_exprs c_exprs x.A S vn s _ (HE.e ?_) hS hs);exact GH Au))
   exact jG
  go_wp2;go_ret;have e0:y.args.drop k=[]:=yH (by omega);have HN:CM S y nx=some nk:=by
   rw[G.o,HF.o,if_pos rfl,HG.o,e0];rfl
  exact⟨Ba (by rw[HN];rfl),O,λnx' h=>(by rw[HN]at h;injection h with h;subst h;exact⟨aq,aj⟩),af⟩
 ):=h
def zjd(x:Ru)(d a a_exprs c_exprs l g y a_args f)(pb nx:Nat)(S){q}(w0 w)(hb0:Bw w0 w)(h_exprs:EI q w0 a_exprs x.A)(h_args:CJ q w0 a_args y.args)(hS:Bt x.A S)(m:S.length=x.A.length)(O:x.A.length<=60)(hcl:y.E.size<=maxLen)(n:y.args.length<=1048576)(hp:w.cell? ⟨pb,0,none⟩=some (.int .i64 (nx:Int)))(hf:w.frozen? ⟨pb,0,none⟩=false)(hpb:w0.heap.size<=pb)(hpw:pb<w.heap.size)(hnx:nx<=60)(hok:(Et y&&decide (y.args.length<=6))=true)(r:y.w=1)(t:DS y.E=true)(u:y.k=0) :
  Ca 235 #[.agg #[.string x.name,.int .i64 x.aq,.slice d x.x.length a,.slice a_exprs x.A.length c_exprs,.slice l x.K.length g],.agg #[.int .i64 y.w,.int .i64 y.k,.string y.E,.slice a_args y.args.length f],.pointer (some ⟨pb,0,none⟩)] w λe w'=>
   e=.returned (.bool (CM S y nx).isSome)/\Below pb w w'/\(∀nx',CM S y nx=some nx'->nx'<=60/\w'.cell? ⟨pb,0,none⟩=some (.int .i64 (nx':Int)))/\w'.frozen? ⟨pb,0,none⟩=false:=by
 have tP:=trivial;exact uz
def uy(h:P:=by
 have B0:∀o o',Below pb w ((w.alloc o).alloc o'):=λo o'=>(Au.alloc (by omega) _).alloc (by simp;omega) _;have FZ:∀o o',((w.alloc o).alloc o').frozen? ⟨pb,0,none⟩=false:=λo o'=>by rw[(AU (NP o o')).2 pb 0 hpw];exact hf
 obtain⟨G⟩:Nonempty (Hid (CM S y nx=if Et y&&decide (y.args.length<=6) then EU S y.args nx else none)):=⟨rfl⟩
 have O:(Et y&&decide (y.args.length<=6))=true:=hok;have HF:Hid ((Et y&&decide (y.args.length<=6))=true):=O;simp only[ym,decide_eq_true_eq]at O;obtain⟨_,hn⟩:=O;have aq:¬(6:Int)<(y.args.length:Int):=by omega
 obtain⟨HV⟩:Nonempty (Hid (EI q w0 a_exprs x.A/\CJ q w0 a_args y.args)):=⟨⟨h_exprs,h_args⟩⟩
 clear hok;go_enter func235,ntmps235;go_wp2_with (go_at_call 265;refine(Nt y.E _ _hcl).j ?_;rintro e w' ⟨rfl,rfl⟩)
 go_loopw [90] (λi wr=>∃(k nk:Nat),k<=y.args.length/\i=.int .i64 k/\nk<=60/\EU S y.args nx=EU S (y.args.drop k) nk/\wr.cell? ⟨pb,0,none⟩=some (.int .i64 (nk:Int))/\wr.frozen? ⟨pb,0,none⟩=false/\wr.cell? ⟨w.heap.size,3,none⟩=some (.slice a_exprs x.A.length c_exprs)/\Below pb w wr) (λi _=>y.args.length-(intOf i).toNat)
 case atStart=>exact⟨0,nx,by omega,rfl,hnx,rfl,by rw[(AU Br).1 pb 0 hpw];exact hp,FZ _ _,by simp[go_sem],B0 _ _⟩
 case round=>
  obtain⟨k,nk,hk,rfl,aj,hG,ah,ai,am,af⟩:=hrel;have HG:Hid (EU S y.args nx=EU S (y.args.drop k) nk):=hG;clear hG;have ao:pb<wr.heap.size:=yg hpw af.size;have hB:Bw w0 wr:=hb0.c (af.j hpb);have ak:¬k<y.args.length:=by omega
  go_wp2;go_ret;have e0:y.args.drop k=[]:=yH (by omega);have HN:CM S y nx=some nk:=by
   rw[G.o,HF.o,if_pos rfl,HG.o,e0];rfl
  exact⟨Ba (by rw[HN];rfl),af,λnx' h=>(by rw[HN]at h;injection h with h;subst h;exact⟨aj,ah⟩),ai⟩
 ):=h
def zjq(x:Ru)(b a a_exprs c_exprs g f y a_args d)(pb nx:Nat)(S){q}(w0 w)(hb0:Bw w0 w)(h_exprs:EI q w0 a_exprs x.A)(h_args:CJ q w0 a_args y.args)(_hS:Bt x.A S)(_hSl:S.length=x.A.length)(_hle:x.A.length<=60)(_hcl:y.E.size<=maxLen)(l:y.args.length<=1048576)(hp:w.cell? ⟨pb,0,none⟩=some (.int .i64 (nx:Int)))(hf:w.frozen? ⟨pb,0,none⟩=false)(hpb:w0.heap.size<=pb)(hpw:pb<w.heap.size)(hnx:nx<=60)(hok:(Et y&&decide (y.args.length<=6))=true)(m:y.w=2)(n:y.E.toList.isEmpty=true)(r:¬y.k < -1000000)(s:¬1000000<y.k)(O:¬(0:Int)<(y.args.length:Int)) :
  Ca 235 #[.agg #[.string x.name,.int .i64 x.aq,.slice b x.x.length a,.slice a_exprs x.A.length c_exprs,.slice g x.K.length f],.agg #[.int .i64 y.w,.int .i64 y.k,.string y.E,.slice a_args y.args.length d],.pointer (some ⟨pb,0,none⟩)] w λe w'=>
   e=.returned (.bool (CM S y nx).isSome)/\Below pb w w'/\(∀nx',CM S y nx=some nx'->nx'<=60/\w'.cell? ⟨pb,0,none⟩=some (.int .i64 (nx':Int)))/\w'.frozen? ⟨pb,0,none⟩=false:=by
 have p:=trivial;exact uy
def zjL(x:Ru)(b a a_exprs c_exprs g f y a_args d)(pb nx:Nat)(S){q}(w0 w)(hb0:Bw w0 w)(h_exprs:EI q w0 a_exprs x.A)(h_args:CJ q w0 a_args y.args)(_hS:Bt x.A S)(_hSl:S.length=x.A.length)(_hle:x.A.length<=60)(_hcl:y.E.size<=maxLen)(l:y.args.length<=1048576)(hp:w.cell? ⟨pb,0,none⟩=some (.int .i64 (nx:Int)))(hf:w.frozen? ⟨pb,0,none⟩=false)(hpb:w0.heap.size<=pb)(hpw:pb<w.heap.size)(hnx:nx<=60)(hok:(Et y&&decide (y.args.length<=6))=true)(n:y.w=4)(m:y.E.toList.isEmpty=true)(p:y.k=0)(O:¬(0:Int)<(y.args.length:Int)) :
  Ca 235 #[.agg #[.string x.name,.int .i64 x.aq,.slice b x.x.length a,.slice a_exprs x.A.length c_exprs,.slice g x.K.length f],.agg #[.int .i64 y.w,.int .i64 y.k,.string y.E,.slice a_args y.args.length d],.pointer (some ⟨pb,0,none⟩)] w λe w'=>
   e=.returned (.bool (CM S y nx).isSome)/\Below pb w w'/\(∀nx',CM S y nx=some nx'->nx'<=60/\w'.cell? ⟨pb,0,none⟩=some (.int .i64 (nx':Int)))/\w'.frozen? ⟨pb,0,none⟩=false:=by
 exact uy
def zjD(x:Ru)(d a a_exprs c_exprs l g y a_args f)(pb nx:Nat)(S){q}(w0 w)(hb0:Bw w0 w)(h_exprs:EI q w0 a_exprs x.A)(h_args:CJ q w0 a_args y.args)(hS:Bt x.A S)(m:S.length=x.A.length)(O:x.A.length<=60)(_hcl:y.E.size<=maxLen)(n:y.args.length<=1048576)(hp:w.cell? ⟨pb,0,none⟩=some (.int .i64 (nx:Int)))(hf:w.frozen? ⟨pb,0,none⟩=false)(hpb:w0.heap.size<=pb)(hpw:pb<w.heap.size)(hnx:nx<=60)(hok:(Et y&&decide (y.args.length<=6))=true)(r:y.w=3)(t:y.E.toList.isEmpty=true)(u:¬y.k < -1000000)(z:¬1000000<y.k) :
  Ca 235 #[.agg #[.string x.name,.int .i64 x.aq,.slice d x.x.length a,.slice a_exprs x.A.length c_exprs,.slice l x.K.length g],.agg #[.int .i64 y.w,.int .i64 y.k,.string y.E,.slice a_args y.args.length f],.pointer (some ⟨pb,0,none⟩)] w λe w'=>
   e=.returned (.bool (CM S y nx).isSome)/\Below pb w w'/\(∀nx',CM S y nx=some nx'->nx'<=60/\w'.cell? ⟨pb,0,none⟩=some (.int .i64 (nx':Int)))/\w'.frozen? ⟨pb,0,none⟩=false:=by
 exact uz
def zjj(x:Ru)(i d a b j g y c f)(pb nx:Nat)(S){q}(w0 w)(u:Bw w0 w)(l:EI q w0 a x.A)(m:CJ q w0 c y.args)(hS:Bt x.A S)(t:S.length=x.A.length)(D:x.A.length<=60)(p:y.E.size<=maxLen)(r:y.args.length<=1048576)(C:At w pb 0 (I6 (nx:Int)))(B:w.frozen? ⟨pb,0,none⟩=false)(s:w0.heap.size<=pb)(o:pb<w.heap.size)(v:nx<=60) :
  Ca 235 #[.agg #[.string x.name,I6 x.aq,.slice i x.x.length d,.slice a x.A.length b,.slice j x.K.length g],.agg #[I6 y.w,I6 y.k,.string y.E,.slice c y.args.length f],Pn pb] w λe w'=>
   e=.returned (.bool (CM S y nx).isSome)/\Below pb w w'/\(∀nx',CM S y nx=some nx'->nx'<=60/\At w' pb 0 (I6 (nx':Int)))/\w'.frozen? ⟨pb,0,none⟩=false:=by
 cases n:(Et y&&decide (y.args.length<=6))
 .exact zln x i d a b j g y c f pb nx S w p r B o n
 have L:=n;simp only[ym,decide_eq_true_eq]at L;obtain⟨O,_⟩:=L;have U:y.w=1/\DS y.E=true/\y.k=0∨y.w=2/\y.E.toList.isEmpty=true/\¬y.k < -1000000/\¬1000000<y.k/\¬(0:Int)<(y.args.length:Int)∨y.w=3/\y.E.toList.isEmpty=true/\¬y.k < -1000000/\¬1000000<y.k∨y.w=4/\y.E.toList.isEmpty=true/\y.k=0/\¬(0:Int)<(y.args.length:Int):=by
  unfold Et at O;split at O
  .rename_i h;simp at h O;exact .inl ⟨h,O.1,O.2⟩
  split at O
  .rename_i h;simp[DA,OS]at h O;exact .inr (.inl ⟨h,by simp[O.1.1],qd,qd,by simp[O.2]⟩)
  split at O
  .rename_i h;simp[DA,OS]at h O;exact .inr (.inr (.inl ⟨h,by simp[O.1],qd,qd⟩))
  split at O
  .rename_i h;simp[DA]at h O;exact .inr (.inr (.inr ⟨h,by simp[O.1],O.2.1,by simp[O.2.2]⟩))
  cases O
 rcases U with⟨N,R,G⟩|⟨T,z,I,J,H⟩|⟨M,z,I,J⟩|⟨W,z,G,H⟩
 .exact zjd x i d a b j g y c f pb nx S w0 w u l m hS t D p r C B s o v n N R G
 .exact zjq x i d a b j g y c f pb nx S w0 w u l m hS t D p r C B s o v n T z I J H
 .exact zjD x i d a b j g y c f pb nx S w0 w u l m hS t D p r C B s o v n M z I J
 exact zjL x i d a b j g y c f pb nx S w0 w u l m hS t D p r C B s o v n W z G H
def sA(x:Ru)(a f c d g j){q}(w)(O:Gl q w a x.x)(hl:x.x.length<=1048576) :
  Ca 83 #[.agg #[.string x.name,I6 x.aq,.slice a x.x.length f,.slice c x.A.length d,.slice g x.K.length j]] w λe w'=>
   e=.returned (I6 (Ag x.x:Int))/\Bw w w':=by
 go_enter func83,ntmps83;exact tu
def J8{α}(f)(x:α)(r k):Eu f (x::r) k=if f x then Eu f r (k+1) else some k:=rfl
def Gw:AD->Int
 |none=>0
 |some i=>(i:Int)
def uG(h:P:=by
 have HB:Hid (CU x=some (x.x.length+1+k)):=GD.2 (by
  rcases O with h|h<;>simp[EH,h]<;>omega)
 rcases O with h|h
 all_goals
  go_wp2;go_ret;exact⟨GT (by rw[HB.o];simp[Gw];omega),B1 _⟩
 ):=h
def zkR(x d f m n g j){q}(w)(T:Gl q w d x.x)(N:Ih q w g x.K)(hl:x.x.length<=1048576)(Z:x.K.length<=1048576) :
  Ca 146 #[.agg #[.string x.name,I6 x.aq,.slice d x.x.length f,.slice m x.A.length n,.slice g x.K.length j]] w λe w'=>
   e=.returned (I6 (Gw (CU x)))/\Bw w w':=by
 have aw:Ag x.x<=x.x.length:=Kw;go_enter func146,ntmps146;go_wp2_with (go_at_call 83;refine(sA x d f m n g j _ (T.e Ar) hl).rtn λs af=>?_;have H:At s w.heap.size 2 (.slice d x.x.length f):=zab af ql;have L:At s w.heap.size 4 (.slice g x.K.length j):=zab af ql);have R:Bw w s:=Ar.thn af;have u:w.heap.size<s.heap.size:=by have:=af.size;simp at this;omega
 clear af L
 go_loopw [12] (λi wr=>∃(k:Nat),k<=x.K.length/\i=I6 k/\CU x=Eu (EH (Ag x.x)) (x.K.drop k) (x.x.length+1+k)/\At wr w.heap.size 2 (.slice d x.x.length f)/\w.heap.size<wr.heap.size/\Bw w wr) (mz x.K.length)
 .exact⟨0,qd,rfl,rfl,H,u,R⟩
 obtain⟨k,hk,rfl,D,J,ax,hb⟩:=hrel;have HG:Hid (CU x=Eu (EH (Ag x.x)) (x.K.drop k) (x.x.length+1+k)):=D;clear D;by_cases M:k<x.K.length
 .obtain⟨y,v⟩:=Bq M;obtain⟨b,o,t,p,rfl,U,W,c1,c2,Y,r⟩:=(N.e hb).get v;have z:Hid (x.K.drop k=y::x.K.drop (k+1)):=Dx v;have B1:∀o,Bw w (wr.alloc o):=λo=>hb.alloc hb.size _;have C:∀o,At (wr.alloc o) w.heap.size 2 (.slice d x.x.length f):=λo=>by
   have:Bw wr (wr.alloc o):=Ar;exact zab this J
  have B:∀o,w.heap.size<(wr.alloc o).heap.size:=λo=>by simp;omega
  have good:EH (Ag x.x) y=true->CU x=Eu (EH (Ag x.x)) (x.K.drop (k+1)) (x.x.length+1+(k+1)):=λh=>by
   rw[HG.o,z.o,J8,h];rfl
  have G:EH (Ag x.x) y=false->CU x=some (x.x.length+1+k):=λh=>by
   rw[HG.o,z.o,J8,h];rfl
  obtain⟨GD⟩:Nonempty (Hid ((EH (Ag x.x) y=true->CU x=Eu (EH (Ag x.x)) (x.K.drop (k+1)) (x.x.length+1+(k+1)))/\(EH (Ag x.x) y=false->CU x=some (x.x.length+1+k)))):=⟨⟨good,G⟩⟩
  by_cases O:y.w=2∨y.w=3
  .by_cases r0:y.k<1
   .exact uG
   by_cases r1:(Ag x.x:Int)<y.k
   .exact uG
   have HB:Hid (CU x=Eu (EH (Ag x.x)) (x.K.drop (k+1)) (x.x.length+1+(k+1))):=GD.1 (by
    rcases O with h|h<;>simp[EH,h]<;>omega)
   rcases O with h|h
   all_goals
    go_wp2;exact⟨⟨k+1,qd,qm,HB,C _,B _,B1 _⟩,qe⟩
  have I:(y.w==2)=false:=by simp;omega
  have E:(y.w==3)=false:=by simp;omega
  have HB:Hid (CU x=Eu (EH (Ag x.x)) (x.K.drop (k+1)) (x.x.length+1+(k+1))):=GD.1 (by simp[EH,I,E]);go_wp2;exact⟨⟨k+1,qd,qm,HB,C _,B _,B1 _⟩,qe⟩
 exact tH
section
open Go.Maps
def Q7(v:Value):Option (DataW Unit × List MemPlace):=
 match v with
 |.agg a=>if a.size=0 then some (.lit (.bool true),[]) else none
 |_=>none
def zrv{v z}(h:Q7 v=some z):v=.agg #[]:=by
 unfold Q7 at h;split at h
 .rename_i a;split at h
  .rename_i O;rw[Array.eq_empty_of_size_eq_zero O]
  .cases h
 cases h
def Um:Keyed prog 9:=string_keyed underlying9
def EZ(known:AG)(D:DataW Unit):Prop:=∀s:ByteArray,s.size<=maxLen->has D (.string s.data.toList)=Co s known
def EZ.start:EZ [] (.map []):=λ_ _=>rfl
def zpM(s v a):Co s (a++[v])=(Co s a||decide (v=s)):=by
 simp[Co,List.any_append]
def EZ.put{a D v}(h:EZ a D)(f:IsMap D)(d):EZ (a++[v]) (D.put (.string v.data.toList) d):=by
 intro s c;rw[zpM];by_cases b:v=s
 .subst b;rw[has_put_same f (k:=.string v.data.toList) trivial d,decide_eq_true rfl,Bool.or_true]
 rw[has_put_other (λe=>b (by injection e with e;exact(Go.WideShapes.bytes_inj e).z)) d,h s c,decide_eq_false b,Bool.or_false]
abbrev DT(w:Aa)(b n:Nat)(D:DataW Unit):Prop:=w.ownsMap prog 9 Q7 b n D
def kF(w):(zeroValue 308).run prog w=.ok (.agg #[]) w:=qg
def zqg{w b n D a}(h:DT w b n D)(d:EZ a D){s}(c:s.size<=maxLen) :
  (Instr.lookup 230 (.map (some b)) (.string s) true).run prog w=.ok (.tuple #[.agg #[],.bool (Co s a)]) w:=by
 obtain⟨v,e,O,hv⟩:=h.look_ok Um (t:=230) underlying230 (kF w) (show Q7 (.agg #[])=some (.lit (.bool true),[]) from rfl) (KV underlying9 c);rw[O,d s c,zrv hv]
def ztr(b n D a s w)(h:DT w b n D)(c:EZ a D)(d:s.size<=maxLen) :
  Ca 142 #[.map (some b),.string s] w λe w'=>e=.returned (.bool (Co s a))/\Bw w w':=by
 have hl:=zqg h c d;go_enter func142,ntmps142;go_wp2;go_ret;exact⟨rfl,Ar⟩
def ZP(b n D a s)(c:EZ a D)(d:s.size<=maxLen):Hid (∀w,DT w b n D->Ca 142 #[.map (some b),.string s] w λe w'=>e=.returned (.bool (Co s a))/\Bw w w'):=
 λw h=>ztr b n D a s w h c d
def zpL(b n D d a c es w){q}(h:DT w b n D)(v:EZ d D)(hv:EI q w a es)(hl:es.length<=1048576)(t:∀e∈es,e.F.size<=maxLen) :
  Ca 202 #[.map (some b),.slice a es.length c] w λe w'=>e=.returned (.bool (es.all (E8 d)))/\Bw w w':=by
 go_enter func202,ntmps202;go_wp2
 go_loopw [9] (λi wr=>∃(k:Nat),k<=es.length/\i=I6 k/\es.all (E8 d)=(es.drop k).all (E8 d)/\Bw w wr) (mz es.length)
 .exact TL
 obtain⟨k,M,rfl,y,hb⟩:=hrel;have HG:Hid (es.all (E8 d)=(es.drop k).all (E8 d)):=y;by_cases A:k<es.length
 .obtain⟨e,O⟩:=Bq A;obtain⟨K,o,rfl,B,C,R,L,E,G,I,N,T⟩:=(hv.e hb).get O;have l:Hid (es.drop k=e::es.drop (k+1)):=Dx O;have u:=t e (yd O);have x:=h.lt;have z:Hid (DT wr b n D):=show DT wr b n D from by
   obtain⟨m1,m2,m3,m4⟩:=h;exact⟨m1,m2,(hb.block b x).c m3,m4⟩
  have f:∀o,Bw w (wr.alloc o):=λo=>hb.alloc hb.size _;cases s:(e.w==1)
  .have g:Hid (E8 d e=true):=show E8 d e=true from by simp[E8,s]
   go_wp2;exact⟨⟨k+1,qd,qm,by rw[HG.o,l.o,YR,g.o];rfl,f _⟩,qe⟩
  have g:Hid (E8 d e=Co e.F d):=show E8 d e=_ from by simp[E8,s]
  cases m:Co e.F d
  all_goals
   have r:=ZP b n D d e.F v u;rw[m]at r;go_wp2_with (go_at_call 142;refine(r _ (z.alloc _)).j ?_;rintro J H ⟨rfl,p⟩)
  .go_ret;exact⟨Ba (by rw[HG.o,l.o,YR,g.o,m];rfl),(f _).c (p.j (f _).size)⟩
  go_roundw
  case rel=>exact⟨k+1,qd,qm,by rw[HG.o,l.o,YR,g.o,m];rfl,(f _).c (p.j (f _).size)⟩
  case measure=>(simp;omega)
 exact TQ
end
def MH(y b a c d x)(f:(y.w==1)=b)(g:(y.w==2)=a)(e:(y.w==3)=c)(i:(y.w==4)=d)(h:x=(if b then DS y.E&&y.k==0
  else if a then(y.E.toList.isEmpty&&(decide (-1000000<=y.k)&&decide (y.k<=1000000)))&&((y.args.length:Int)==0)
  else if c then y.E.toList.isEmpty&&(decide (-1000000<=y.k)&&decide (y.k<=1000000))
  else if d then y.E.toList.isEmpty&&(y.k==0&&((y.args.length:Int)==0))
  else false)):x=Et y:=by
 have L:y.args.isEmpty=((y.args.length:Int)==0):=by
  cases y.args with
  |nil=>rfl
  |cons v r=>simp;omega
 rw[h,<-f,<-g,<-e,<-i,<-L];rfl
def uO(h:P:=by
 cases hg:DS y.E
 all_goals
  go_enter func251,ntmps251;go_wp2_with (go_at_call 248;refine(VU y.E _ hcl).j ?_;rintro e w' ⟨rfl,rfl⟩);go_ret;exact⟨Ba (MH y true false false false _ (by simp[k1]) (by simp[k1]) (by simp[k1]) (by simp[k1]) (by simp[hg])),Ar⟩
 ):=h
def iS(y b a w)(hcl:y.E.size<=maxLen) :
  Ca 251 #[.agg #[I6 y.w,I6 y.k,.string y.E,.slice b y.args.length a]] w λe w'=>
   e=.returned (.bool (Et y))/\Bw w w':=by
 cases c:y.E.toList.isEmpty
 .by_cases k1:y.w=1
  .exact uO
  by_cases k2:y.w=2
  .go_enter func251,ntmps251;go_wp2;go_ret;exact⟨Ba (MH y false true false false _ JL JL JL JL (by simp[c])),Ar⟩
  by_cases k3:y.w=3
  .go_enter func251,ntmps251;go_wp2;go_ret;exact⟨Ba (MH y false false true false _ Nz Nz Nz Nz (by simp[c])),Ar⟩
  by_cases k4:y.w=4
  .go_enter func251,ntmps251;go_wp2;go_ret;exact⟨Ba (MH y false false false true _ LD LD LD LD (by simp[c])),Ar⟩
  go_enter func251,ntmps251;go_wp2;go_ret;exact⟨Ba (MH y false false false false _ (by simpa using k1) T5 (by simpa using k3) (by simpa using k4) rfl),Ar⟩
 have i:(-1000000<=y.k/\y.k<=1000000)∨(¬-1000000<=y.k/\y.k<=1000000)∨(-1000000<=y.k/\¬y.k<=1000000):=qd;rcases i with⟨d,f⟩|⟨d,f⟩|⟨d,f⟩
 all_goals
  by_cases k1:y.w=1
  .exact uO
  by_cases k2:y.w=2
  .go_enter func251,ntmps251;go_wp2;go_ret;exact⟨Ba (MH y false true false false _ JL JL JL JL (by simp[c,d,f]<;>intros<;>omega)),Ar⟩
  by_cases k3:y.w=3
  .go_enter func251,ntmps251;go_wp2;go_ret;exact⟨Ba (MH y false false true false _ Nz Nz Nz Nz (by simp[c,d,f]<;>intros<;>omega)),Ar⟩
  by_cases k4:y.w=4
  .by_cases g:y.k=0
   .first
    |(exfalso;omega)
    | (go_enter func251,ntmps251
       go_wp2;go_ret;exact⟨Ba (MH y false false false true _ LD LD LD LD (by simp[c,g])),Ar⟩)
   go_enter func251,ntmps251;go_wp2;go_ret;exact⟨Ba (MH y false false false true _ LD LD LD LD (by simp[c,g])),Ar⟩
  go_enter func251,ntmps251;go_wp2;go_ret;exact⟨Ba (MH y false false false false _ (by simpa using k1) T5 (by simpa using k3) (by simpa using k4) rfl),Ar⟩
def uY(h:P:=by refine bodyPost_ret (v:=.tuple #[I6 (nx:Int),.bool false]) (by simp[results,results200,go_sem]) rfl ⟨⟨nx,by rw[HN.o];rfl,λn h=>(by rw[HN.o]at h;cases h)⟩,Ar.thn hb'⟩):=h
def iu(h:P:=by go_wp2;refine bodyPost_ret (v:=.tuple #[I6 (O:Int),.bool false]) (by simp[results,results200,go_sem]) rfl ⟨⟨O,by rw[HN.o];rfl,λn h=>(by rw[HN.o]at h;cases h)⟩,hb⟩):=h
def zlb(y a c t H S)(nx:Nat){q q'}(w)(d:CJ q w a y.args)(hv:Jz q' w t S)(hl:S.length<=60)(f:y.E.size<=maxLen)(K:y.args.length<=1048576)(r:nx<=60) :
  Ca 200 #[.agg #[I6 y.w,I6 y.k,.string y.E,.slice a y.args.length c],.slice t S.length H,I6 (nx:Int)] w λe w'=>
   (∃v:Int,e=.returned (.tuple #[I6 v,.bool (CM S y nx).isSome])/\∀n,CM S y nx=some n->v=(n:Int)/\n<=60)/\Bw w w':=by
 obtain⟨G⟩:Nonempty (Hid (CM S y nx=if Et y&&decide (y.args.length<=6) then EU S y.args nx else none)):=⟨rfl⟩
 cases l:Et y
 .have HN:Hid (CM S y nx=none):=show CM S y nx=none from by rw[G.o,l];rfl
  go_enter func200,ntmps200;go_wp2_with (go_at_call 251;refine(iS y a c _ f).rtn λw' hb'=>?_);exact uY
 by_cases z:6<y.args.length
 .have D:=Hk z;have HN:Hid (CM S y nx=none):=show CM S y nx=none from by rw[G.o,l,decide_eq_false qd];rfl
  go_enter func200,ntmps200;go_wp2_with (go_at_call 251;refine(iS y a c _ f).rtn λw' hb'=>?_;have C:At w' w.heap.size 3 (.slice a y.args.length c):=zab hb' ql);exact uY
 have D:=FN z;have A:Hid (CM S y nx=EU S y.args nx):=show CM S y nx=_ from by rw[G.o,l,decide_eq_true qd];rfl
 go_enter func200,ntmps200;go_wp2_with (go_at_call 251;refine(iS y a c _ f).rtn λw' hb'=>?_;have C:At w' w.heap.size 3 (.slice a y.args.length c):=zab hb' ql);have J:Bw w w':=Ar.thn hb'
 go_loopw [2,23] (λn i wr=>∃(k O:Nat),k<=y.args.length/\i=I6 k/\n=I6 (O:Int)/\O<=60/\EU S y.args nx=EU S (y.args.drop k) O/\Bw w wr) (λ_ i _=>y.args.length-(intOf i).toNat)
 .exact⟨0,nx,qd,rfl,rfl,r,rfl,J⟩
 obtain⟨k,O,Y,rfl,rfl,I,L,hb⟩:=hrel;have HG:Hid (CM S y nx=EU S (y.args.drop k) O):=show CM S y nx=_ from by rw[A.o,L]
 by_cases B:k<y.args.length
 .obtain⟨v,x⟩:=Bq B;obtain⟨b,o,rfl,M,N⟩:=(d.e hb).get x;have j:Hid (y.args.drop k=v::y.args.drop (k+1)):=Dx x;by_cases R:v<0
  .have HN:Hid (CM S y nx=none):=show CM S y nx=none from by
    rw[HG.o,j.o,MJ,decide_eq_false qd];rfl
   exact iu
  by_cases v1:(S.length:Int)<=v
  .have HN:Hid (CM S y nx=none):=show CM S y nx=none from by
    rw[HG.o,j.o,MJ,decide_eq_false (p:=v<(S.length:Int)) qd];simp
   exact iu
  obtain⟨g,rfl⟩:=Yk (show 0<=v by omega);have U:g<S.length:=qd;obtain⟨s,m⟩:∃s,S[g]?=some s:=⟨S[g],qf⟩
  obtain⟨W,o',rfl,ar,Z,d1⟩:=(hv.e hb).get m;have T:¬S.length<=g:=qd;cases u:((s.1:Int) != (O:Int))
  .have HN:Hid (CM S y nx=EU S (y.args.drop (k+1)) (g+1)):=show CM S y nx=_ from by
    have:s.1=O:=by(simp at u;omega)
    rw[HG.o,j.o,MJ,decide_eq_true qd,decide_eq_true qd,YG,m,YE,decide_eq_true this];rfl
   go_wp2;go_roundw
   case rel=>
    exact⟨k+1,g+1,qd,qm,qm,qd,by rw[<-A.o,HN.o],hb⟩
   case measure=>simp[intOf];omega
  have HN:Hid (CM S y nx=none):=show CM S y nx=none from by
   have:¬s.1=O:=by(simp at u;omega)
   rw[HG.o,j.o,MJ,YG,m,YE,decide_eq_false this];simp
  exact iu
 have HN:Hid (CM S y nx=some O):=show CM S y nx=_ from by
  exact TM
 go_wp2;refine bodyPost_ret (v:=.tuple #[I6 (O:Int),.bool true]) (by simp[results,results200,go_sem]) rfl ⟨⟨O,by rw[HN.o];rfl,λn h=>(by rw[HN.o]at h;injection h with h;subst h;exact⟨rfl,I⟩)⟩,hb⟩
end Go.Proofs.YtikojfajahnhgaaGreat
