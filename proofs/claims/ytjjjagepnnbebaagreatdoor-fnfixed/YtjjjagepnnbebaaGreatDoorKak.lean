/-
  OUR OWN TEXT. Sc3a0, Sc3a, Sc3b1, Sc3b2, Sc3b3, one behind the other.
-/
import Derived.Test.YtjjjagepnnbebaaGreatDoorSc1m
import Derived.Test.YtjjjagepnnbebaaGreatDoorSc2m
import Derived.Deep.RegionHeld3
import Derived.Deep.DrawnRows
import Derived.BigQuiet
set_option maxHeartbeats 8000000
namespace Go.Proofs.YtjjjagepnnbebaaGreatDoor
open Go.RowKit
attribute [local go_sem ↓] Go.wp_at_zero Go.wp_at_succ
theorem zfm{es:List Ex}{S:List Sp}(h:Spans es S){i:Nat}{s:Sp}(hi:S[i]?=some s):s.1<=es.length:=by
 have:=h.first_le i s hi;have h1:i<S.length:=(List.getElem?_eq_some_iff.1 hi).1;have:=h.1;omega
theorem zbv{B n:Nat}{a w:World}(h:Below B a w):Below B a (w.drewN n):=⟨h.os,h.tape,h.output,h.size,h.block⟩
theorem zff{w:World}{b g o i:Nat}{x:Value}(h:b≠g):(w.setCell ⟨g,i,none⟩ x).cell? ⟨b,o,none⟩=w.cell? ⟨b,o,none⟩:=by
 unfold World.cell?;rw[Below.heap_setCell _ _ _ _ h]
theorem zbg{S:List Sp}{x:Int}{r:List Int}{nx:Nat}:zaT S (x :: r) nx=if decide (0<=x) && (decide (x<(S.length:Int)) && decide ((S[x.toNat]?.getD (0,0)).1=nx)) then zaT S r (x.toNat+1) else none:=rfl
theorem zjJ(x:Ru)(a_pats:Option Addr)(c_pats:Nat)(a_exprs:Option Addr)(c_exprs:Nat)(a_acts:Option Addr)(c_acts:Nat)(y:Ac)(a_args:Option Addr)(c_args:Nat)(pb nx:Nat)(S:List Sp)(w:World)
  (E:y.cls.size<=maxLen) (ag:y.args.length<=1048576)
  (hf:w.frozen? ⟨pb,0,none⟩=false) (af:pb<w.heap.size) (Z:(zav y && decide (y.args.length<=6))=false) :
  Calls Tryz.prog 67 #[.agg #[.string x.name,.int .i64 x.sal,.slice a_pats x.pats.length c_pats,.slice a_exprs x.exprs.length c_exprs,.slice a_acts x.acts.length c_acts],.agg #[.int .i64 y.kind,.int .i64 y.k,.string y.cls,.slice a_args y.args.length c_args],.pointer (some ⟨pb,0,none⟩)] w fun e w'=>
   e=.returned (.bool (gAc S y nx).isSome)/\Below pb w w'/\(∀ nx',gAc S y nx=some nx'->nx'<=60/\w'.cell? ⟨pb,0,none⟩=some (.int .i64 (nx':Int)))/\w'.frozen? ⟨pb,0,none⟩=false:=by
 have U:∀ o o',Below pb w ((w.alloc o).alloc o'):=fun o o'=>((Below.refl _ _).alloc (by omega) _).alloc (by simp;omega) _;have ad:∀ o o',Below w.heap.size w ((w.alloc o).alloc o'):=fun o o'=>((Below.refl _ _).alloc (Nat.le_refl _) _).alloc (by simp) _;have O:∀ o o',((w.alloc o).alloc o').frozen? ⟨pb,0,none⟩=false:=fun o o'=>by rw[(bcell (ad o o')).2 pb 0 af];exact hf
 obtain ⟨G⟩:Nonempty (Hid (gAc S y nx=if zav y && decide (y.args.length<=6) then zaT S y.args nx else none)):=⟨rfl⟩
 have I:Hid ((zav y && decide (y.args.length<=6))=false):=Z;by_cases hn:6<y.args.length
 ·have ae:(6:Int)<(y.args.length:Int):=by omega
  by_cases k1:y.kind<1
  ·go_enter Tryz.func67,Tryz.ntmps67;go_wp2_with (go_at_call 112;refine (zay y.cls _ E).mono ?_;rintro e w' ⟨rfl,rfl⟩)
   all_goals go_ret
   all_goals exact ⟨zah (by rw[G.out,I.out];rfl),U _ _,fun nx' h=>(by rw[G.out,I.out]at h;cases h),O _ _⟩
  by_cases k4:4<y.kind
  rotate_left
  rotate_left
  all_goals
   go_enter Tryz.func67,Tryz.ntmps67;go_wp2_with (go_at_call 112;refine (zay y.cls _ E).mono ?_;rintro e w' ⟨rfl,rfl⟩)
   all_goals go_ret
   all_goals exact ⟨zah (by rw[G.out,I.out];rfl),U _ _,fun nx' h=>(by rw[G.out,I.out]at h;cases h),O _ _⟩
 have ae:¬ (6:Int)<(y.args.length:Int):=by omega
 by_cases k1:y.kind=1
 ·cases hg:gCls y.cls
  ·go_enter Tryz.func67,Tryz.ntmps67;go_wp2_with (go_at_call 112;refine (zay y.cls _ E).mono ?_;rintro e w' ⟨rfl,rfl⟩)
   all_goals go_ret
   all_goals exact ⟨zah (by rw[G.out,I.out];rfl),U _ _,fun nx' h=>(by rw[G.out,I.out]at h;cases h),O _ _⟩
  by_cases k0:y.k=0
  ·exfalso;simp[zav,k1,hg,k0]at Z;omega
  go_enter Tryz.func67,Tryz.ntmps67;go_wp2_with (go_at_call 112;refine (zay y.cls _ E).mono ?_;rintro e w' ⟨rfl,rfl⟩)
  all_goals go_ret
  all_goals exact ⟨zah (by rw[G.out,I.out];rfl),U _ _,fun nx' h=>(by rw[G.out,I.out]at h;cases h),O _ _⟩
 by_cases k2:y.kind=2
 ·by_cases ha:0<y.args.length
  ·have ab:(0:Int)<(y.args.length:Int):=by omega
   go_enter Tryz.func67,Tryz.ntmps67;go_wp2_with (go_at_call 112;refine (zay y.cls _ E).mono ?_;rintro e w' ⟨rfl,rfl⟩)
   all_goals go_ret
   all_goals exact ⟨zah (by rw[G.out,I.out];rfl),U _ _,fun nx' h=>(by rw[G.out,I.out]at h;cases h),O _ _⟩
  have ab:¬ (0:Int)<(y.args.length:Int):=by omega
  cases he:y.cls.toList.isEmpty
  ·go_enter Tryz.func67,Tryz.ntmps67;go_wp2_with (go_at_call 112;refine (zay y.cls _ E).mono ?_;rintro e w' ⟨rfl,rfl⟩)
   all_goals go_ret
   all_goals exact ⟨zah (by rw[G.out,I.out];rfl),U _ _,fun nx' h=>(by rw[G.out,I.out]at h;cases h),O _ _⟩
  by_cases b1:y.k < -1000000
  ·go_enter Tryz.func67,Tryz.ntmps67;go_wp2_with (go_at_call 112;refine (zay y.cls _ E).mono ?_;rintro e w' ⟨rfl,rfl⟩)
   all_goals go_ret
   all_goals exact ⟨zah (by rw[G.out,I.out];rfl),U _ _,fun nx' h=>(by rw[G.out,I.out]at h;cases h),O _ _⟩
  by_cases b2:1000000<y.k
  ·go_enter Tryz.func67,Tryz.ntmps67;go_wp2_with (go_at_call 112;refine (zay y.cls _ E).mono ?_;rintro e w' ⟨rfl,rfl⟩)
   all_goals go_ret
   all_goals exact ⟨zah (by rw[G.out,I.out];rfl),U _ _,fun nx' h=>(by rw[G.out,I.out]at h;cases h),O _ _⟩
  exfalso;have e0:y.args=[]:=List.eq_nil_of_length_eq_zero (by omega);have X:y.cls.toList=[]:=by simpa using he
  simp[zav,k2,isE,X,e0,kOk]at Z;omega
 by_cases k3:y.kind=3
 ·cases he:y.cls.toList.isEmpty
  ·go_enter Tryz.func67,Tryz.ntmps67;go_wp2_with (go_at_call 112;refine (zay y.cls _ E).mono ?_;rintro e w' ⟨rfl,rfl⟩)
   all_goals go_ret
   all_goals exact ⟨zah (by rw[G.out,I.out];rfl),U _ _,fun nx' h=>(by rw[G.out,I.out]at h;cases h),O _ _⟩
  by_cases b1:y.k < -1000000
  ·go_enter Tryz.func67,Tryz.ntmps67;go_wp2_with (go_at_call 112;refine (zay y.cls _ E).mono ?_;rintro e w' ⟨rfl,rfl⟩)
   all_goals go_ret
   all_goals exact ⟨zah (by rw[G.out,I.out];rfl),U _ _,fun nx' h=>(by rw[G.out,I.out]at h;cases h),O _ _⟩
  by_cases b2:1000000<y.k
  ·go_enter Tryz.func67,Tryz.ntmps67;go_wp2_with (go_at_call 112;refine (zay y.cls _ E).mono ?_;rintro e w' ⟨rfl,rfl⟩)
   all_goals go_ret
   all_goals exact ⟨zah (by rw[G.out,I.out];rfl),U _ _,fun nx' h=>(by rw[G.out,I.out]at h;cases h),O _ _⟩
  exfalso;have X:y.cls.toList=[]:=by simpa using he
  simp[zav,k3,isE,X,kOk]at Z;omega
 by_cases k4:y.kind=4
 ·by_cases ha:0<y.args.length
  ·have ab:(0:Int)<(y.args.length:Int):=by omega
   go_enter Tryz.func67,Tryz.ntmps67;go_wp2_with (go_at_call 112;refine (zay y.cls _ E).mono ?_;rintro e w' ⟨rfl,rfl⟩)
   all_goals go_ret
   all_goals exact ⟨zah (by rw[G.out,I.out];rfl),U _ _,fun nx' h=>(by rw[G.out,I.out]at h;cases h),O _ _⟩
  have ab:¬ (0:Int)<(y.args.length:Int):=by omega
  cases he:y.cls.toList.isEmpty
  ·go_enter Tryz.func67,Tryz.ntmps67;go_wp2_with (go_at_call 112;refine (zay y.cls _ E).mono ?_;rintro e w' ⟨rfl,rfl⟩)
   all_goals go_ret
   all_goals exact ⟨zah (by rw[G.out,I.out];rfl),U _ _,fun nx' h=>(by rw[G.out,I.out]at h;cases h),O _ _⟩
  by_cases b1:y.k=0
  ·exfalso;have e0:y.args=[]:=List.eq_nil_of_length_eq_zero (by omega);have X:y.cls.toList=[]:=by simpa using he
   simp[zav,k4,isE,X,e0,b1]at Z
  go_enter Tryz.func67,Tryz.ntmps67;go_wp2_with (go_at_call 112;refine (zay y.cls _ E).mono ?_;rintro e w' ⟨rfl,rfl⟩)
  all_goals go_ret
  all_goals exact ⟨zah (by rw[G.out,I.out];rfl),U _ _,fun nx' h=>(by rw[G.out,I.out]at h;cases h),O _ _⟩
 by_cases k5:y.kind<1
 rotate_left
 focus
  have k6:4<y.kind:=by omega
 rotate_left
 all_goals
  go_enter Tryz.func67,Tryz.ntmps67;go_wp2_with (go_at_call 112;refine (zay y.cls _ E).mono ?_;rintro e w' ⟨rfl,rfl⟩)
  all_goals go_ret
  all_goals exact ⟨zah (by rw[G.out,I.out];rfl),U _ _,fun nx' h=>(by rw[G.out,I.out]at h;cases h),O _ _⟩
theorem ziA(x:Ru)(a_pats:Option Addr)(c_pats:Nat)(a_exprs:Option Addr)(c_exprs:Nat)(a_acts:Option Addr)(c_acts:Nat)(y:Ac)(a_args:Option Addr)(c_args:Nat)(pb nx:Nat)(S:List Sp){q:Option Nat}(w0 w:World)
  (al:Below w0.heap.size w0 w) (U:zbG q w0 a_exprs x.exprs) (ab:zbL q w0 a_args y.args) (hS:Spans x.exprs S) (aC:S.length=x.exprs.length) (az:x.exprs.length<=60) (au:y.cls.size<=maxLen) (aF:y.args.length<=1048576)
  (hp:w.cell? ⟨pb,0,none⟩=some (.int .i64 (nx:Int))) (hf:w.frozen? ⟨pb,0,none⟩=false) (ar:w0.heap.size<=pb) (ad:pb<w.heap.size) (ay:nx<=60) (af:(zav y && decide (y.args.length<=6))=true) (k1:y.kind=1) (hg:gCls y.cls=true) (k0:y.k=0) :
  Calls Tryz.prog 67 #[.agg #[.string x.name,.int .i64 x.sal,.slice a_pats x.pats.length c_pats,.slice a_exprs x.exprs.length c_exprs,.slice a_acts x.acts.length c_acts],.agg #[.int .i64 y.kind,.int .i64 y.k,.string y.cls,.slice a_args y.args.length c_args],.pointer (some ⟨pb,0,none⟩)] w fun e w'=>
   e=.returned (.bool (gAc S y nx).isSome)/\Below pb w w'/\(∀ nx',gAc S y nx=some nx'->nx'<=60/\w'.cell? ⟨pb,0,none⟩=some (.int .i64 (nx':Int)))/\w'.frozen? ⟨pb,0,none⟩=false:=by
 have B0:∀ o o',Below pb w ((w.alloc o).alloc o'):=fun o o'=>((Below.refl _ _).alloc (by omega) _).alloc (by simp;omega) _;have ah:∀ o o',Below w.heap.size w ((w.alloc o).alloc o'):=fun o o'=>((Below.refl _ _).alloc (Nat.le_refl _) _).alloc (by simp) _;have FZ:∀ o o',((w.alloc o).alloc o').frozen? ⟨pb,0,none⟩=false:=fun o o'=>by rw[(bcell (ah o o')).2 pb 0 ad];exact hf
 obtain ⟨G⟩:Nonempty (Hid (gAc S y nx=if zav y && decide (y.args.length<=6) then zaT S y.args nx else none)):=⟨rfl⟩
 have X:(zav y && decide (y.args.length<=6))=true:=af;have HF:Hid ((zav y && decide (y.args.length<=6))=true):=X;simp only[Bool.and_eq_true,decide_eq_true_eq]at X;obtain ⟨_,hn⟩:=X;have aA:¬ (6:Int)<(y.args.length:Int):=by omega
 obtain ⟨HV⟩:Nonempty (Hid (zbG q w0 a_exprs x.exprs/\zbL q w0 a_args y.args)):=⟨⟨U,ab⟩⟩
 clear af;go_enter Tryz.func67,Tryz.ntmps67;go_wp2_with (go_at_call 112;refine (zay y.cls _ au).mono ?_;rintro e w' ⟨rfl,rfl⟩)
 go_loopw [90] (fun i wr=>∃ (k nk:Nat),k<=y.args.length/\i=.int .i64 k/\nk<=60/\zaT S y.args nx=zaT S (y.args.drop k) nk/\wr.cell? ⟨pb,0,none⟩=some (.int .i64 (nk:Int))/\wr.frozen? ⟨pb,0,none⟩=false/\wr.cell? ⟨w.heap.size,3,none⟩=some (.slice a_exprs x.exprs.length c_exprs)/\Below pb w wr) (fun i _=>y.args.length - (intOf i).toNat)
 case atStart=>exact ⟨0,nx,by omega,rfl,ay,rfl,by rw[(bcell (ah _ _)).1 pb 0 ad];exact hp,FZ _ _,by simp[go_sem],B0 _ _⟩
 case round=>
  obtain ⟨k,nk,hk,rfl,ax,hG,ag,Z,ap,E⟩:=hrel;have HG:Hid (zaT S y.args nx=zaT S (y.args.drop k) nk):=hG;clear hG;have aD:pb<wr.heap.size:=Nat.lt_of_lt_of_le ad E.size;have hB:Below w0.heap.size w0 wr:=al.trans (E.mono ar);by_cases aw:k<y.args.length
  ·obtain ⟨v,ae⟩:∃ v,y.args[k]?=some v:=⟨y.args[k],by simp[aw]⟩
   have HA:=HV.out.2.below hB;have HE:=HV.out.1.below hB;obtain ⟨b,o,ea,hq,c0⟩:=HA.get ae;subst ea;have HD:Hid (y.args.drop k=v :: y.args.drop (k+1)):=zaU ae;have z0:(0:Int)<=(k:Int):=by omega
   have z1:(k:Int)<(y.args.length:Int):=by omega
   have B1:Below wr.heap.size wr wr.drew:=(Below.refl _ _).drew;by_cases v0:v<0
   ·have O:Hid (gAc S y nx=none):=show gAc S y nx=none from by
     rw[G.out,HF.out,if_pos rfl,HG.out,HD.out,zbg,decide_eq_false (by omega)];rfl
    go_wp2
    go_quiet (fail)
    go_wp2;go_ret;exact ⟨zah (by rw[O.out];rfl),zbv E,fun nx' h=>(by rw[O.out]at h;cases h),Z⟩
   by_cases v1:(x.exprs.length:Int)<=v
   ·have O:Hid (gAc S y nx=none):=show gAc S y nx=none from by
     rw[G.out,HF.out,if_pos rfl,HG.out,HD.out,zbg,decide_eq_false (p:=v<(S.length:Int)) (by omega)];simp
    have d0:decide (v<0)=false:=decide_eq_false v0;go_wp2
    go_quiet (fail)
    go_wp2;go_ret;exact ⟨zah (by rw[O.out];rfl),zbv E,fun nx' h=>(by rw[O.out]at h;cases h),Z⟩
   obtain ⟨I,rfl⟩:=Int.eq_ofNat_of_zero_le (show 0<=v by omega);have aB:I<S.length:=by omega
   obtain ⟨s,hs⟩:∃ s,S[I]?=some s:=⟨S[I],by simp⟩
   have aE:=zfm hS hs
   cases e3:((s.1:Int) != (nk:Int))
   ·have O:Hid (gAc S y nx=zaT S (y.args.drop (k+1)) (I+1)):=show gAc S y nx=_ from by
     have:s.1=nk:=by (simp at e3;omega)
     rw[G.out,HF.out,if_pos rfl,HG.out,HD.out,zbg,decide_eq_true (by omega),decide_eq_true (by omega),Int.toNat_natCast,hs,Option.getD_some,decide_eq_true this];rfl
    have HM:Hid (zaT S y.args nx=zaT S (y.args.drop (k+1)) (I+1)):=show zaT S y.args nx=_ from by
     have:=O.out;rw[G.out,HF.out,if_pos rfl]at this;exact this
    have d0:decide ((I:Int)<0)=false:=decide_eq_false (by omega);have d1:decide ((x.exprs.length:Int)<=(I:Int))=false:=decide_eq_false (by omega);have d2:decide (x.exprs.length<=I)=false:=decide_eq_false (by omega);go_wp2
    go_quiet (first | (go_at_call 69;refine Calls.quiet_of_same (zcR a_exprs c_exprs x.exprs S I s _ (HE.below ?_) hS hs);exact zbv (Below.refl _ _)))
    go_wp2;go_roundw
    case rel=>
     refine ⟨k+1,I+1,by omega,by go_num,by omega,HM.out,?_,?_,?_,?_⟩
     ·have aj:(wr.drewN nq).cell? ⟨pb,0,none⟩=some (.int .i64 (nk:Int)):=ag;simp[go_sem,aj]
     ·have aq:(wr.drewN nq).frozen? ⟨pb,0,none⟩=false:=Z;simp[go_sem,aq]
     ·have ak:(wr.drewN nq).cell? ⟨w.heap.size,3,none⟩=some (.slice a_exprs x.exprs.length c_exprs):=ap;have ao:w.heap.size≠pb:=by omega
      rw[zff ao];exact ak
     ·exact (zbv E).setCell (Nat.le_refl _) _
    case measure=>simp[intOf];omega
   have O:Hid (gAc S y nx=none):=show gAc S y nx=none from by
    have:¬ s.1=nk:=by (simp at e3;omega)
    rw[G.out,HF.out,if_pos rfl,HG.out,HD.out,zbg,Int.toNat_natCast,hs,Option.getD_some,decide_eq_false this];simp
   have d0:decide ((I:Int)<0)=false:=decide_eq_false (by omega);have d1:decide ((x.exprs.length:Int)<=(I:Int))=false:=decide_eq_false (by omega);have d2:decide (x.exprs.length<=I)=false:=decide_eq_false (by omega);go_wp2
   go_quiet (first | (go_at_call 69;refine Calls.quiet_of_same (zcR a_exprs c_exprs x.exprs S I s _ (HE.below ?_) hS hs);exact zbv (Below.refl _ _)))
   go_wp2;go_ret;exact ⟨zah (by rw[O.out];rfl),zbv E,fun nx' h=>(by rw[O.out]at h;cases h),Z⟩
  go_wp2;go_ret;have e0:y.args.drop k=[]:=List.drop_eq_nil_of_le (by omega);have O:gAc S y nx=some nk:=by
   rw[G.out,HF.out,if_pos rfl,HG.out,e0];rfl
  exact ⟨zah (by rw[O];rfl),E,fun nx' h=>(by rw[O]at h;injection h with h;subst h;exact ⟨ax,ag⟩),Z⟩
theorem ziS(x:Ru)(a_pats:Option Addr)(c_pats:Nat)(a_exprs:Option Addr)(c_exprs:Nat)(a_acts:Option Addr)(c_acts:Nat)(y:Ac)(a_args:Option Addr)(c_args:Nat)(pb nx:Nat)(S:List Sp){q:Option Nat}(w0 w:World)
  (ae:Below w0.heap.size w0 w) (E:zbG q w0 a_exprs x.exprs) (O:zbL q w0 a_args y.args) (_hS:Spans x.exprs S) (_hSl:S.length=x.exprs.length) (_hle:x.exprs.length<=60) (_hcl:y.cls.size<=maxLen) (ar:y.args.length<=1048576)
  (hp:w.cell? ⟨pb,0,none⟩=some (.int .i64 (nx:Int))) (hf:w.frozen? ⟨pb,0,none⟩=false) (af:w0.heap.size<=pb) (X:pb<w.heap.size) (aj:nx<=60) (ad:(zav y && decide (y.args.length<=6))=true) (k2:y.kind=2) (he:y.cls.toList.isEmpty=true) (b1:¬ y.k < -1000000) (b2:¬ 1000000<y.k) (ha:¬ (0:Int)<(y.args.length:Int)) :
  Calls Tryz.prog 67 #[.agg #[.string x.name,.int .i64 x.sal,.slice a_pats x.pats.length c_pats,.slice a_exprs x.exprs.length c_exprs,.slice a_acts x.acts.length c_acts],.agg #[.int .i64 y.kind,.int .i64 y.k,.string y.cls,.slice a_args y.args.length c_args],.pointer (some ⟨pb,0,none⟩)] w fun e w'=>
   e=.returned (.bool (gAc S y nx).isSome)/\Below pb w w'/\(∀ nx',gAc S y nx=some nx'->nx'<=60/\w'.cell? ⟨pb,0,none⟩=some (.int .i64 (nx':Int)))/\w'.frozen? ⟨pb,0,none⟩=false:=by
 have B0:∀ o o',Below pb w ((w.alloc o).alloc o'):=fun o o'=>((Below.refl _ _).alloc (by omega) _).alloc (by simp;omega) _;have ab:∀ o o',Below w.heap.size w ((w.alloc o).alloc o'):=fun o o'=>((Below.refl _ _).alloc (Nat.le_refl _) _).alloc (by simp) _;have FZ:∀ o o',((w.alloc o).alloc o').frozen? ⟨pb,0,none⟩=false:=fun o o'=>by rw[(bcell (ab o o')).2 pb 0 X];exact hf
 obtain ⟨G⟩:Nonempty (Hid (gAc S y nx=if zav y && decide (y.args.length<=6) then zaT S y.args nx else none)):=⟨rfl⟩
 have I:(zav y && decide (y.args.length<=6))=true:=ad;have HF:Hid ((zav y && decide (y.args.length<=6))=true):=I;simp only[Bool.and_eq_true,decide_eq_true_eq]at I;obtain ⟨_,hn⟩:=I;have al:¬ (6:Int)<(y.args.length:Int):=by omega
 obtain ⟨HV⟩:Nonempty (Hid (zbG q w0 a_exprs x.exprs/\zbL q w0 a_args y.args)):=⟨⟨E,O⟩⟩
 clear ad;go_enter Tryz.func67,Tryz.ntmps67;go_wp2_with (go_at_call 112;refine (zay y.cls _ _hcl).mono ?_;rintro e w' ⟨rfl,rfl⟩)
 go_loopw [90] (fun i wr=>∃ (k Z:Nat),k<=y.args.length/\i=.int .i64 k/\Z<=60/\zaT S y.args nx=zaT S (y.args.drop k) Z/\wr.cell? ⟨pb,0,none⟩=some (.int .i64 (Z:Int))/\wr.frozen? ⟨pb,0,none⟩=false/\wr.cell? ⟨w.heap.size,3,none⟩=some (.slice a_exprs x.exprs.length c_exprs)/\Below pb w wr) (fun i _=>y.args.length - (intOf i).toNat)
 case atStart=>exact ⟨0,nx,by omega,rfl,aj,rfl,by rw[(bcell (ab _ _)).1 pb 0 X];exact hp,FZ _ _,by simp[go_sem],B0 _ _⟩
 case round=>
  obtain ⟨k,Z,hk,rfl,ag,hG,ah,ak,ap,U⟩:=hrel;have HG:Hid (zaT S y.args nx=zaT S (y.args.drop k) Z):=hG;clear hG;have ao:pb<wr.heap.size:=Nat.lt_of_lt_of_le X U.size;have hB:Below w0.heap.size w0 wr:=ae.trans (U.mono af);have aq:¬ k<y.args.length:=by omega
  go_wp2;go_ret;have e0:y.args.drop k=[]:=List.drop_eq_nil_of_le (by omega);have HN:gAc S y nx=some Z:=by
   rw[G.out,HF.out,if_pos rfl,HG.out,e0];rfl
  exact ⟨zah (by rw[HN];rfl),U,fun nx' h=>(by rw[HN]at h;injection h with h;subst h;exact ⟨ag,ah⟩),ak⟩
theorem zig(x:Ru)(a_pats:Option Addr)(c_pats:Nat)(a_exprs:Option Addr)(c_exprs:Nat)(a_acts:Option Addr)(c_acts:Nat)(y:Ac)(a_args:Option Addr)(c_args:Nat)(pb nx:Nat)(S:List Sp){q:Option Nat}(w0 w:World)
  (ae:Below w0.heap.size w0 w) (E:zbG q w0 a_exprs x.exprs) (O:zbL q w0 a_args y.args) (_hS:Spans x.exprs S) (_hSl:S.length=x.exprs.length) (_hle:x.exprs.length<=60) (_hcl:y.cls.size<=maxLen) (ar:y.args.length<=1048576)
  (hp:w.cell? ⟨pb,0,none⟩=some (.int .i64 (nx:Int))) (hf:w.frozen? ⟨pb,0,none⟩=false) (af:w0.heap.size<=pb) (X:pb<w.heap.size) (aj:nx<=60) (ad:(zav y && decide (y.args.length<=6))=true) (k4:y.kind=4) (he:y.cls.toList.isEmpty=true) (k0:y.k=0) (ha:¬ (0:Int)<(y.args.length:Int)) :
  Calls Tryz.prog 67 #[.agg #[.string x.name,.int .i64 x.sal,.slice a_pats x.pats.length c_pats,.slice a_exprs x.exprs.length c_exprs,.slice a_acts x.acts.length c_acts],.agg #[.int .i64 y.kind,.int .i64 y.k,.string y.cls,.slice a_args y.args.length c_args],.pointer (some ⟨pb,0,none⟩)] w fun e w'=>
   e=.returned (.bool (gAc S y nx).isSome)/\Below pb w w'/\(∀ nx',gAc S y nx=some nx'->nx'<=60/\w'.cell? ⟨pb,0,none⟩=some (.int .i64 (nx':Int)))/\w'.frozen? ⟨pb,0,none⟩=false:=by
 have B0:∀ o o',Below pb w ((w.alloc o).alloc o'):=fun o o'=>((Below.refl _ _).alloc (by omega) _).alloc (by simp;omega) _;have ab:∀ o o',Below w.heap.size w ((w.alloc o).alloc o'):=fun o o'=>((Below.refl _ _).alloc (Nat.le_refl _) _).alloc (by simp) _;have FZ:∀ o o',((w.alloc o).alloc o').frozen? ⟨pb,0,none⟩=false:=fun o o'=>by rw[(bcell (ab o o')).2 pb 0 X];exact hf
 obtain ⟨G⟩:Nonempty (Hid (gAc S y nx=if zav y && decide (y.args.length<=6) then zaT S y.args nx else none)):=⟨rfl⟩
 have I:(zav y && decide (y.args.length<=6))=true:=ad;have HF:Hid ((zav y && decide (y.args.length<=6))=true):=I;simp only[Bool.and_eq_true,decide_eq_true_eq]at I;obtain ⟨_,hn⟩:=I;have al:¬ (6:Int)<(y.args.length:Int):=by omega
 obtain ⟨HV⟩:Nonempty (Hid (zbG q w0 a_exprs x.exprs/\zbL q w0 a_args y.args)):=⟨⟨E,O⟩⟩
 clear ad;go_enter Tryz.func67,Tryz.ntmps67;go_wp2_with (go_at_call 112;refine (zay y.cls _ _hcl).mono ?_;rintro e w' ⟨rfl,rfl⟩)
 go_loopw [90] (fun i wr=>∃ (k Z:Nat),k<=y.args.length/\i=.int .i64 k/\Z<=60/\zaT S y.args nx=zaT S (y.args.drop k) Z/\wr.cell? ⟨pb,0,none⟩=some (.int .i64 (Z:Int))/\wr.frozen? ⟨pb,0,none⟩=false/\wr.cell? ⟨w.heap.size,3,none⟩=some (.slice a_exprs x.exprs.length c_exprs)/\Below pb w wr) (fun i _=>y.args.length - (intOf i).toNat)
 case atStart=>exact ⟨0,nx,by omega,rfl,aj,rfl,by rw[(bcell (ab _ _)).1 pb 0 X];exact hp,FZ _ _,by simp[go_sem],B0 _ _⟩
 case round=>
  obtain ⟨k,Z,hk,rfl,ag,hG,ah,ak,ap,U⟩:=hrel;have HG:Hid (zaT S y.args nx=zaT S (y.args.drop k) Z):=hG;clear hG;have ao:pb<wr.heap.size:=Nat.lt_of_lt_of_le X U.size;have hB:Below w0.heap.size w0 wr:=ae.trans (U.mono af);have aq:¬ k<y.args.length:=by omega
  go_wp2;go_ret;have e0:y.args.drop k=[]:=List.drop_eq_nil_of_le (by omega);have HN:gAc S y nx=some Z:=by
   rw[G.out,HF.out,if_pos rfl,HG.out,e0];rfl
  exact ⟨zah (by rw[HN];rfl),U,fun nx' h=>(by rw[HN]at h;injection h with h;subst h;exact ⟨ag,ah⟩),ak⟩
theorem zit(x:Ru)(a_pats:Option Addr)(c_pats:Nat)(a_exprs:Option Addr)(c_exprs:Nat)(a_acts:Option Addr)(c_acts:Nat)(y:Ac)(a_args:Option Addr)(c_args:Nat)(pb nx:Nat)(S:List Sp){q:Option Nat}(w0 w:World)
  (al:Below w0.heap.size w0 w) (U:zbG q w0 a_exprs x.exprs) (ab:zbL q w0 a_args y.args) (hS:Spans x.exprs S) (aB:S.length=x.exprs.length) (ay:x.exprs.length<=60) (_hcl:y.cls.size<=maxLen) (aE:y.args.length<=1048576)
  (hp:w.cell? ⟨pb,0,none⟩=some (.int .i64 (nx:Int))) (hf:w.frozen? ⟨pb,0,none⟩=false) (ar:w0.heap.size<=pb) (ad:pb<w.heap.size) (ax:nx<=60) (af:(zav y && decide (y.args.length<=6))=true) (k3:y.kind=3) (he:y.cls.toList.isEmpty=true) (b1:¬ y.k < -1000000) (b2:¬ 1000000<y.k) :
  Calls Tryz.prog 67 #[.agg #[.string x.name,.int .i64 x.sal,.slice a_pats x.pats.length c_pats,.slice a_exprs x.exprs.length c_exprs,.slice a_acts x.acts.length c_acts],.agg #[.int .i64 y.kind,.int .i64 y.k,.string y.cls,.slice a_args y.args.length c_args],.pointer (some ⟨pb,0,none⟩)] w fun e w'=>
   e=.returned (.bool (gAc S y nx).isSome)/\Below pb w w'/\(∀ nx',gAc S y nx=some nx'->nx'<=60/\w'.cell? ⟨pb,0,none⟩=some (.int .i64 (nx':Int)))/\w'.frozen? ⟨pb,0,none⟩=false:=by
 have B0:∀ o o',Below pb w ((w.alloc o).alloc o'):=fun o o'=>((Below.refl _ _).alloc (by omega) _).alloc (by simp;omega) _;have ah:∀ o o',Below w.heap.size w ((w.alloc o).alloc o'):=fun o o'=>((Below.refl _ _).alloc (Nat.le_refl _) _).alloc (by simp) _;have FZ:∀ o o',((w.alloc o).alloc o').frozen? ⟨pb,0,none⟩=false:=fun o o'=>by rw[(bcell (ah o o')).2 pb 0 ad];exact hf
 obtain ⟨G⟩:Nonempty (Hid (gAc S y nx=if zav y && decide (y.args.length<=6) then zaT S y.args nx else none)):=⟨rfl⟩
 have X:(zav y && decide (y.args.length<=6))=true:=af;have HF:Hid ((zav y && decide (y.args.length<=6))=true):=X;simp only[Bool.and_eq_true,decide_eq_true_eq]at X;obtain ⟨_,hn⟩:=X;have az:¬ (6:Int)<(y.args.length:Int):=by omega
 obtain ⟨HV⟩:Nonempty (Hid (zbG q w0 a_exprs x.exprs/\zbL q w0 a_args y.args)):=⟨⟨U,ab⟩⟩
 clear af;go_enter Tryz.func67,Tryz.ntmps67;go_wp2_with (go_at_call 112;refine (zay y.cls _ _hcl).mono ?_;rintro e w' ⟨rfl,rfl⟩)
 go_loopw [90] (fun i wr=>∃ (k nk:Nat),k<=y.args.length/\i=.int .i64 k/\nk<=60/\zaT S y.args nx=zaT S (y.args.drop k) nk/\wr.cell? ⟨pb,0,none⟩=some (.int .i64 (nk:Int))/\wr.frozen? ⟨pb,0,none⟩=false/\wr.cell? ⟨w.heap.size,3,none⟩=some (.slice a_exprs x.exprs.length c_exprs)/\Below pb w wr) (fun i _=>y.args.length - (intOf i).toNat)
 case atStart=>exact ⟨0,nx,by omega,rfl,ax,rfl,by rw[(bcell (ah _ _)).1 pb 0 ad];exact hp,FZ _ _,by simp[go_sem],B0 _ _⟩
 case round=>
  obtain ⟨k,nk,hk,rfl,aw,hG,ag,Z,ap,E⟩:=hrel;have HG:Hid (zaT S y.args nx=zaT S (y.args.drop k) nk):=hG;clear hG;have aC:pb<wr.heap.size:=Nat.lt_of_lt_of_le ad E.size;have hB:Below w0.heap.size w0 wr:=al.trans (E.mono ar);by_cases au:k<y.args.length
  ·obtain ⟨v,ae⟩:∃ v,y.args[k]?=some v:=⟨y.args[k],by simp[au]⟩
   have HA:=HV.out.2.below hB;have HE:=HV.out.1.below hB;obtain ⟨b,o,ea,hq,c0⟩:=HA.get ae;subst ea;have HD:Hid (y.args.drop k=v :: y.args.drop (k+1)):=zaU ae;have z0:(0:Int)<=(k:Int):=by omega
   have z1:(k:Int)<(y.args.length:Int):=by omega
   have B1:Below wr.heap.size wr wr.drew:=(Below.refl _ _).drew;by_cases v0:v<0
   ·have O:Hid (gAc S y nx=none):=show gAc S y nx=none from by
     rw[G.out,HF.out,if_pos rfl,HG.out,HD.out,zbg,decide_eq_false (by omega)];rfl
    go_wp2
    go_quiet (fail)
    go_wp2;go_ret;exact ⟨zah (by rw[O.out];rfl),zbv E,fun nx' h=>(by rw[O.out]at h;cases h),Z⟩
   by_cases v1:(x.exprs.length:Int)<=v
   ·have O:Hid (gAc S y nx=none):=show gAc S y nx=none from by
     rw[G.out,HF.out,if_pos rfl,HG.out,HD.out,zbg,decide_eq_false (p:=v<(S.length:Int)) (by omega)];simp
    have d0:decide (v<0)=false:=decide_eq_false v0;go_wp2
    go_quiet (fail)
    go_wp2;go_ret;exact ⟨zah (by rw[O.out];rfl),zbv E,fun nx' h=>(by rw[O.out]at h;cases h),Z⟩
   obtain ⟨I,rfl⟩:=Int.eq_ofNat_of_zero_le (show 0<=v by omega);have aA:I<S.length:=by omega
   obtain ⟨s,hs⟩:∃ s,S[I]?=some s:=⟨S[I],by simp⟩
   have aD:=zfm hS hs
   cases e3:((s.1:Int) != (nk:Int))
   ·have O:Hid (gAc S y nx=zaT S (y.args.drop (k+1)) (I+1)):=show gAc S y nx=_ from by
     have:s.1=nk:=by (simp at e3;omega)
     rw[G.out,HF.out,if_pos rfl,HG.out,HD.out,zbg,decide_eq_true (by omega),decide_eq_true (by omega),Int.toNat_natCast,hs,Option.getD_some,decide_eq_true this];rfl
    have HM:Hid (zaT S y.args nx=zaT S (y.args.drop (k+1)) (I+1)):=show zaT S y.args nx=_ from by
     have:=O.out;rw[G.out,HF.out,if_pos rfl]at this;exact this
    have d0:decide ((I:Int)<0)=false:=decide_eq_false (by omega);have d1:decide ((x.exprs.length:Int)<=(I:Int))=false:=decide_eq_false (by omega);have d2:decide (x.exprs.length<=I)=false:=decide_eq_false (by omega);go_wp2
    go_quiet (first | (go_at_call 69;refine Calls.quiet_of_same (zcR a_exprs c_exprs x.exprs S I s _ (HE.below ?_) hS hs);exact zbv (Below.refl _ _)))
    go_wp2;go_roundw
    case rel=>
     refine ⟨k+1,I+1,by omega,by go_num,by omega,HM.out,?_,?_,?_,?_⟩
     ·have aj:(wr.drewN nq).cell? ⟨pb,0,none⟩=some (.int .i64 (nk:Int)):=ag;simp[go_sem,aj]
     ·have aq:(wr.drewN nq).frozen? ⟨pb,0,none⟩=false:=Z;simp[go_sem,aq]
     ·have ak:(wr.drewN nq).cell? ⟨w.heap.size,3,none⟩=some (.slice a_exprs x.exprs.length c_exprs):=ap;have ao:w.heap.size≠pb:=by omega
      rw[zff ao];exact ak
     ·exact (zbv E).setCell (Nat.le_refl _) _
    case measure=>simp[intOf];omega
   have O:Hid (gAc S y nx=none):=show gAc S y nx=none from by
    have:¬ s.1=nk:=by (simp at e3;omega)
    rw[G.out,HF.out,if_pos rfl,HG.out,HD.out,zbg,Int.toNat_natCast,hs,Option.getD_some,decide_eq_false this];simp
   have d0:decide ((I:Int)<0)=false:=decide_eq_false (by omega);have d1:decide ((x.exprs.length:Int)<=(I:Int))=false:=decide_eq_false (by omega);have d2:decide (x.exprs.length<=I)=false:=decide_eq_false (by omega);go_wp2
   go_quiet (first | (go_at_call 69;refine Calls.quiet_of_same (zcR a_exprs c_exprs x.exprs S I s _ (HE.below ?_) hS hs);exact zbv (Below.refl _ _)))
   go_wp2;go_ret;exact ⟨zah (by rw[O.out];rfl),zbv E,fun nx' h=>(by rw[O.out]at h;cases h),Z⟩
  go_wp2;go_ret;have e0:y.args.drop k=[]:=List.drop_eq_nil_of_le (by omega);have O:gAc S y nx=some nk:=by
   rw[G.out,HF.out,if_pos rfl,HG.out,e0];rfl
  exact ⟨zah (by rw[O];rfl),E,fun nx' h=>(by rw[O]at h;injection h with h;subst h;exact ⟨aw,ag⟩),Z⟩
end Go.Proofs.YtjjjagepnnbebaaGreatDoor
