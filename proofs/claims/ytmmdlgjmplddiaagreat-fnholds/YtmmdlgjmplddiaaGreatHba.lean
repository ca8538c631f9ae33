/-
  OUR OWN TEXT. Sc3b1, Sc3b2, Sc3b3, Sc3, Sc4h, one behind the other.
-/
import Derived.Test.YtmmdlgjmplddiaaGreatHay
import Derived.Deep.RegionHeld3
import Derived.Deep.DrawnRows
import Derived.BigQuiet
import Derived.Test.YtmmdlgjmplddiaaGreatSc3am
import Derived.Laws.BytesArg
namespace Go.Proofs.YtmmdlgjmplddiaaGreat
open Go.RowKit
attribute [local go_sem ↓] Go.wp_at_zero Go.wp_at_succ
set_option maxHeartbeats 4000000 in
theorem zgC (x:Ru) (a_pats:Option Addr) (c_pats:Nat) (a_exprs:Option Addr) (c_exprs:Nat) (a_acts:Option Addr) (c_acts:Nat) (y:Ac) (a_args:Option Addr) (c_args:Nat) (pb nx:Nat) (S:List Sp) {q:Option Nat} (w0 w:World)
  (hb0:Below w0.heap.size w0 w) (h_exprs:za8 q w0 a_exprs x.exprs) (h_args:zaU q w0 a_args y.args) (hS:Spans x.exprs S) (hSl:S.length=x.exprs.length) (hle:x.exprs.length≤60) (hcl:y.cls.size≤maxLen) (hal:y.args.length≤1048576)
  (hp:w.cell? ⟨pb,0,none⟩=some (.int .i64 (nx:Int))) (hf:w.frozen? ⟨pb,0,none⟩=false) (hpb:w0.heap.size≤pb) (hpw:pb<w.heap.size) (hnx:nx≤60) (hok:(zaz y && decide (y.args.length≤6))=true) (k1:y.kind=1) (hg:gCls y.cls=true) (k0:y.k=0) :
  Calls Tryz.prog 144 #[.agg #[.string x.name,.int .i64 x.sal,.slice a_pats x.pats.length c_pats,.slice a_exprs x.exprs.length c_exprs,.slice a_acts x.acts.length c_acts],.agg #[.int .i64 y.kind,.int .i64 y.k,.string y.cls,.slice a_args y.args.length c_args],.pointer (some ⟨pb,0,none⟩)] w fun e w'=>
   e=.returned (.bool (gAc S y nx).isSome)∧Below pb w w'∧(∀ nx',gAc S y nx=some nx'→nx'≤60∧w'.cell? ⟨pb,0,none⟩=some (.int .i64 (nx':Int)))∧w'.frozen? ⟨pb,0,none⟩=false:=by
 have B0:∀ o o',Below pb w ((w.alloc o).alloc o'):=fun o o'=>((Below.refl _ _).alloc (by omega) _).alloc (by simp;omega) _
 have B0':∀ o o',Below w.heap.size w ((w.alloc o).alloc o'):=fun o o'=>((Below.refl _ _).alloc (Nat.le_refl _) _).alloc (by simp) _
 have FZ:∀ o o',((w.alloc o).alloc o').frozen? ⟨pb,0,none⟩=false:=fun o o'=>by rw [(bcell (B0' o o')).2 pb 0 hpw];exact hf
 obtain ⟨G⟩:Nonempty (Hid (gAc S y nx=if zaz y && decide (y.args.length≤6) then zaP S y.args nx else none)):=⟨rfl⟩
 have hok':(zaz y && decide (y.args.length≤6))=true:=hok
 have HF:Hid ((zaz y && decide (y.args.length≤6))=true):=hok'
 simp only [Bool.and_eq_true,decide_eq_true_eq] at hok'
 obtain ⟨_,hn⟩:=hok'
 have hn':¬ (6:Int)<(y.args.length:Int):=by omega
 obtain ⟨HV⟩:Nonempty (Hid (za8 q w0 a_exprs x.exprs∧zaU q w0 a_args y.args)):=⟨⟨h_exprs,h_args⟩⟩
 clear hok
 go_enter Tryz.func144,Tryz.ntmps144
 go_wp2_with (go_at_call 71;refine (zav y.cls _ hcl).mono ?_;rintro e w' ⟨rfl,rfl⟩)
 go_loopw [90] (fun i wr=>∃ (k nk:Nat),k≤y.args.length∧i=.int .i64 k∧nk≤60∧zaP S y.args nx=zaP S (y.args.drop k) nk∧wr.cell? ⟨pb,0,none⟩=some (.int .i64 (nk:Int))∧wr.frozen? ⟨pb,0,none⟩=false∧wr.cell? ⟨w.heap.size,3,none⟩=some (.slice a_exprs x.exprs.length c_exprs)∧Below pb w wr) (fun i _=>y.args.length - (intOf i).toNat)
 case atStart=>exact ⟨0,nx,by omega,rfl,hnx,rfl,by rw [(bcell (B0' _ _)).1 pb 0 hpw];exact hp,FZ _ _,by simp [go_sem],B0 _ _⟩
 case round=>
  obtain ⟨k,nk,hk,rfl,hnk,hG,hp1,hf1,hx1,hb1⟩:=hrel
  have HG:Hid (zaP S y.args nx=zaP S (y.args.drop k) nk):=hG
  clear hG
  have hpr:pb<wr.heap.size:=Nat.lt_of_lt_of_le hpw hb1.size
  have hB:Below w0.heap.size w0 wr:=hb0.trans (hb1.mono hpb)
  by_cases hkl:k<y.args.length
  ·obtain ⟨v,hvk⟩:∃ v,y.args[k]?=some v:=⟨y.args[k],by simp [hkl]⟩
   have HA:=HV.out.2.below hB
   have HE:=HV.out.1.below hB
   obtain ⟨b,o,ea,hq,c0⟩:=HA.get hvk
   subst ea
   have HD:Hid (y.args.drop k=v :: y.args.drop (k+1)):=zan hvk
   have z0:(0:Int)≤(k:Int):=by omega
   have z1:(k:Int)<(y.args.length:Int):=by omega
   have B1:Below wr.heap.size wr wr.drew:=(Below.refl _ _).drew
   by_cases v0:v<0
   ·have HN:Hid (gAc S y nx=none):=show gAc S y nx=none from by
     rw [G.out,HF.out,if_pos rfl,HG.out,HD.out,za0,decide_eq_false (by omega)]
     rfl
    go_wp2
    go_quiet (fail)
    go_wp2
    go_ret
    exact ⟨zac (by rw [HN.out];rfl),za5 hb1,fun nx' h=>(by rw [HN.out] at h;cases h),hf1⟩
   ·by_cases v1:(x.exprs.length:Int)≤v
    ·have HN:Hid (gAc S y nx=none):=show gAc S y nx=none from by
      rw [G.out,HF.out,if_pos rfl,HG.out,HD.out,za0,decide_eq_false (p:=v<(S.length:Int)) (by omega)]
      simp
     have d0:decide (v<0)=false:=decide_eq_false v0
     go_wp2
     go_quiet (fail)
     go_wp2
     go_ret
     exact ⟨zac (by rw [HN.out];rfl),za5 hb1,fun nx' h=>(by rw [HN.out] at h;cases h),hf1⟩
    ·obtain ⟨vn,rfl⟩:=Int.eq_ofNat_of_zero_le (show 0≤v by omega)
     have hvn:vn<S.length:=by omega
     obtain ⟨s,hs⟩:∃ s,S[vn]?=some s:=⟨S[vn],by simp⟩
     have hsl:=zdR hS hs
     cases e3:((s.1:Int) != (nk:Int))
     ·have HN:Hid (gAc S y nx=zaP S (y.args.drop (k+1)) (vn+1)):=show gAc S y nx=_ from by
       have:s.1=nk:=by (simp at e3;omega)
       rw [G.out,HF.out,if_pos rfl,HG.out,HD.out,za0,decide_eq_true (by omega),decide_eq_true (by omega),Int.toNat_natCast,hs,Option.getD_some,decide_eq_true this]
       rfl
      have HM:Hid (zaP S y.args nx=zaP S (y.args.drop (k+1)) (vn+1)):=show zaP S y.args nx=_ from by
       have:=HN.out
       rw [G.out,HF.out,if_pos rfl] at this
       exact this
      have d0:decide ((vn:Int)<0)=false:=decide_eq_false (by omega)
      have d1:decide ((x.exprs.length:Int)≤(vn:Int))=false:=decide_eq_false (by omega)
      have d2:decide (x.exprs.length≤vn)=false:=decide_eq_false (by omega)
      go_wp2
      go_quiet (first | (go_at_call 146;refine Calls.quiet_of_same (zbQ a_exprs c_exprs x.exprs S vn s _ (HE.below ?_) hS hs);exact za5 (Below.refl _ _)))
      go_wp2
      go_roundw
      case rel=>
       refine ⟨k+1,vn+1,by omega,by go_num,by omega,HM.out,?_,?_,?_,?_⟩
       ·have hp2:(wr.drewN nq).cell? ⟨pb,0,none⟩=some (.int .i64 (nk:Int)):=hp1
        simp [go_sem,hp2]
       ·have hf2:(wr.drewN nq).frozen? ⟨pb,0,none⟩=false:=hf1
        simp [go_sem,hf2]
       ·have hx2:(wr.drewN nq).cell? ⟨w.heap.size,3,none⟩=some (.slice a_exprs x.exprs.length c_exprs):=hx1
        have hne:w.heap.size≠pb:=by omega
        rw [zdJ hne]
        exact hx2
       ·exact (za5 hb1).setCell (Nat.le_refl _) _
      case measure=>simp [intOf];omega
     ·have HN:Hid (gAc S y nx=none):=show gAc S y nx=none from by
       have:¬ s.1=nk:=by (simp at e3;omega)
       rw [G.out,HF.out,if_pos rfl,HG.out,HD.out,za0,Int.toNat_natCast,hs,Option.getD_some,decide_eq_false this]
       simp
      have d0:decide ((vn:Int)<0)=false:=decide_eq_false (by omega)
      have d1:decide ((x.exprs.length:Int)≤(vn:Int))=false:=decide_eq_false (by omega)
      have d2:decide (x.exprs.length≤vn)=false:=decide_eq_false (by omega)
      go_wp2
      go_quiet (first | (go_at_call 146;refine Calls.quiet_of_same (zbQ a_exprs c_exprs x.exprs S vn s _ (HE.below ?_) hS hs);exact za5 (Below.refl _ _)))
      go_wp2
      go_ret
      exact ⟨zac (by rw [HN.out];rfl),za5 hb1,fun nx' h=>(by rw [HN.out] at h;cases h),hf1⟩
  ·go_wp2
   go_ret
   have e0:y.args.drop k=[]:=List.drop_eq_nil_of_le (by omega)
   have HN:gAc S y nx=some nk:=by
    rw [G.out,HF.out,if_pos rfl,HG.out,e0]
    rfl
   exact ⟨zac (by rw [HN];rfl),hb1,fun nx' h=>(by rw [HN] at h;injection h with h;subst h;exact ⟨hnk,hp1⟩),hf1⟩
end Go.Proofs.YtmmdlgjmplddiaaGreat
namespace Go.Proofs.YtmmdlgjmplddiaaGreat
open Go.RowKit
attribute [local go_sem ↓] Go.wp_at_zero Go.wp_at_succ
set_option maxHeartbeats 4000000 in
theorem zgW (x:Ru) (a_pats:Option Addr) (c_pats:Nat) (a_exprs:Option Addr) (c_exprs:Nat) (a_acts:Option Addr) (c_acts:Nat) (y:Ac) (a_args:Option Addr) (c_args:Nat) (pb nx:Nat) (S:List Sp) {q:Option Nat} (w0 w:World)
  (hb0:Below w0.heap.size w0 w) (h_exprs:za8 q w0 a_exprs x.exprs) (h_args:zaU q w0 a_args y.args) (_hS:Spans x.exprs S) (_hSl:S.length=x.exprs.length) (_hle:x.exprs.length≤60) (_hcl:y.cls.size≤maxLen) (hal:y.args.length≤1048576)
  (hp:w.cell? ⟨pb,0,none⟩=some (.int .i64 (nx:Int))) (hf:w.frozen? ⟨pb,0,none⟩=false) (hpb:w0.heap.size≤pb) (hpw:pb<w.heap.size) (hnx:nx≤60) (hok:(zaz y && decide (y.args.length≤6))=true) (k2:y.kind=2) (he:y.cls.toList.isEmpty=true) (b1:¬ y.k < -1000000) (b2:¬ 1000000<y.k) (ha:¬ (0:Int)<(y.args.length:Int)) :
  Calls Tryz.prog 144 #[.agg #[.string x.name,.int .i64 x.sal,.slice a_pats x.pats.length c_pats,.slice a_exprs x.exprs.length c_exprs,.slice a_acts x.acts.length c_acts],.agg #[.int .i64 y.kind,.int .i64 y.k,.string y.cls,.slice a_args y.args.length c_args],.pointer (some ⟨pb,0,none⟩)] w fun e w'=>
   e=.returned (.bool (gAc S y nx).isSome)∧Below pb w w'∧(∀ nx',gAc S y nx=some nx'→nx'≤60∧w'.cell? ⟨pb,0,none⟩=some (.int .i64 (nx':Int)))∧w'.frozen? ⟨pb,0,none⟩=false:=by
 have B0:∀ o o',Below pb w ((w.alloc o).alloc o'):=fun o o'=>((Below.refl _ _).alloc (by omega) _).alloc (by simp;omega) _
 have B0':∀ o o',Below w.heap.size w ((w.alloc o).alloc o'):=fun o o'=>((Below.refl _ _).alloc (Nat.le_refl _) _).alloc (by simp) _
 have FZ:∀ o o',((w.alloc o).alloc o').frozen? ⟨pb,0,none⟩=false:=fun o o'=>by rw [(bcell (B0' o o')).2 pb 0 hpw];exact hf
 obtain ⟨G⟩:Nonempty (Hid (gAc S y nx=if zaz y && decide (y.args.length≤6) then zaP S y.args nx else none)):=⟨rfl⟩
 have hok':(zaz y && decide (y.args.length≤6))=true:=hok
 have HF:Hid ((zaz y && decide (y.args.length≤6))=true):=hok'
 simp only [Bool.and_eq_true,decide_eq_true_eq] at hok'
 obtain ⟨_,hn⟩:=hok'
 have hn':¬ (6:Int)<(y.args.length:Int):=by omega
 obtain ⟨HV⟩:Nonempty (Hid (za8 q w0 a_exprs x.exprs∧zaU q w0 a_args y.args)):=⟨⟨h_exprs,h_args⟩⟩
 clear hok
 go_enter Tryz.func144,Tryz.ntmps144
 go_wp2_with (go_at_call 71;refine (zav y.cls _ _hcl).mono ?_;rintro e w' ⟨rfl,rfl⟩)
 go_loopw [90] (fun i wr=>∃ (k nk:Nat),k≤y.args.length∧i=.int .i64 k∧nk≤60∧zaP S y.args nx=zaP S (y.args.drop k) nk∧wr.cell? ⟨pb,0,none⟩=some (.int .i64 (nk:Int))∧wr.frozen? ⟨pb,0,none⟩=false∧wr.cell? ⟨w.heap.size,3,none⟩=some (.slice a_exprs x.exprs.length c_exprs)∧Below pb w wr) (fun i _=>y.args.length - (intOf i).toNat)
 case atStart=>exact ⟨0,nx,by omega,rfl,hnx,rfl,by rw [(bcell (B0' _ _)).1 pb 0 hpw];exact hp,FZ _ _,by simp [go_sem],B0 _ _⟩
 case round=>
  obtain ⟨k,nk,hk,rfl,hnk,hG,hp1,hf1,hx1,hb1⟩:=hrel
  have HG:Hid (zaP S y.args nx=zaP S (y.args.drop k) nk):=hG
  clear hG
  have hpr:pb<wr.heap.size:=Nat.lt_of_lt_of_le hpw hb1.size
  have hB:Below w0.heap.size w0 wr:=hb0.trans (hb1.mono hpb)
  have hkl:¬ k<y.args.length:=by omega
  go_wp2
  go_ret
  have e0:y.args.drop k=[]:=List.drop_eq_nil_of_le (by omega)
  have HN:gAc S y nx=some nk:=by
   rw [G.out,HF.out,if_pos rfl,HG.out,e0]
   rfl
  exact ⟨zac (by rw [HN];rfl),hb1,fun nx' h=>(by rw [HN] at h;injection h with h;subst h;exact ⟨hnk,hp1⟩),hf1⟩
set_option maxHeartbeats 4000000 in
theorem zgH (x:Ru) (a_pats:Option Addr) (c_pats:Nat) (a_exprs:Option Addr) (c_exprs:Nat) (a_acts:Option Addr) (c_acts:Nat) (y:Ac) (a_args:Option Addr) (c_args:Nat) (pb nx:Nat) (S:List Sp) {q:Option Nat} (w0 w:World)
  (hb0:Below w0.heap.size w0 w) (h_exprs:za8 q w0 a_exprs x.exprs) (h_args:zaU q w0 a_args y.args) (_hS:Spans x.exprs S) (_hSl:S.length=x.exprs.length) (_hle:x.exprs.length≤60) (_hcl:y.cls.size≤maxLen) (hal:y.args.length≤1048576)
  (hp:w.cell? ⟨pb,0,none⟩=some (.int .i64 (nx:Int))) (hf:w.frozen? ⟨pb,0,none⟩=false) (hpb:w0.heap.size≤pb) (hpw:pb<w.heap.size) (hnx:nx≤60) (hok:(zaz y && decide (y.args.length≤6))=true) (k4:y.kind=4) (he:y.cls.toList.isEmpty=true) (k0:y.k=0) (ha:¬ (0:Int)<(y.args.length:Int)) :
  Calls Tryz.prog 144 #[.agg #[.string x.name,.int .i64 x.sal,.slice a_pats x.pats.length c_pats,.slice a_exprs x.exprs.length c_exprs,.slice a_acts x.acts.length c_acts],.agg #[.int .i64 y.kind,.int .i64 y.k,.string y.cls,.slice a_args y.args.length c_args],.pointer (some ⟨pb,0,none⟩)] w fun e w'=>
   e=.returned (.bool (gAc S y nx).isSome)∧Below pb w w'∧(∀ nx',gAc S y nx=some nx'→nx'≤60∧w'.cell? ⟨pb,0,none⟩=some (.int .i64 (nx':Int)))∧w'.frozen? ⟨pb,0,none⟩=false:=by
 have B0:∀ o o',Below pb w ((w.alloc o).alloc o'):=fun o o'=>((Below.refl _ _).alloc (by omega) _).alloc (by simp;omega) _
 have B0':∀ o o',Below w.heap.size w ((w.alloc o).alloc o'):=fun o o'=>((Below.refl _ _).alloc (Nat.le_refl _) _).alloc (by simp) _
 have FZ:∀ o o',((w.alloc o).alloc o').frozen? ⟨pb,0,none⟩=false:=fun o o'=>by rw [(bcell (B0' o o')).2 pb 0 hpw];exact hf
 obtain ⟨G⟩:Nonempty (Hid (gAc S y nx=if zaz y && decide (y.args.length≤6) then zaP S y.args nx else none)):=⟨rfl⟩
 have hok':(zaz y && decide (y.args.length≤6))=true:=hok
 have HF:Hid ((zaz y && decide (y.args.length≤6))=true):=hok'
 simp only [Bool.and_eq_true,decide_eq_true_eq] at hok'
 obtain ⟨_,hn⟩:=hok'
 have hn':¬ (6:Int)<(y.args.length:Int):=by omega
 obtain ⟨HV⟩:Nonempty (Hid (za8 q w0 a_exprs x.exprs∧zaU q w0 a_args y.args)):=⟨⟨h_exprs,h_args⟩⟩
 clear hok
 go_enter Tryz.func144,Tryz.ntmps144
 go_wp2_with (go_at_call 71;refine (zav y.cls _ _hcl).mono ?_;rintro e w' ⟨rfl,rfl⟩)
 go_loopw [90] (fun i wr=>∃ (k nk:Nat),k≤y.args.length∧i=.int .i64 k∧nk≤60∧zaP S y.args nx=zaP S (y.args.drop k) nk∧wr.cell? ⟨pb,0,none⟩=some (.int .i64 (nk:Int))∧wr.frozen? ⟨pb,0,none⟩=false∧wr.cell? ⟨w.heap.size,3,none⟩=some (.slice a_exprs x.exprs.length c_exprs)∧Below pb w wr) (fun i _=>y.args.length - (intOf i).toNat)
 case atStart=>exact ⟨0,nx,by omega,rfl,hnx,rfl,by rw [(bcell (B0' _ _)).1 pb 0 hpw];exact hp,FZ _ _,by simp [go_sem],B0 _ _⟩
 case round=>
  obtain ⟨k,nk,hk,rfl,hnk,hG,hp1,hf1,hx1,hb1⟩:=hrel
  have HG:Hid (zaP S y.args nx=zaP S (y.args.drop k) nk):=hG
  clear hG
  have hpr:pb<wr.heap.size:=Nat.lt_of_lt_of_le hpw hb1.size
  have hB:Below w0.heap.size w0 wr:=hb0.trans (hb1.mono hpb)
  have hkl:¬ k<y.args.length:=by omega
  go_wp2
  go_ret
  have e0:y.args.drop k=[]:=List.drop_eq_nil_of_le (by omega)
  have HN:gAc S y nx=some nk:=by
   rw [G.out,HF.out,if_pos rfl,HG.out,e0]
   rfl
  exact ⟨zac (by rw [HN];rfl),hb1,fun nx' h=>(by rw [HN] at h;injection h with h;subst h;exact ⟨hnk,hp1⟩),hf1⟩
end Go.Proofs.YtmmdlgjmplddiaaGreat
namespace Go.Proofs.YtmmdlgjmplddiaaGreat
open Go.RowKit
attribute [local go_sem ↓] Go.wp_at_zero Go.wp_at_succ
set_option maxHeartbeats 4000000 in
theorem zgY (x:Ru) (a_pats:Option Addr) (c_pats:Nat) (a_exprs:Option Addr) (c_exprs:Nat) (a_acts:Option Addr) (c_acts:Nat) (y:Ac) (a_args:Option Addr) (c_args:Nat) (pb nx:Nat) (S:List Sp) {q:Option Nat} (w0 w:World)
  (hb0:Below w0.heap.size w0 w) (h_exprs:za8 q w0 a_exprs x.exprs) (h_args:zaU q w0 a_args y.args) (hS:Spans x.exprs S) (hSl:S.length=x.exprs.length) (hle:x.exprs.length≤60) (_hcl:y.cls.size≤maxLen) (hal:y.args.length≤1048576)
  (hp:w.cell? ⟨pb,0,none⟩=some (.int .i64 (nx:Int))) (hf:w.frozen? ⟨pb,0,none⟩=false) (hpb:w0.heap.size≤pb) (hpw:pb<w.heap.size) (hnx:nx≤60) (hok:(zaz y && decide (y.args.length≤6))=true) (k3:y.kind=3) (he:y.cls.toList.isEmpty=true) (b1:¬ y.k < -1000000) (b2:¬ 1000000<y.k) :
  Calls Tryz.prog 144 #[.agg #[.string x.name,.int .i64 x.sal,.slice a_pats x.pats.length c_pats,.slice a_exprs x.exprs.length c_exprs,.slice a_acts x.acts.length c_acts],.agg #[.int .i64 y.kind,.int .i64 y.k,.string y.cls,.slice a_args y.args.length c_args],.pointer (some ⟨pb,0,none⟩)] w fun e w'=>
   e=.returned (.bool (gAc S y nx).isSome)∧Below pb w w'∧(∀ nx',gAc S y nx=some nx'→nx'≤60∧w'.cell? ⟨pb,0,none⟩=some (.int .i64 (nx':Int)))∧w'.frozen? ⟨pb,0,none⟩=false:=by
 have B0:∀ o o',Below pb w ((w.alloc o).alloc o'):=fun o o'=>((Below.refl _ _).alloc (by omega) _).alloc (by simp;omega) _
 have B0':∀ o o',Below w.heap.size w ((w.alloc o).alloc o'):=fun o o'=>((Below.refl _ _).alloc (Nat.le_refl _) _).alloc (by simp) _
 have FZ:∀ o o',((w.alloc o).alloc o').frozen? ⟨pb,0,none⟩=false:=fun o o'=>by rw [(bcell (B0' o o')).2 pb 0 hpw];exact hf
 obtain ⟨G⟩:Nonempty (Hid (gAc S y nx=if zaz y && decide (y.args.length≤6) then zaP S y.args nx else none)):=⟨rfl⟩
 have hok':(zaz y && decide (y.args.length≤6))=true:=hok
 have HF:Hid ((zaz y && decide (y.args.length≤6))=true):=hok'
 simp only [Bool.and_eq_true,decide_eq_true_eq] at hok'
 obtain ⟨_,hn⟩:=hok'
 have hn':¬ (6:Int)<(y.args.length:Int):=by omega
 obtain ⟨HV⟩:Nonempty (Hid (za8 q w0 a_exprs x.exprs∧zaU q w0 a_args y.args)):=⟨⟨h_exprs,h_args⟩⟩
 clear hok
 go_enter Tryz.func144,Tryz.ntmps144
 go_wp2_with (go_at_call 71;refine (zav y.cls _ _hcl).mono ?_;rintro e w' ⟨rfl,rfl⟩)
 go_loopw [90] (fun i wr=>∃ (k nk:Nat),k≤y.args.length∧i=.int .i64 k∧nk≤60∧zaP S y.args nx=zaP S (y.args.drop k) nk∧wr.cell? ⟨pb,0,none⟩=some (.int .i64 (nk:Int))∧wr.frozen? ⟨pb,0,none⟩=false∧wr.cell? ⟨w.heap.size,3,none⟩=some (.slice a_exprs x.exprs.length c_exprs)∧Below pb w wr) (fun i _=>y.args.length - (intOf i).toNat)
 case atStart=>exact ⟨0,nx,by omega,rfl,hnx,rfl,by rw [(bcell (B0' _ _)).1 pb 0 hpw];exact hp,FZ _ _,by simp [go_sem],B0 _ _⟩
 case round=>
  obtain ⟨k,nk,hk,rfl,hnk,hG,hp1,hf1,hx1,hb1⟩:=hrel
  have HG:Hid (zaP S y.args nx=zaP S (y.args.drop k) nk):=hG
  clear hG
  have hpr:pb<wr.heap.size:=Nat.lt_of_lt_of_le hpw hb1.size
  have hB:Below w0.heap.size w0 wr:=hb0.trans (hb1.mono hpb)
  by_cases hkl:k<y.args.length
  ·obtain ⟨v,hvk⟩:∃ v,y.args[k]?=some v:=⟨y.args[k],by simp [hkl]⟩
   have HA:=HV.out.2.below hB
   have HE:=HV.out.1.below hB
   obtain ⟨b,o,ea,hq,c0⟩:=HA.get hvk
   subst ea
   have HD:Hid (y.args.drop k=v :: y.args.drop (k+1)):=zan hvk
   have z0:(0:Int)≤(k:Int):=by omega
   have z1:(k:Int)<(y.args.length:Int):=by omega
   have B1:Below wr.heap.size wr wr.drew:=(Below.refl _ _).drew
   by_cases v0:v<0
   ·have HN:Hid (gAc S y nx=none):=show gAc S y nx=none from by
     rw [G.out,HF.out,if_pos rfl,HG.out,HD.out,za0,decide_eq_false (by omega)]
     rfl
    go_wp2
    go_quiet (fail)
    go_wp2
    go_ret
    exact ⟨zac (by rw [HN.out];rfl),za5 hb1,fun nx' h=>(by rw [HN.out] at h;cases h),hf1⟩
   ·by_cases v1:(x.exprs.length:Int)≤v
    ·have HN:Hid (gAc S y nx=none):=show gAc S y nx=none from by
      rw [G.out,HF.out,if_pos rfl,HG.out,HD.out,za0,decide_eq_false (p:=v<(S.length:Int)) (by omega)]
      simp
     have d0:decide (v<0)=false:=decide_eq_false v0
     go_wp2
     go_quiet (fail)
     go_wp2
     go_ret
     exact ⟨zac (by rw [HN.out];rfl),za5 hb1,fun nx' h=>(by rw [HN.out] at h;cases h),hf1⟩
    ·obtain ⟨vn,rfl⟩:=Int.eq_ofNat_of_zero_le (show 0≤v by omega)
     have hvn:vn<S.length:=by omega
     obtain ⟨s,hs⟩:∃ s,S[vn]?=some s:=⟨S[vn],by simp⟩
     have hsl:=zdR hS hs
     cases e3:((s.1:Int) != (nk:Int))
     ·have HN:Hid (gAc S y nx=zaP S (y.args.drop (k+1)) (vn+1)):=show gAc S y nx=_ from by
       have:s.1=nk:=by (simp at e3;omega)
       rw [G.out,HF.out,if_pos rfl,HG.out,HD.out,za0,decide_eq_true (by omega),decide_eq_true (by omega),Int.toNat_natCast,hs,Option.getD_some,decide_eq_true this]
       rfl
      have HM:Hid (zaP S y.args nx=zaP S (y.args.drop (k+1)) (vn+1)):=show zaP S y.args nx=_ from by
       have:=HN.out
       rw [G.out,HF.out,if_pos rfl] at this
       exact this
      have d0:decide ((vn:Int)<0)=false:=decide_eq_false (by omega)
      have d1:decide ((x.exprs.length:Int)≤(vn:Int))=false:=decide_eq_false (by omega)
      have d2:decide (x.exprs.length≤vn)=false:=decide_eq_false (by omega)
      go_wp2
      go_quiet (first | (go_at_call 146;refine Calls.quiet_of_same (zbQ a_exprs c_exprs x.exprs S vn s _ (HE.below ?_) hS hs);exact za5 (Below.refl _ _)))
      go_wp2
      go_roundw
      case rel=>
       refine ⟨k+1,vn+1,by omega,by go_num,by omega,HM.out,?_,?_,?_,?_⟩
       ·have hp2:(wr.drewN nq).cell? ⟨pb,0,none⟩=some (.int .i64 (nk:Int)):=hp1
        simp [go_sem,hp2]
       ·have hf2:(wr.drewN nq).frozen? ⟨pb,0,none⟩=false:=hf1
        simp [go_sem,hf2]
       ·have hx2:(wr.drewN nq).cell? ⟨w.heap.size,3,none⟩=some (.slice a_exprs x.exprs.length c_exprs):=hx1
        have hne:w.heap.size≠pb:=by omega
        rw [zdJ hne]
        exact hx2
       ·exact (za5 hb1).setCell (Nat.le_refl _) _
      case measure=>simp [intOf];omega
     ·have HN:Hid (gAc S y nx=none):=show gAc S y nx=none from by
       have:¬ s.1=nk:=by (simp at e3;omega)
       rw [G.out,HF.out,if_pos rfl,HG.out,HD.out,za0,Int.toNat_natCast,hs,Option.getD_some,decide_eq_false this]
       simp
      have d0:decide ((vn:Int)<0)=false:=decide_eq_false (by omega)
      have d1:decide ((x.exprs.length:Int)≤(vn:Int))=false:=decide_eq_false (by omega)
      have d2:decide (x.exprs.length≤vn)=false:=decide_eq_false (by omega)
      go_wp2
      go_quiet (first | (go_at_call 146;refine Calls.quiet_of_same (zbQ a_exprs c_exprs x.exprs S vn s _ (HE.below ?_) hS hs);exact za5 (Below.refl _ _)))
      go_wp2
      go_ret
      exact ⟨zac (by rw [HN.out];rfl),za5 hb1,fun nx' h=>(by rw [HN.out] at h;cases h),hf1⟩
  ·go_wp2
   go_ret
   have e0:y.args.drop k=[]:=List.drop_eq_nil_of_le (by omega)
   have HN:gAc S y nx=some nk:=by
    rw [G.out,HF.out,if_pos rfl,HG.out,e0]
    rfl
   exact ⟨zac (by rw [HN];rfl),hb1,fun nx' h=>(by rw [HN] at h;injection h with h;subst h;exact ⟨hnk,hp1⟩),hf1⟩
end Go.Proofs.YtmmdlgjmplddiaaGreat
namespace Go.Proofs.YtmmdlgjmplddiaaGreat
open Go.RowKit
attribute [local go_sem ↓] Go.wp_at_zero Go.wp_at_succ
set_option maxHeartbeats 400000 in
theorem zgn (x:Ru) (a_pats:Option Addr) (c_pats:Nat) (a_exprs:Option Addr) (c_exprs:Nat) (a_acts:Option Addr) (c_acts:Nat) (y:Ac) (a_args:Option Addr) (c_args:Nat) (pb nx:Nat) (S:List Sp) {q:Option Nat} (w0 w:World)
  (hb0:Below w0.heap.size w0 w) (h_exprs:za8 q w0 a_exprs x.exprs) (h_args:zaU q w0 a_args y.args) (hS:Spans x.exprs S) (hSl:S.length=x.exprs.length) (hle:x.exprs.length≤60) (hcl:y.cls.size≤maxLen) (hal:y.args.length≤1048576)
  (hp:w.cell? ⟨pb,0,none⟩=some (.int .i64 (nx:Int))) (hf:w.frozen? ⟨pb,0,none⟩=false) (hpb:w0.heap.size≤pb) (hpw:pb<w.heap.size) (hnx:nx≤60) :
  Calls Tryz.prog 144 #[.agg #[.string x.name,.int .i64 x.sal,.slice a_pats x.pats.length c_pats,.slice a_exprs x.exprs.length c_exprs,.slice a_acts x.acts.length c_acts],.agg #[.int .i64 y.kind,.int .i64 y.k,.string y.cls,.slice a_args y.args.length c_args],.pointer (some ⟨pb,0,none⟩)] w fun e w'=>
   e=.returned (.bool (gAc S y nx).isSome)∧Below pb w w'∧(∀ nx',gAc S y nx=some nx'→nx'≤60∧w'.cell? ⟨pb,0,none⟩=some (.int .i64 (nx':Int)))∧w'.frozen? ⟨pb,0,none⟩=false:=by
 cases hok:(zaz y && decide (y.args.length≤6))
 ·exact zhL x a_pats c_pats a_exprs c_exprs a_acts c_acts y a_args c_args pb nx S w hcl hal hf hpw hok
 ·have hok':=hok
  simp only [Bool.and_eq_true,decide_eq_true_eq] at hok'
  obtain ⟨hfo,_⟩:=hok'
  have hk:y.kind=1∧gCls y.cls=true∧y.k=0∨y.kind=2∧y.cls.toList.isEmpty=true∧¬ y.k < -1000000∧¬ 1000000<y.k∧¬ (0:Int)<(y.args.length:Int)∨y.kind=3∧y.cls.toList.isEmpty=true∧¬ y.k < -1000000∧¬ 1000000<y.k∨y.kind=4∧y.cls.toList.isEmpty=true∧y.k=0∧¬ (0:Int)<(y.args.length:Int):=by
   unfold zaz at hfo
   split at hfo
   ·rename_i h
    simp at h hfo
    exact .inl ⟨h,hfo.1,hfo.2⟩
   ·split at hfo
    ·rename_i h
     simp [isE,kOk] at h hfo
     exact .inr (.inl ⟨h,by simp [hfo.1.1],by omega,by omega,by simp [hfo.2]⟩)
    ·split at hfo
     ·rename_i h
      simp [isE,kOk] at h hfo
      exact .inr (.inr (.inl ⟨h,by simp [hfo.1],by omega,by omega⟩))
     ·split at hfo
      ·rename_i h
       simp [isE] at h hfo
       exact .inr (.inr (.inr ⟨h,by simp [hfo.1],hfo.2.1,by simp [hfo.2.2]⟩))
      ·cases hfo
  rcases hk with ⟨k1,hg,k0⟩ | ⟨k2,he,b1,b2,ha⟩ | ⟨k3,he,b1,b2⟩ | ⟨k4,he,k0,ha⟩
  ·exact zgC x a_pats c_pats a_exprs c_exprs a_acts c_acts y a_args c_args pb nx S w0 w hb0 h_exprs h_args hS hSl hle hcl hal hp hf hpb hpw hnx hok k1 hg k0
  ·exact zgW x a_pats c_pats a_exprs c_exprs a_acts c_acts y a_args c_args pb nx S w0 w hb0 h_exprs h_args hS hSl hle hcl hal hp hf hpb hpw hnx hok k2 he b1 b2 ha
  ·exact zgY x a_pats c_pats a_exprs c_exprs a_acts c_acts y a_args c_args pb nx S w0 w hb0 h_exprs h_args hS hSl hle hcl hal hp hf hpb hpw hnx hok k3 he b1 b2
  ·exact zgH x a_pats c_pats a_exprs c_exprs a_acts c_acts y a_args c_args pb nx S w0 w hb0 h_exprs h_args hS hSl hle hcl hal hp hf hpb hpw hnx hok k4 he k0 ha
end Go.Proofs.YtmmdlgjmplddiaaGreat
namespace Go.Proofs.YtmmdlgjmplddiaaGreat
open Go.RowKit
attribute [local go_sem ↓] Go.wp_at_zero Go.wp_at_succ
theorem zaO {B n:Nat}{a w:World} (h:Below B a w):Below B a (w.drewN n):=⟨h.os,h.tape,h.output,h.size,h.block⟩
def arB:List ByteArray:=[⟨#[43]⟩,⟨#[45]⟩,⟨#[42]⟩,⟨#[47]⟩,⟨#[37]⟩]
def oneB (c:Int):ByteArray:=strOfNums [c]
theorem zmP {c:Int} (h0:0≤c) (h1:c<256):memB (oneB c) arB=isAr c:=by
 have key:∀ n:Fin 256,memB (oneB ((n.val:Nat):Int)) arB=isAr ((n.val:Nat):Int):=by decide +kernel
 obtain ⟨n,rfl⟩:=Int.eq_ofNat_of_zero_le h0
 exact key ⟨n,by omega⟩
theorem zcl (c:Int) (w:World) (b:Nat) (h:w.cell? ⟨b,0,none⟩=some (.int .u8 c)):(convert 22 9 (.slice (some ⟨b,0,none⟩) 1 1)).run Tryz.prog w=.ok (.string (oneB c)) w:=
 run_convert_bytes_arg (P:=Tryz.prog) _ 22 5 Tryz.underlying22 Tryz.underlying5 b 0 1 1 [c] rfl (fun i hi=>by
  obtain rfl:i=0:=by omega
  simpa using h) 9 Tryz.underlying9
set_option maxHeartbeats 400000 in
theorem zal (w:World):Calls Tryz.prog 166 #[] w fun e w'=>e=.returned (.slice (some ⟨w.heap.size,0,none⟩) 5 5)∧w'=w.alloc (.cells #[.string ⟨#[43]⟩,.string ⟨#[45]⟩,.string ⟨#[42]⟩,.string ⟨#[47]⟩,.string ⟨#[37]⟩] 9):=by
 go_enter Tryz.func166,Tryz.ntmps166
 go_wp2
 go_ret
 exact ⟨rfl,rfl⟩
theorem zn6 (w:World) (b:Nat) (h:w.heap[b]?=some (.cells #[.string ⟨#[43]⟩,.string ⟨#[45]⟩,.string ⟨#[42]⟩,.string ⟨#[47]⟩,.string ⟨#[37]⟩] 9 (0,0))):zcJ none w (some ⟨b,0,none⟩) arB:=by
 intro i x hx
 refine ⟨b,0,[.string x],rfl,Qb.bare _ _ _,rfl,?_,rfl⟩
 intro j v hj
 have hj0:j=0:=by
  have:=(List.getElem?_eq_some_iff.1 hj).1
  simp at this
  exact this
 subst hj0
 simp at hj
 subst hj
 have hi:i<5:=(List.getElem?_eq_some_iff.1 hx).1
 simp only [World.cell?,h]
 match i,hi with
 | 0,_=>simp [arB] at hx;simp [hx]
 | 1,_=>simp [arB] at hx;simp [hx]
 | 2,_=>simp [arB] at hx;simp [hx]
 | 3,_=>simp [arB] at hx;simp [hx]
 | 4,_=>simp [arB] at hx;simp [hx]
theorem zdc (c:Int) (h0:0≤c) (h1:c<256) (b:Nat) (w:World) (h:w.heap[b]?=some (.cells #[.string ⟨#[43]⟩,.string ⟨#[45]⟩,.string ⟨#[42]⟩,.string ⟨#[47]⟩,.string ⟨#[37]⟩] 9 (0,0))) :
  Calls Tryz.prog 145 #[.string (oneB c),.slice (some ⟨b,0,none⟩) 5 5] w fun e w'=>e=.returned (.bool (isAr c))∧w'=w:=by
 rw [← zmP h0 h1]
 exact zgo (oneB c) _ 5 arB w (zn6 w b h) (by decide)
theorem za6 (w:World) (o:Obj) (b:Nat) (h:b=w.heap.size):(w.alloc o).drew.heap[b]?=some o:=by
 subst h
 exact heap_alloc_new _ _
theorem za7 (w:World) (o o':Obj) (b:Nat) (h:b=w.heap.size):((w.alloc o).alloc o').drew.heap[b]?=some o:=by
 subst h
 exact (Below.heap_alloc _ _ _ (by simp)).trans (heap_alloc_new _ _)
end Go.Proofs.YtmmdlgjmplddiaaGreat
