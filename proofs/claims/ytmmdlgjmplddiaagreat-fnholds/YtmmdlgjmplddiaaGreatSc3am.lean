/-
  OUR OWN TEXT. The model's side of the checker: actions.
-/
import Derived.Test.YtmmdlgjmplddiaaGreatHay
import Derived.Deep.RegionHeld3
import Derived.Deep.DrawnRows
import Derived.BigQuiet
namespace Go.Proofs.YtmmdlgjmplddiaaGreat
open Go.RowKit
attribute [local go_sem ↓] Go.wp_at_zero Go.wp_at_succ
set_option maxHeartbeats 8000000 in
theorem zhL (x:Ru) (a_pats:Option Addr) (c_pats:Nat) (a_exprs:Option Addr) (c_exprs:Nat) (a_acts:Option Addr) (c_acts:Nat) (y:Ac) (a_args:Option Addr) (c_args:Nat) (pb nx:Nat) (S:List Sp) (w:World)
  (hcl:y.cls.size≤maxLen) (hal:y.args.length≤1048576)
  (hf:w.frozen? ⟨pb,0,none⟩=false) (hpw:pb<w.heap.size) (hok:(zaz y && decide (y.args.length≤6))=false) :
  Calls Tryz.prog 144 #[.agg #[.string x.name,.int .i64 x.sal,.slice a_pats x.pats.length c_pats,.slice a_exprs x.exprs.length c_exprs,.slice a_acts x.acts.length c_acts],.agg #[.int .i64 y.kind,.int .i64 y.k,.string y.cls,.slice a_args y.args.length c_args],.pointer (some ⟨pb,0,none⟩)] w fun e w'=>
   e=.returned (.bool (gAc S y nx).isSome)∧Below pb w w'∧(∀ nx',gAc S y nx=some nx'→nx'≤60∧w'.cell? ⟨pb,0,none⟩=some (.int .i64 (nx':Int)))∧w'.frozen? ⟨pb,0,none⟩=false:=by
 have B0:∀ o o',Below pb w ((w.alloc o).alloc o'):=fun o o'=>((Below.refl _ _).alloc (by omega) _).alloc (by simp;omega) _
 have B0':∀ o o',Below w.heap.size w ((w.alloc o).alloc o'):=fun o o'=>((Below.refl _ _).alloc (Nat.le_refl _) _).alloc (by simp) _
 have FZ:∀ o o',((w.alloc o).alloc o').frozen? ⟨pb,0,none⟩=false:=fun o o'=>by rw [(bcell (B0' o o')).2 pb 0 hpw];exact hf
 obtain ⟨G⟩:Nonempty (Hid (gAc S y nx=if zaz y && decide (y.args.length≤6) then zaP S y.args nx else none)):=⟨rfl⟩
 have HF:Hid ((zaz y && decide (y.args.length≤6))=false):=hok
 by_cases hn:6<y.args.length
 ·have hn':(6:Int)<(y.args.length:Int):=by omega
  by_cases k1:y.kind<1
  ·go_enter Tryz.func144,Tryz.ntmps144
   go_wp2_with (go_at_call 71;refine (zav y.cls _ hcl).mono ?_;rintro e w' ⟨rfl,rfl⟩)
   all_goals go_ret
   all_goals exact ⟨zac (by rw [G.out,HF.out];rfl),B0 _ _,fun nx' h=>(by rw [G.out,HF.out] at h;cases h),FZ _ _⟩
  ·by_cases k4:4<y.kind
   ·go_enter Tryz.func144,Tryz.ntmps144
    go_wp2_with (go_at_call 71;refine (zav y.cls _ hcl).mono ?_;rintro e w' ⟨rfl,rfl⟩)
    all_goals go_ret
    all_goals exact ⟨zac (by rw [G.out,HF.out];rfl),B0 _ _,fun nx' h=>(by rw [G.out,HF.out] at h;cases h),FZ _ _⟩
   ·go_enter Tryz.func144,Tryz.ntmps144
    go_wp2_with (go_at_call 71;refine (zav y.cls _ hcl).mono ?_;rintro e w' ⟨rfl,rfl⟩)
    all_goals go_ret
    all_goals exact ⟨zac (by rw [G.out,HF.out];rfl),B0 _ _,fun nx' h=>(by rw [G.out,HF.out] at h;cases h),FZ _ _⟩
 have hn':¬ (6:Int)<(y.args.length:Int):=by omega
 by_cases k1:y.kind=1
 ·cases hg:gCls y.cls
  ·go_enter Tryz.func144,Tryz.ntmps144
   go_wp2_with (go_at_call 71;refine (zav y.cls _ hcl).mono ?_;rintro e w' ⟨rfl,rfl⟩)
   all_goals go_ret
   all_goals exact ⟨zac (by rw [G.out,HF.out];rfl),B0 _ _,fun nx' h=>(by rw [G.out,HF.out] at h;cases h),FZ _ _⟩
  ·by_cases k0:y.k=0
   ·exfalso
    simp [zaz,k1,hg,k0] at hok
    omega
   ·go_enter Tryz.func144,Tryz.ntmps144
    go_wp2_with (go_at_call 71;refine (zav y.cls _ hcl).mono ?_;rintro e w' ⟨rfl,rfl⟩)
    all_goals go_ret
    all_goals exact ⟨zac (by rw [G.out,HF.out];rfl),B0 _ _,fun nx' h=>(by rw [G.out,HF.out] at h;cases h),FZ _ _⟩
 by_cases k2:y.kind=2
 ·by_cases ha:0<y.args.length
  ·have ha':(0:Int)<(y.args.length:Int):=by omega
   go_enter Tryz.func144,Tryz.ntmps144
   go_wp2_with (go_at_call 71;refine (zav y.cls _ hcl).mono ?_;rintro e w' ⟨rfl,rfl⟩)
   all_goals go_ret
   all_goals exact ⟨zac (by rw [G.out,HF.out];rfl),B0 _ _,fun nx' h=>(by rw [G.out,HF.out] at h;cases h),FZ _ _⟩
  ·have ha':¬ (0:Int)<(y.args.length:Int):=by omega
   cases he:y.cls.toList.isEmpty
   ·go_enter Tryz.func144,Tryz.ntmps144
    go_wp2_with (go_at_call 71;refine (zav y.cls _ hcl).mono ?_;rintro e w' ⟨rfl,rfl⟩)
    all_goals go_ret
    all_goals exact ⟨zac (by rw [G.out,HF.out];rfl),B0 _ _,fun nx' h=>(by rw [G.out,HF.out] at h;cases h),FZ _ _⟩
   ·by_cases b1:y.k < -1000000
    ·go_enter Tryz.func144,Tryz.ntmps144
     go_wp2_with (go_at_call 71;refine (zav y.cls _ hcl).mono ?_;rintro e w' ⟨rfl,rfl⟩)
     all_goals go_ret
     all_goals exact ⟨zac (by rw [G.out,HF.out];rfl),B0 _ _,fun nx' h=>(by rw [G.out,HF.out] at h;cases h),FZ _ _⟩
    ·by_cases b2:1000000<y.k
     ·go_enter Tryz.func144,Tryz.ntmps144
      go_wp2_with (go_at_call 71;refine (zav y.cls _ hcl).mono ?_;rintro e w' ⟨rfl,rfl⟩)
      all_goals go_ret
      all_goals exact ⟨zac (by rw [G.out,HF.out];rfl),B0 _ _,fun nx' h=>(by rw [G.out,HF.out] at h;cases h),FZ _ _⟩
     ·exfalso
      have e0:y.args=[]:=List.eq_nil_of_length_eq_zero (by omega)
      have he':y.cls.toList=[]:=by simpa using he
      simp [zaz,k2,isE,he',e0,kOk] at hok
      omega
 by_cases k3:y.kind=3
 ·cases he:y.cls.toList.isEmpty
  ·go_enter Tryz.func144,Tryz.ntmps144
   go_wp2_with (go_at_call 71;refine (zav y.cls _ hcl).mono ?_;rintro e w' ⟨rfl,rfl⟩)
   all_goals go_ret
   all_goals exact ⟨zac (by rw [G.out,HF.out];rfl),B0 _ _,fun nx' h=>(by rw [G.out,HF.out] at h;cases h),FZ _ _⟩
  ·by_cases b1:y.k < -1000000
   ·go_enter Tryz.func144,Tryz.ntmps144
    go_wp2_with (go_at_call 71;refine (zav y.cls _ hcl).mono ?_;rintro e w' ⟨rfl,rfl⟩)
    all_goals go_ret
    all_goals exact ⟨zac (by rw [G.out,HF.out];rfl),B0 _ _,fun nx' h=>(by rw [G.out,HF.out] at h;cases h),FZ _ _⟩
   ·by_cases b2:1000000<y.k
    ·go_enter Tryz.func144,Tryz.ntmps144
     go_wp2_with (go_at_call 71;refine (zav y.cls _ hcl).mono ?_;rintro e w' ⟨rfl,rfl⟩)
     all_goals go_ret
     all_goals exact ⟨zac (by rw [G.out,HF.out];rfl),B0 _ _,fun nx' h=>(by rw [G.out,HF.out] at h;cases h),FZ _ _⟩
    ·exfalso
     have he':y.cls.toList=[]:=by simpa using he
     simp [zaz,k3,isE,he',kOk] at hok
     omega
 by_cases k4:y.kind=4
 ·by_cases ha:0<y.args.length
  ·have ha':(0:Int)<(y.args.length:Int):=by omega
   go_enter Tryz.func144,Tryz.ntmps144
   go_wp2_with (go_at_call 71;refine (zav y.cls _ hcl).mono ?_;rintro e w' ⟨rfl,rfl⟩)
   all_goals go_ret
   all_goals exact ⟨zac (by rw [G.out,HF.out];rfl),B0 _ _,fun nx' h=>(by rw [G.out,HF.out] at h;cases h),FZ _ _⟩
  ·have ha':¬ (0:Int)<(y.args.length:Int):=by omega
   cases he:y.cls.toList.isEmpty
   ·go_enter Tryz.func144,Tryz.ntmps144
    go_wp2_with (go_at_call 71;refine (zav y.cls _ hcl).mono ?_;rintro e w' ⟨rfl,rfl⟩)
    all_goals go_ret
    all_goals exact ⟨zac (by rw [G.out,HF.out];rfl),B0 _ _,fun nx' h=>(by rw [G.out,HF.out] at h;cases h),FZ _ _⟩
   ·by_cases b1:y.k=0
    ·exfalso
     have e0:y.args=[]:=List.eq_nil_of_length_eq_zero (by omega)
     have he':y.cls.toList=[]:=by simpa using he
     simp [zaz,k4,isE,he',e0,b1] at hok
    ·go_enter Tryz.func144,Tryz.ntmps144
     go_wp2_with (go_at_call 71;refine (zav y.cls _ hcl).mono ?_;rintro e w' ⟨rfl,rfl⟩)
     all_goals go_ret
     all_goals exact ⟨zac (by rw [G.out,HF.out];rfl),B0 _ _,fun nx' h=>(by rw [G.out,HF.out] at h;cases h),FZ _ _⟩
 by_cases k5:y.kind<1
 ·go_enter Tryz.func144,Tryz.ntmps144
  go_wp2_with (go_at_call 71;refine (zav y.cls _ hcl).mono ?_;rintro e w' ⟨rfl,rfl⟩)
  all_goals go_ret
  all_goals exact ⟨zac (by rw [G.out,HF.out];rfl),B0 _ _,fun nx' h=>(by rw [G.out,HF.out] at h;cases h),FZ _ _⟩
 ·have k6:4<y.kind:=by omega
  go_enter Tryz.func144,Tryz.ntmps144
  go_wp2_with (go_at_call 71;refine (zav y.cls _ hcl).mono ?_;rintro e w' ⟨rfl,rfl⟩)
  all_goals go_ret
  all_goals exact ⟨zac (by rw [G.out,HF.out];rfl),B0 _ _,fun nx' h=>(by rw [G.out,HF.out] at h;cases h),FZ _ _⟩
end Go.Proofs.YtmmdlgjmplddiaaGreat
