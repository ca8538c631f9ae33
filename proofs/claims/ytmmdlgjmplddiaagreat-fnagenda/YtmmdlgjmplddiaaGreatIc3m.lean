/-
  OUR OWN TEXT. The program's side of the checker: actions.
-/
import Derived.Test.YtmmdlgjmplddiaaGreatKat
import Derived.Test.YtmmdlgjmplddiaaGreatKav
namespace Go.Proofs.YtmmdlgjmplddiaaGreat
open Go.RowKit
attribute [local go_sem ↓] Go.wp_at_zero Go.wp_at_succ
theorem zbq (y:Ac) (k1 k2 k3 k4:Bool) (x:Bool) (h1:(y.kind==1)=k1) (h2:(y.kind==2)=k2) (h3:(y.kind==3)=k3) (h4:(y.kind==4)=k4) (h:x=(if k1 then gCls y.cls && y.k==0
  else if k2 then (y.cls.toList.isEmpty && (decide (-1000000≤y.k) && decide (y.k≤1000000))) && ((y.args.length:Int)==0)
  else if k3 then y.cls.toList.isEmpty && (decide (-1000000≤y.k) && decide (y.k≤1000000))
  else if k4 then y.cls.toList.isEmpty && (y.k==0 && ((y.args.length:Int)==0))
  else false)):x=zay y:=by
 have L:y.args.isEmpty=((y.args.length:Int)==0):=by
  cases y.args with
  | nil=>rfl
  | cons v r=>simp;omega
 rw [h,← h1,← h2,← h3,← h4,← L]
 rfl
set_option maxHeartbeats 800000 in
theorem zcA (y:Ac) (a_args:Option Addr) (c_args:Nat) (w:World) (hcl:y.cls.size≤maxLen) :
  Calls Tryz.prog 152 #[.agg #[.int .i64 y.kind,.int .i64 y.k,.string y.cls,.slice a_args y.args.length c_args]] w fun e w'=>
   e=.returned (.bool (zay y))∧Below w.heap.size w w':=by
 have B1:∀ o,Below w.heap.size w (w.alloc o):=fun o=>(Below.refl _ _).alloc (Nat.le_refl _) _
 cases he:y.cls.toList.isEmpty
 ·by_cases k1:y.kind=1
  ·cases hg:gCls y.cls
   all_goals
    go_enter Tryz.func152,Tryz.ntmps152
    go_wp2_with (go_at_call 134;refine (zb4 y.cls _ hcl).mono ?_;rintro e w' ⟨rfl,rfl⟩)
    go_ret
    exact ⟨zac (zbq y true false false false _ (by simp [k1]) (by simp [k1]) (by simp [k1]) (by simp [k1]) (by simp [hg])),B1 _⟩
  by_cases k2:y.kind=2
  ·go_enter Tryz.func152,Tryz.ntmps152
   go_wp2
   go_ret
   exact ⟨zac (zbq y false true false false _ (by simp [k2]) (by simp [k2]) (by simp [k2]) (by simp [k2]) (by simp [he])),B1 _⟩
  by_cases k3:y.kind=3
  ·go_enter Tryz.func152,Tryz.ntmps152
   go_wp2
   go_ret
   exact ⟨zac (zbq y false false true false _ (by simp [k3]) (by simp [k3]) (by simp [k3]) (by simp [k3]) (by simp [he])),B1 _⟩
  by_cases k4:y.kind=4
  ·go_enter Tryz.func152,Tryz.ntmps152
   go_wp2
   go_ret
   exact ⟨zac (zbq y false false false true _ (by simp [k4]) (by simp [k4]) (by simp [k4]) (by simp [k4]) (by simp [he])),B1 _⟩
  ·go_enter Tryz.func152,Tryz.ntmps152
   go_wp2
   go_ret
   exact ⟨zac (zbq y false false false false _ (by simpa using k1) (by simpa using k2) (by simpa using k3) (by simpa using k4) rfl),B1 _⟩
 ·have hb:(-1000000≤y.k∧y.k≤1000000)∨(¬ -1000000≤y.k∧y.k≤1000000)∨(-1000000≤y.k∧¬ y.k≤1000000):=by omega
  rcases hb with ⟨b1,b2⟩ | ⟨b1,b2⟩ | ⟨b1,b2⟩
  all_goals
   by_cases k1:y.kind=1
   ·cases hg:gCls y.cls
    all_goals
     go_enter Tryz.func152,Tryz.ntmps152
     go_wp2_with (go_at_call 134;refine (zb4 y.cls _ hcl).mono ?_;rintro e w' ⟨rfl,rfl⟩)
     go_ret
     exact ⟨zac (zbq y true false false false _ (by simp [k1]) (by simp [k1]) (by simp [k1]) (by simp [k1]) (by simp [hg])),B1 _⟩
   by_cases k2:y.kind=2
   ·go_enter Tryz.func152,Tryz.ntmps152
    go_wp2
    go_ret
    exact ⟨zac (zbq y false true false false _ (by simp [k2]) (by simp [k2]) (by simp [k2]) (by simp [k2]) (by simp [he,b1,b2] <;> intros <;> omega)),B1 _⟩
   by_cases k3:y.kind=3
   ·go_enter Tryz.func152,Tryz.ntmps152
    go_wp2
    go_ret
    exact ⟨zac (zbq y false false true false _ (by simp [k3]) (by simp [k3]) (by simp [k3]) (by simp [k3]) (by simp [he,b1,b2] <;> intros <;> omega)),B1 _⟩
   by_cases k4:y.kind=4
   ·by_cases z0:y.k=0
    ·first
     | (exfalso;omega)
     | (go_enter Tryz.func152,Tryz.ntmps152
        go_wp2
        go_ret
        exact ⟨zac (zbq y false false false true _ (by simp [k4]) (by simp [k4]) (by simp [k4]) (by simp [k4]) (by simp [he,z0])),(Below.refl _ _).alloc (Nat.le_refl _) _⟩)
    ·go_enter Tryz.func152,Tryz.ntmps152
     go_wp2
     go_ret
     exact ⟨zac (zbq y false false false true _ (by simp [k4]) (by simp [k4]) (by simp [k4]) (by simp [k4]) (by simp [he,z0])),(Below.refl _ _).alloc (Nat.le_refl _) _⟩
   ·go_enter Tryz.func152,Tryz.ntmps152
    go_wp2
    go_ret
    exact ⟨zac (zbq y false false false false _ (by simpa using k1) (by simpa using k2) (by simpa using k3) (by simpa using k4) rfl),B1 _⟩
end Go.Proofs.YtmmdlgjmplddiaaGreat
