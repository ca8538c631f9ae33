/-
  OUR OWN TEXT. Values compared by an operator: the model's side.
-/
import Derived.Test.YtmmdlgjmplddiaaGreatHas
namespace Go.Proofs.YtmmdlgjmplddiaaGreat
open Go.RowKit
set_option maxHeartbeats 3200000 in
theorem zc2 (v o:V) (op:Int) (w:World) :
  Calls Tryz.prog 35 #[.int .i64 op,.agg #[.int .i64 v.kind,.int .i64 v.num,.string v.sym],.agg #[.int .i64 o.kind,.int .i64 o.num,.string o.sym]] w fun e w'=>
   e=.returned (.bool (meets op v o))∧Below w.heap.size w w':=by
 have B2:∀ o o1,Below w.heap.size w ((w.alloc o).alloc o1):=fun o o1=>((Below.refl _ _).alloc (Nat.le_refl _) _).alloc (by simp) _
 by_cases h1:op=1
 ·subst h1
  cases k1:(v.kind==0) <;> cases k2:(o.kind==0)
  all_goals
   go_enter Tryz.func35,Tryz.ntmps35
   go_wp2
  all_goals go_ret
  all_goals exact ⟨zac (by simp [meets,eqV, *]),B2 _ _⟩
 by_cases h2:op=2
 ·subst h2
  cases k1:(v.kind==0) <;> cases k2:(o.kind==0)
  all_goals
   go_enter Tryz.func35,Tryz.ntmps35
   go_wp2
  all_goals go_ret
  all_goals exact ⟨zac (by simp [meets,eqV, *]),B2 _ _⟩
 by_cases h3:op=3
 ·subst h3
  cases k1:(v.kind==0) <;> cases k2:(o.kind==0)
  all_goals
   go_enter Tryz.func35,Tryz.ntmps35
   go_wp2
  all_goals go_ret
  all_goals exact ⟨zac (by simp [meets,numV, *]),B2 _ _⟩
 by_cases h4:op=4
 ·subst h4
  cases k1:(v.kind==0) <;> cases k2:(o.kind==0)
  all_goals
   go_enter Tryz.func35,Tryz.ntmps35
   go_wp2
  all_goals go_ret
  all_goals exact ⟨zac (by simp [meets,numV, *]),B2 _ _⟩
 by_cases h5:op=5
 ·subst h5
  cases k1:(v.kind==0) <;> cases k2:(o.kind==0)
  all_goals
   go_enter Tryz.func35,Tryz.ntmps35
   go_wp2
  all_goals go_ret
  all_goals exact ⟨zac (by simp [meets,numV, *]),B2 _ _⟩
 by_cases h6:op=6
 ·subst h6
  cases k1:(v.kind==0) <;> cases k2:(o.kind==0)
  all_goals
   go_enter Tryz.func35,Tryz.ntmps35
   go_wp2
  all_goals go_ret
  all_goals exact ⟨zac (by simp [meets,numV, *]),B2 _ _⟩
 cases k1:(v.kind==0) <;> cases k2:(o.kind==0)
 all_goals
  go_enter Tryz.func35,Tryz.ntmps35
  go_wp2
 all_goals go_ret
 all_goals exact ⟨zac (by simp [meets, *]),B2 _ _⟩
end Go.Proofs.YtmmdlgjmplddiaaGreat
