/-
  OUR OWN TEXT. The program's side of the checker: an expr's span.
-/
import Derived.Test.YtmmdlgjmplddiaaGreatIc2bm
import Derived.Deep.RegionLaw
namespace Go.Proofs.YtmmdlgjmplddiaaGreat
open Go.RowKit
attribute [local go_sem ↓] Go.wp_at_zero Go.wp_at_succ
set_option maxHeartbeats 3200000 in
theorem zkE (e:Ex) (a:Option Addr) (c:Nat) (S:List Sp) (w:World) (hs:e.le maxLen) (k1:e.kind=1) :
  Calls Tryz.prog 151 #[.agg #[.int .i64 e.kind,.int .u8 e.op,.string e.var,.int .i64 e.val.kind,.int .i64 e.val.num,.string e.val.sym,.int .i64 e.a,.int .i64 e.b],.slice a S.length c] w fun r w'=>
   r=.returned (.tuple #[.agg #[.int .i64 (S.length:Int),.int .i64 0],.bool (zaP e && (gSym e.var.data.toList && za1 e.val))])∧Below w.heap.size w w':=by
 obtain ⟨hs1,hs2⟩:=hs
 have B3:∀ o o1 o2,Below w.heap.size w (((w.alloc o).alloc o1).alloc o2):=fun o o1 o2=>(((Below.refl _ _).alloc (Nat.le_refl _) _).alloc (by simp) _).alloc (by simp;omega) _
 by_cases h1:e.op=0
 ·by_cases z0:e.val.kind=0
  ·by_cases z1:e.val.num=0
   ·by_cases z2:e.val.sym.toList=[]
    ·by_cases h2:e.a=0
     ·by_cases h3:e.b=0
      ·have HV:Hid ((zaP e && (gSym e.var.data.toList && za1 e.val))=gSym e.var.data.toList):=show (zaP e && (gSym e.var.data.toList && za1 e.val))=gSym e.var.data.toList from by simp [zaP,za1,isE,h1,h2,h3,z0,z1,z2]
       go_enter Tryz.func151,Tryz.ntmps151
       go_wp2
       first
       | (go_region_law (first | (go_simp;go_at_call 106;refine (zaO e.var _ hs1).mono ?_;rintro e' w' ⟨rfl,rfl⟩)))
       | fail
       all_goals go_wp2
       all_goals refine bodyPost_ret (v:=.tuple #[.agg #[.int .i64 (S.length:Int),.int .i64 0],.bool (gSym e.var.data.toList)]) (by simp [results,Tryz.results151,go_sem]) rfl ⟨?_,?_⟩
       all_goals first | (rw [HV.out];done) | (repeat first | exact B3 _ _ _ | refine Below.drew ?_ | refine Below.setCell ?_ (by first | (simp;done) | (simp;omega)) _;done)
      ·have HN:Hid ((zaP e && (gSym e.var.data.toList && za1 e.val))=false):=show (zaP e && (gSym e.var.data.toList && za1 e.val))=false from by simp [zaP,h3]
       go_enter Tryz.func151,Tryz.ntmps151
       go_wp2
       go_region
       all_goals go_wp2
       all_goals refine bodyPost_ret (v:=.tuple #[.agg #[.int .i64 (S.length:Int),.int .i64 0],.bool false]) (by simp [results,Tryz.results151,go_sem]) rfl ⟨?_,?_⟩
       all_goals first | (rw [HN.out];done) | (repeat first | exact B3 _ _ _ | refine Below.drew ?_ | refine Below.setCell ?_ (by first | (simp;done) | (simp;omega)) _;done)
     ·have HN:Hid ((zaP e && (gSym e.var.data.toList && za1 e.val))=false):=show (zaP e && (gSym e.var.data.toList && za1 e.val))=false from by simp [zaP,h2]
      go_enter Tryz.func151,Tryz.ntmps151
      go_wp2
      go_region
      all_goals go_wp2
      all_goals refine bodyPost_ret (v:=.tuple #[.agg #[.int .i64 (S.length:Int),.int .i64 0],.bool false]) (by simp [results,Tryz.results151,go_sem]) rfl ⟨?_,?_⟩
      all_goals first | (rw [HN.out];done) | (repeat first | exact B3 _ _ _ | refine Below.drew ?_ | refine Below.setCell ?_ (by first | (simp;done) | (simp;omega)) _;done)
    ·have HN:Hid ((zaP e && (gSym e.var.data.toList && za1 e.val))=false):=show (zaP e && (gSym e.var.data.toList && za1 e.val))=false from by simp [za1,isE,z2]
     go_enter Tryz.func151,Tryz.ntmps151
     go_wp2
     go_region
     all_goals go_wp2
     all_goals refine bodyPost_ret (v:=.tuple #[.agg #[.int .i64 (S.length:Int),.int .i64 0],.bool false]) (by simp [results,Tryz.results151,go_sem]) rfl ⟨?_,?_⟩
     all_goals first | (rw [HN.out];done) | (repeat first | exact B3 _ _ _ | refine Below.drew ?_ | refine Below.setCell ?_ (by first | (simp;done) | (simp;omega)) _;done)
   ·have HN:Hid ((zaP e && (gSym e.var.data.toList && za1 e.val))=false):=show (zaP e && (gSym e.var.data.toList && za1 e.val))=false from by simp [za1,z1]
    go_enter Tryz.func151,Tryz.ntmps151
    go_wp2
    go_region
    all_goals go_wp2
    all_goals refine bodyPost_ret (v:=.tuple #[.agg #[.int .i64 (S.length:Int),.int .i64 0],.bool false]) (by simp [results,Tryz.results151,go_sem]) rfl ⟨?_,?_⟩
    all_goals first | (rw [HN.out];done) | (repeat first | exact B3 _ _ _ | refine Below.drew ?_ | refine Below.setCell ?_ (by first | (simp;done) | (simp;omega)) _;done)
  ·have HN:Hid ((zaP e && (gSym e.var.data.toList && za1 e.val))=false):=show (zaP e && (gSym e.var.data.toList && za1 e.val))=false from by simp [za1,z0]
   go_enter Tryz.func151,Tryz.ntmps151
   go_wp2
   go_region
   all_goals go_wp2
   all_goals refine bodyPost_ret (v:=.tuple #[.agg #[.int .i64 (S.length:Int),.int .i64 0],.bool false]) (by simp [results,Tryz.results151,go_sem]) rfl ⟨?_,?_⟩
   all_goals first | (rw [HN.out];done) | (repeat first | exact B3 _ _ _ | refine Below.drew ?_ | refine Below.setCell ?_ (by first | (simp;done) | (simp;omega)) _;done)
 ·have HN:Hid ((zaP e && (gSym e.var.data.toList && za1 e.val))=false):=show (zaP e && (gSym e.var.data.toList && za1 e.val))=false from by simp [zaP,h1]
  go_enter Tryz.func151,Tryz.ntmps151
  go_wp2
  go_region
  all_goals go_wp2
  all_goals refine bodyPost_ret (v:=.tuple #[.agg #[.int .i64 (S.length:Int),.int .i64 0],.bool false]) (by simp [results,Tryz.results151,go_sem]) rfl ⟨?_,?_⟩
  all_goals first | (rw [HN.out];done) | (repeat first | exact B3 _ _ _ | refine Below.drew ?_ | refine Below.setCell ?_ (by first | (simp;done) | (simp;omega)) _;done)
end Go.Proofs.YtmmdlgjmplddiaaGreat
