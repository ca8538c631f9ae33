/-
  OUR OWN TEXT. The program's side of the checker: an expr's span.
-/
import Derived.Test.YtmmdlgjmplddiaaGreatIc2bm
import Derived.Deep.RegionLaw
namespace Go.Proofs.YtmmdlgjmplddiaaGreat
open Go.RowKit
attribute [local go_sem ↓] Go.wp_at_zero Go.wp_at_succ
theorem size3 (w:World) (o o1 o2:Obj):(((w.alloc o).alloc o1).alloc o2).drew.heap.size=w.heap.size+3:=by
 show (((w.alloc o).alloc o1).alloc o2).heap.size=_
 simp
set_option maxHeartbeats 3200000 in
theorem zkb (e:Ex) (a:Option Addr) (c:Nat) (S:List Sp) (w:World) (hs:e.le maxLen) (k0:e.kind=0) :
  Calls Tryz.prog 151 #[.agg #[.int .i64 e.kind,.int .u8 e.op,.string e.var,.int .i64 e.val.kind,.int .i64 e.val.num,.string e.val.sym,.int .i64 e.a,.int .i64 e.b],.slice a S.length c] w fun r w'=>
   r=.returned (.tuple #[.agg #[.int .i64 (S.length:Int),.int .i64 0],.bool (zaP e && (isE e.var && gVal e.val))])∧Below w.heap.size w w':=by
 obtain ⟨hs1,hs2⟩:=hs
 have B3:∀ o o1 o2,Below w.heap.size w (((w.alloc o).alloc o1).alloc o2):=fun o o1 o2=>(((Below.refl _ _).alloc (Nat.le_refl _) _).alloc (by simp) _).alloc (by simp;omega) _
 by_cases h1:e.op=0
 ·by_cases h4:e.var.toList=[]
  ·by_cases h2:e.a=0
   ·by_cases h3:e.b=0
    ·have HV:Hid ((zaP e && (isE e.var && gVal e.val))=gVal e.val):=show (zaP e && (isE e.var && gVal e.val))=gVal e.val from by simp [zaP,isE,h1,h2,h3,h4]
     go_enter Tryz.func151,Tryz.ntmps151
     go_wp2
     first
     | (go_region_law (first | (go_simp;go_at_call 138;refine (zc8 e.val _ hs2).mono ?_;rintro e' w' ⟨rfl,hb'⟩;have hB':Below w.heap.size w w':=(B3 _ _ _).drew.trans (hb'.mono (by rw [size3];omega));have y0:w'.cell? ⟨w.heap.size+1,0,none⟩=some (.int .i64 0):=zaa hb' (by simp [go_sem]);have y1:w'.cell? ⟨w.heap.size+1,1,none⟩=some (.int .i64 0):=zaa hb' (by simp [go_sem]);have z0:w'.cell? ⟨w.heap.size+1+1,0,none⟩=some (.int .i64 (S.length:Int)):=zaa hb' (by simp [go_sem]);have z1:w'.cell? ⟨w.heap.size+1+1,1,none⟩=some (.int .i64 0):=zaa hb' (by simp [go_sem]);have yf0:w'.frozen? ⟨w.heap.size+1,0,none⟩=false:=(by rw [(bcell hb').2 _ _ (by simp)];simp [go_sem]);have yf1:w'.frozen? ⟨w.heap.size+1,1,none⟩=false:=(by rw [(bcell hb').2 _ _ (by simp)];simp [go_sem]))))
     | fail
     all_goals go_wp2
     all_goals refine bodyPost_ret (v:=.tuple #[.agg #[.int .i64 (S.length:Int),.int .i64 0],.bool (gVal e.val)]) (by simp [results,Tryz.results151,go_sem,y0,y1]) rfl ⟨?_,?_⟩
     all_goals first | (rw [HV.out];done) | exact (hB'.setCell (by simp) _).setCell (by simp) _ | (trace_state;fail)
    ·have HN:Hid ((zaP e && (isE e.var && gVal e.val))=false):=show (zaP e && (isE e.var && gVal e.val))=false from by simp [zaP,h3]
     go_enter Tryz.func151,Tryz.ntmps151
     go_wp2
     go_region
     all_goals go_wp2
     all_goals refine bodyPost_ret (v:=.tuple #[.agg #[.int .i64 (S.length:Int),.int .i64 0],.bool false]) (by simp [results,Tryz.results151,go_sem]) rfl ⟨?_,?_⟩
     all_goals first | (rw [HN.out];done) | (repeat first | exact B3 _ _ _ | refine Below.drew ?_ | refine Below.setCell ?_ (by first | (simp;done) | (simp;omega)) _;done)
   ·have HN:Hid ((zaP e && (isE e.var && gVal e.val))=false):=show (zaP e && (isE e.var && gVal e.val))=false from by simp [zaP,h2]
    go_enter Tryz.func151,Tryz.ntmps151
    go_wp2
    go_region
    all_goals go_wp2
    all_goals refine bodyPost_ret (v:=.tuple #[.agg #[.int .i64 (S.length:Int),.int .i64 0],.bool false]) (by simp [results,Tryz.results151,go_sem]) rfl ⟨?_,?_⟩
    all_goals first | (rw [HN.out];done) | (repeat first | exact B3 _ _ _ | refine Below.drew ?_ | refine Below.setCell ?_ (by first | (simp;done) | (simp;omega)) _;done)
  ·have HN:Hid ((zaP e && (isE e.var && gVal e.val))=false):=show (zaP e && (isE e.var && gVal e.val))=false from by simp [isE,h4]
   go_enter Tryz.func151,Tryz.ntmps151
   go_wp2
   go_region
   all_goals go_wp2
   all_goals refine bodyPost_ret (v:=.tuple #[.agg #[.int .i64 (S.length:Int),.int .i64 0],.bool false]) (by simp [results,Tryz.results151,go_sem]) rfl ⟨?_,?_⟩
   all_goals first | (rw [HN.out];done) | (repeat first | exact B3 _ _ _ | refine Below.drew ?_ | refine Below.setCell ?_ (by first | (simp;done) | (simp;omega)) _;done)
 ·have HN:Hid ((zaP e && (isE e.var && gVal e.val))=false):=show (zaP e && (isE e.var && gVal e.val))=false from by simp [zaP,h1]
  go_enter Tryz.func151,Tryz.ntmps151
  go_wp2
  go_region
  all_goals go_wp2
  all_goals refine bodyPost_ret (v:=.tuple #[.agg #[.int .i64 (S.length:Int),.int .i64 0],.bool false]) (by simp [results,Tryz.results151,go_sem]) rfl ⟨?_,?_⟩
  all_goals first | (rw [HN.out];done) | (repeat first | exact B3 _ _ _ | refine Below.drew ?_ | refine Below.setCell ?_ (by first | (simp;done) | (simp;omega)) _;done)
end Go.Proofs.YtmmdlgjmplddiaaGreat
