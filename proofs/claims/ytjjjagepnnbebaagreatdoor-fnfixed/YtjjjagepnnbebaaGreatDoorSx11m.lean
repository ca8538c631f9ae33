/-
  OUR OWN TEXT. The program's words: their faults and values.
-/
import Derived.Test.YtjjjagepnnbebaaGreatDoorKat
import Derived.Test.YtjjjagepnnbebaaGreatDoorKav
import Derived.Test.YtjjjagepnnbebaaGreatDoorKai
set_option maxHeartbeats 1600000
namespace Go.Proofs.YtjjjagepnnbebaaGreatDoor
open Go.RowKit
attribute [local go_sem ↓] Go.wp_at_zero Go.wp_at_succ
theorem zhI:(Tryz.prog.info? 93).map (·.size)=some 3:=by kernel_rfl
theorem zfL(v:V):∀ x∈v.cells,x.oneCell'=true:=by
 intro u E;simp[V.cells]at E;rcases E with rfl | rfl | rfl <;> rfl
theorem cells4X{w:World}{b:Nat}{k pos:Int}{t:Bs}{n:Int}{E:TypeId}(h:w.heap[b]?=some (.cells (pwL k pos t n).toArray E (0,0))):w.cell? ⟨b,0,none⟩=some (.int .i32 k)/\w.cell? ⟨b,1,none⟩=some (.int .i64 pos)/\w.cell? ⟨b,2,none⟩=some (.string (mkS t))/\w.cell? ⟨b,3,none⟩=some (.int .i64 n):=by
 refine ⟨?_,?_,?_,?_⟩ <;> simp[World.cell?,h,pwL]
theorem zc0(k pos:Int)(t:Bs)(n code:Int)(w:World):Calls Tryz.prog 93 #[pwV k pos t n,.int .i64 code] w fun e w'=>e=.returned (.agg #[.int .i64 code,.int .i64 pos])/\Below w.heap.size w w':=by
 unfold pwV;go_enter Tryz.func93,Tryz.ntmps93;go_wp2;exact bodyPost_ret (v:=.agg #[.int .i64 code,.int .i64 pos]) (by simp[results,Tryz.results93,go_sem]) rfl ⟨rfl,((Below.refl _ _).alloc (Nat.le_refl _) _).alloc (by simp) _⟩
def wVal(k n:Int)(t:Bs):V:=if k=48 then (0,n,mkS []) else (1,0,mkS t)
theorem zmf(k pos:Int)(t:Bs)(n:Int)(w:World):Calls Tryz.prog 133 #[pwV k pos t n] w fun e w'=>e=.returned (.agg (wVal k n t).cells.toArray)/\Below w.heap.size w w':=by
 unfold pwV;by_cases hk:k=48
 ·have h1:(k==48)=true:=by simpa using hk
  go_enter Tryz.func133,Tryz.ntmps133;go_wp2;exact bodyPost_ret (v:=.agg #[.int .i64 0,.int .i64 n,.string ⟨#[]⟩]) (by simp[results,Tryz.results133,go_sem]) rfl ⟨by simp[wVal,hk,V.cells,V.kind,V.num,V.sym,mkS],((Below.refl _ _).alloc (Nat.le_refl _) _).alloc (by simp) _⟩
 have h1:(k==48)=false:=by simpa using hk
 go_enter Tryz.func133,Tryz.ntmps133;go_wp2;exact bodyPost_ret (v:=.agg #[.int .i64 1,.int .i64 0,.string (mkS t)]) (by simp[results,Tryz.results133,go_sem]) rfl ⟨by simp[wVal,hk,V.cells,V.kind,V.num,V.sym],((Below.refl _ _).alloc (Nat.le_refl _) _).alloc (by simp) _⟩
end Go.Proofs.YtjjjagepnnbebaaGreatDoor
