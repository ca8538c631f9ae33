/-
  OUR OWN TEXT. The program's side of Chapter 1: good values.
-/
import Derived.Test.YtjjjagepnnbebaaGreatDoorKac
namespace Go.Proofs.YtjjjagepnnbebaaGreatDoor
open Go.RowKit
set_option maxHeartbeats 800000 in
theorem zeZ(v:V)(w:World)(hs:v.sym.size<=maxLen) :
  Calls Tryz.prog 163 #[.agg #[.int .i64 v.kind,.int .i64 v.num,.string v.sym]] w fun e w'=>
   e=.returned (.bool (gVal v))/\Below w.heap.size w w':=by
 have I:=zHB w;obtain ⟨G⟩:Nonempty (Hid (gVal v=((v.kind==0 && v.sym.toList.isEmpty) || (v.kind==1 && (v.num==0 && gSym v.sym.data.toList))))):=⟨rfl⟩
 have hg:=zaR v.sym (w.alloc (.cells #[.int .i64 v.kind,.int .i64 v.num,.string v.sym] 93)) hs;have hx:Hid ((v.kind==0)=true->(v.kind==1)=false):=fun h=>by simp at h;simp[h]
 cases h1:(v.kind==0) <;> cases h2:v.sym.toList.isEmpty <;> cases h3:(v.kind==1) <;> cases E:(v.num==0)
 all_goals
  first
  | (exfalso;have:=hx.out h1;rw[h3]at this;cases this;done)
  | (go_enter Tryz.func163,Tryz.ntmps163
     go_wp2_with (go_at_call 96;refine hg.mono ?_;rintro e w' ⟨rfl,rfl⟩);go_ret;exact ⟨zah (by rw[G.out,h1,h2,h3,E];simp),I _⟩)
end Go.Proofs.YtjjjagepnnbebaaGreatDoor
