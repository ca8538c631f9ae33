/-
  OUR OWN TEXT. Sx23, Sx24, one behind the other.
-/
import Derived.Test.YtjjjagepnnbebaaGreatDoorKbb
import Derived.Recover
import Derived.Defers
set_option maxHeartbeats 1600000
set_option maxRecDepth 100000
namespace Go.Proofs.YtjjjagepnnbebaaGreatDoor
open Go.RowKit
attribute [local go_sem ↓] Go.wp_at_zero Go.wp_at_succ
def ErrT(w:World):Prop:=w.cell? ⟨0,0,none⟩=some (.iface 183 (.agg #[.pointer (some ⟨8,85,none⟩)]))
theorem zma(w:World):(Instr.typeAssert .nilIface 20 85 true).run Tryz.prog w=.ok (.tuple #[.nilIface,.bool false]) w:=by kernel_rfl
theorem zmm(v:Value)(w:World):(Instr.typeAssert (.iface 48 v) 20 85 true).run Tryz.prog w=.ok (.tuple #[.iface 48 v,.bool true]) w:=by kernel_rfl
theorem zo7(tb:Nat)(w:World) :
  CallsD Tryz.prog 44 #[.pointer (some ⟨tb,0,none⟩)] .returning w fun e I w'=>e=.returned (.tuple #[])/\I=.returning/\w'=w:=by
 have ha:=zma w;refine callsD_of_wpS Tryz.func44 rfl fun E cs G=>?_;apply wpS_seq;apply wpS_region;simp[wpOpsS,go_sem,recoverD,G,Tryz.ntmps44,Exit.thenS,ha,Array.replicate];refine wpS_of_wp ?_;go_wp2_with fail
 cases E
 simp_all [bodyPostS,results,Tryz.results44]
theorem zjo(f:Flt)(tb:Nat)(c:Array Value)(w:World)(hE:ErrT w)(O:w.heap[tb]?=some (.cells c 48 (0,0)))(X:c.size=2)(E:List PanicEntry) :
  CallsD Tryz.prog 44 #[.pointer (some ⟨tb,0,none⟩)] (.panicking ({ v:=.iface 48 (.agg #[.int .i64 f.1,.int .i64 (f.2:Int)]),recovered:=false } :: E)) w fun e Z w'=>
   e=.returned (.tuple #[])/\Z=.panicking ({ v:=.iface 48 (.agg #[.int .i64 f.1,.int .i64 (f.2:Int)]),recovered:=true } :: E)/\w'.heap[tb]?=some (.cells #[.int .i64 f.1,.int .i64 (f.2:Int)] 48 (0,0))/\MkO (some tb) w w':=by
 have HA:=hidX (zrz f.1 f.2 tb c w hE O X);have ha:=zmm (.agg #[.int .i64 f.1,.int .i64 (f.2:Int)]) w;clear hE O X;refine callsD_of_wpS Tryz.func44 rfl fun U cs hu=>?_;apply wpS_seq;apply wpS_region;simp[wpOpsS,go_sem,recoverD,hu,Tryz.ntmps44,Exit.thenS,ha,Array.replicate];refine wpS_of_wp ?_;go_wp2_with (first | (go_at_call 45;refine HA.out.mono ?_;rintro e w2 ⟨rfl,I,G⟩) | fail);simp[bodyPostS,results,Tryz.results44];exact ⟨I,G⟩
theorem ErrT.mko{w w':World}{pb:Nat}(h:ErrT w)(hm:MkO (some pb) w w')(hp:0<pb):ErrT w':=
 (World.cell?_of_block (w:=w) (hm.block 0 (zfb h) (fun e=>by injection e;omega))).trans h
def zh2(w:World)(pb:Nat)(n:Nat)(r:Except Flt Unit)(Q:World->World->Prop)(e:Ending)(w':World):Prop:=MkO (some pb) w w'/\match (if 20000<n then .error (4,0) else r:Except Flt Unit) with
 | .error f=>e=.returned (.agg #[.int .i64 f.1,.int .i64 (f.2:Int)])
 | .ok _=>e=.returned (.agg #[.int .i64 0,.int .i64 0])/\∃ u1 u2,Below w.heap.size w u1/\w.heap.size<u1.heap.size/\Q u1 u2/\(∃ cs,u2.heap[w.heap.size]?=some (.cells cs 48 (0,0)))/\Turned u2 w' w.heap.size
theorem ziO:(Tryz.prog.info? 48).map (·.size)=some 2:=by kernel_rfl
end Go.Proofs.YtjjjagepnnbebaaGreatDoor
