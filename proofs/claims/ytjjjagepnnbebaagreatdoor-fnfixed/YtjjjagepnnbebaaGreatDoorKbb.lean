/-
  OUR OWN TEXT. Sx21, Sx22, one behind the other.
-/
import Derived.Test.YtjjjagepnnbebaaGreatDoorKba
import Derived.LaidEql
import Derived.Stop.Asserts
import Derived.RowKitTokens
set_option maxRecDepth 100000
namespace Go.Proofs.YtjjjagepnnbebaaGreatDoor
open Go.RowKit Go.Extern.Stop Go.Stop Go.Extern
attribute [local go_sem ↓] Go.wp_at_zero Go.wp_at_succ
theorem zfb{w:World}{b o:Nat}{v:Value}(h:w.cell? ⟨b,o,none⟩=some v):b<w.heap.size:=World.block_lt_of_cell? w ⟨b,o,none⟩ h
theorem zrV(t:Addr)(w:World):(ReflectliteValue.unpack (.iface 88 (.pointer (some t)))).run Tryz.prog w
  = .ok (.agg #[.pointer (some ⟨8,88,none⟩),.pointer (some ⟨w.heap.size,0,none⟩),.int .u64 150]) (w.alloc (.cells #[.pointer (some t)] 88)):=by kernel_rfl
theorem zqB (a : Addr) (w : World) : (ReflectliteValue.methodAny (ReflectliteValue.valueError "reflectlite.Value.Type" 0) (fun t _ _ _ => ReflectliteType.toType t) #[.agg #[.pointer (some ⟨8, 88, none⟩), .pointer (some a), .int .u64 150]]).run Tryz.prog w
  = .ok (.iface 183 (.agg #[.pointer (some ⟨8,88,none⟩)])) w:=by kernel_rfl
theorem zsf (h : Value) (w : World) : (Go.method 377 183 (.agg #[h]) "Kind").run Tryz.prog w = .ok (210, h) w := by kernel_rfl
theorem zq5(w:World):((ReflectliteType.abiMethod fun t=>Functor.map (fun a:Nat=>Value.int IntKind.u8 (a:Int)) (Rtype.kind t)) #[.pointer (some ⟨8,88,none⟩)]).run Tryz.prog w=.ok (.int .u8 22) w:=by kernel_rfl
theorem zq4(w:World):((ReflectliteType.abiMethod fun t=>Functor.map (fun a:Nat=>Value.int IntKind.u8 (a:Int)) (Rtype.kind t)) #[.pointer (some ⟨8,48,none⟩)]).run Tryz.prog w=.ok (.int .u8 25) w:=by kernel_rfl
theorem zrC(v:Value)(h1:Value->Sem Value)(h2:Array Value->Sem Value):ReflectliteValue.method.match_2 (fun _=>Sem Value) #[v] h1 h2=h1 v:=rfl
theorem zsA(v x:Value)(h1:(v x:Value)->Sem Value)(h2:Array Value->Sem Value):ReflectliteValue.set.match_3 (fun _=>Sem Value) #[v,x] h1 h2=h1 v x:=rfl
theorem zkR(a:Addr)(w:World):(ReflectliteValue.parts (.agg #[.pointer (some ⟨8,88,none⟩),.pointer (some a),.int .u64 150])).run Tryz.prog w=.ok (some (88,a,150)) w:=by kernel_rfl
theorem zrQ(a p:Addr)(W:World)(ha:W.cell? a=some (.pointer (some p))) :
  (ReflectliteValue.method (ReflectliteValue.valueError "reflectlite.Value.IsNil" 0) ReflectliteValue.isNil #[.agg #[.pointer (some ⟨8, 88, none⟩), .pointer (some a), .int .u64 150]]).run Tryz.prog W = .ok (.bool false) W := by
 unfold ReflectliteValue.method
 rw[zrC]
 simp only[Sem.run_bind,zkR,Result.andThen]
 simp[ReflectliteValue.isNil,loadVar,isAgg,underlying,Tryz.underlying88,ha,Result.andThen]
theorem zr5 (h : Value) (w : World) : (Go.method 377 183 (.agg #[h]) "Elem").run Tryz.prog w = .ok (224, .agg #[h]) w := by kernel_rfl
theorem zss (h : Value) (w : World) : (Go.method 377 183 (.agg #[h]) "Implements").run Tryz.prog w = .ok (225, .agg #[h]) w := by kernel_rfl
theorem zsg (h : Value) (w : World) : (Go.method 377 183 (.agg #[h]) "AssignableTo").run Tryz.prog w = .ok (222, .agg #[h]) w := by kernel_rfl
theorem zrb(w:World):(ReflectliteType.method ReflectliteType.elem #[.agg #[.pointer (some ⟨8,88,none⟩)]]).run Tryz.prog w=.ok (.iface 183 (.agg #[.pointer (some ⟨8,48,none⟩)])) w:=by kernel_rfl
theorem zqU (w : World) : (ReflectliteType.relation "Implements" ReflectliteType.implements_ #[.agg #[.pointer (some ⟨8, 48, none⟩)], .iface 183 (.agg #[.pointer (some ⟨8, 85, none⟩)])]).run Tryz.prog w = .ok (.bool true) w := by kernel_rfl
theorem zrw(v:Value)(w:World):(ReflectliteType.typeOf #[.iface 48 v]).run Tryz.prog w=.ok (.iface 183 (.agg #[.pointer (some ⟨8,48,none⟩)])) w:=by kernel_rfl
theorem zrl (w : World) : (ReflectliteType.relation "AssignableTo" ReflectliteType.assignableTo #[.agg #[.pointer (some ⟨8, 48, none⟩)], .iface 183 (.agg #[.pointer (some ⟨8, 48, none⟩)])]).run Tryz.prog w = .ok (.bool true) w := by kernel_rfl
theorem zrJ(x y:Int)(w:World):(ReflectliteValue.unpack (.iface 48 (.agg #[.int .i64 x,.int .i64 y]))).run Tryz.prog w
  = .ok (.agg #[.pointer (some ⟨8,48,none⟩),.pointer (some ⟨w.heap.size,0,none⟩),.int .u64 153]) (w.alloc (.cells #[.int .i64 x,.int .i64 y] 48)):=by kernel_rfl
theorem zpV(w:World):(Rtype.elem? 88).run Tryz.prog w=.ok (some 48) w:=by kernel_rfl
theorem asMk(p:Addr)(w:World):(ReflectliteValue.mk 48 p ReflectliteValue.flagAddr).run Tryz.prog w=.ok (.agg #[.pointer (some ⟨8,48,none⟩),.pointer (some p),.int .u64 409]) w:=by kernel_rfl
theorem zqJ(a p:Addr)(W:World)(ha:W.cell? a=some (.pointer (some p))) :
  (ReflectliteValue.method (ReflectliteValue.valueError "reflectlite.Value.Elem" 0) ReflectliteValue.elem #[.agg #[.pointer (some ⟨8, 88, none⟩), .pointer (some a), .int .u64 150]]).run Tryz.prog W
   = .ok (.agg #[.pointer (some ⟨8,48,none⟩),.pointer (some p),.int .u64 409]) W:=by
 unfold ReflectliteValue.method;rw[zrC];simp only[Sem.run_bind,zkR,Result.andThen];simp[ReflectliteValue.elem,loadVar,isAgg,underlying,Tryz.underlying88,ha,Result.andThen,zpV,asMk]
theorem zoX(a:Addr)(w:World):(ReflectliteValue.parts (.agg #[.pointer (some ⟨8,48,none⟩),.pointer (some a),.int .u64 409])).run Tryz.prog w=.ok (some (48,a,409)) w:=by kernel_rfl
theorem zpL(a:Addr)(w:World):(ReflectliteValue.parts (.agg #[.pointer (some ⟨8,48,none⟩),.pointer (some a),.int .u64 153])).run Tryz.prog w=.ok (some (48,a,153)) w:=by kernel_rfl
theorem zpY(w:World):(Rtype.directlyAssignable 48 48).run Tryz.prog w=.ok true w:=by kernel_rfl
theorem zp9:(Tryz.prog.info? 48).map (·.size)=some 2:=by kernel_rfl
theorem zsB(tb b:Nat)(x y:Int)(W:World)(hb:W.rangeAt b 0 [.int .i64 x,.int .i64 y])(ht:W.there tb 0 2) :
  (ReflectliteValue.set #[.agg #[.pointer (some ⟨8,48,none⟩),.pointer (some ⟨tb,0,none⟩),.int .u64 409],.agg #[.pointer (some ⟨8,48,none⟩),.pointer (some ⟨b,0,none⟩),.int .u64 153]]).run Tryz.prog W
   = .ok (.tuple #[]) (W.setCells tb 0 [.int .i64 x,.int .i64 y]):=by
 have h1:=run_loadVar_mid (P:=Tryz.prog) W b 0 48 [.int .i64 x,.int .i64 y] _ hb Tryz.underlying48 rfl zp9;have h2:=run_storeVar_mid (P:=Tryz.prog) W tb 0 48 #[.int .i64 x,.int .i64 y] ht zp9 (by simp[Value.oneCell']);unfold ReflectliteValue.set;rw[zsA];simp only[Sem.run_bind,zoX,zpL,Result.andThen];simp[ReflectliteValue.flagAddr,h1,zpY,h2,Result.andThen]
set_option maxHeartbeats 4000000 in
theorem zrz(x y:Int)(tb:Nat)(c:Array Value)(w:World)(hg:w.cell? ⟨0,0,none⟩=some (.iface 183 (.agg #[.pointer (some ⟨8,85,none⟩)])))(G:w.heap[tb]?=some (.cells c 48 (0,0)))(hc:c.size=2) :
  Calls Tryz.prog 45 #[.iface 48 (.agg #[.int .i64 x,.int .i64 y]),.iface 88 (.pointer (some ⟨tb,0,none⟩))] w fun ev w'=>ev=.returned (.bool true)/\w'.heap[tb]?=some (.cells #[.int .i64 x,.int .i64 y] 48 (0,0))/\MkO (some tb) w w':=by
 have h6:=@run_callFunc_extern Tryz.prog 88 _ (fun args=>ReflectliteValue.unpack (args.getD 0 (.tuple #[]))) Tryz.func88 (by kernel_rfl) (by kernel_rfl) (by kernel_rfl) (by kernel_rfl);have h7 := @run_callFunc_extern Tryz.prog 89 _ (ReflectliteValue.methodAny (ReflectliteValue.valueError "reflectlite.Value.Type" 0) (fun t _ _ _ => ReflectliteType.toType t)) Tryz.func89 (by kernel_rfl) (by kernel_rfl) (by kernel_rfl) (by kernel_rfl);have h8 := @run_callFunc_extern Tryz.prog 90 _ (ReflectliteValue.method (ReflectliteValue.valueError "reflectlite.Value.IsNil" 0) ReflectliteValue.isNil) Tryz.func90 (by kernel_rfl) (by kernel_rfl) (by kernel_rfl) (by kernel_rfl);have aj:=@run_callFunc_extern Tryz.prog 210 _ (ReflectliteType.abiMethod fun t=>do pure (.int .u8 (← Rtype.kind t))) Tryz.func210 (by kernel_rfl) (by kernel_rfl) (by kernel_rfl) (by kernel_rfl);have ak:=@run_callFunc_extern Tryz.prog 224 _ (ReflectliteType.method ReflectliteType.elem) Tryz.func224 (by kernel_rfl) (by kernel_rfl) (by kernel_rfl) (by kernel_rfl);have aq := @run_callFunc_extern Tryz.prog 225 _ (ReflectliteType.relation "Implements" ReflectliteType.implements_) Tryz.func225 (by kernel_rfl) (by kernel_rfl) (by kernel_rfl) (by kernel_rfl);have ab:=@run_callFunc_extern Tryz.prog 134 _ ReflectliteType.typeOf Tryz.func134 (by kernel_rfl) (by kernel_rfl) (by kernel_rfl) (by kernel_rfl);have al := @run_callFunc_extern Tryz.prog 222 _ (ReflectliteType.relation "AssignableTo" ReflectliteType.assignableTo) Tryz.func222 (by kernel_rfl) (by kernel_rfl) (by kernel_rfl) (by kernel_rfl);have ae := @run_callFunc_extern Tryz.prog 135 _ (ReflectliteValue.method (ReflectliteValue.valueError "reflectlite.Value.Elem" 0) ReflectliteValue.elem) Tryz.func135 (by kernel_rfl) (by kernel_rfl) (by kernel_rfl) (by kernel_rfl);have ap:=@run_callFunc_extern Tryz.prog 136 _ ReflectliteValue.set Tryz.func136 (by kernel_rfl) (by kernel_rfl) (by kernel_rfl) (by kernel_rfl);have q1:=zrV;have q2:=zqB;have q3:=zsf;have q4:=zq5;have q5:=zq4;have q6:=zr5;have q7:=zss;have q8:=zsg;have q9:=zrb;have ag:=zqU;have ah:=zrw;have af:=zrl;have ar:=zrJ;have U:tb<w.heap.size:=zab G;have O:0<w.heap.size:=zfb hg;have n8:=zrQ ⟨w.heap.size,0,none⟩ ⟨tb,0,none⟩ ((w.alloc (.cells #[.pointer (some ⟨tb,0,none⟩)] 88)).alloc (.cells #[.pointer (some ⟨8,88,none⟩),.pointer (some ⟨w.heap.size,0,none⟩),.int .u64 150] 141)) (by simp);have ao:((w.alloc (.cells #[.pointer (some ⟨tb,0,none⟩)] 88)).alloc (.cells #[.pointer (some ⟨8,88,none⟩),.pointer (some ⟨w.heap.size,0,none⟩),.int .u64 150] 141)).cell? ⟨0,0,none⟩=some (.iface 183 (.agg #[.pointer (some ⟨8,85,none⟩)])):=by
  rw[World.cell?_alloc_lt _ _ ⟨0,0,none⟩ (by simp),World.cell?_alloc_lt _ _ ⟨0,0,none⟩ O];exact hg
 have el:=zqJ ⟨w.heap.size,0,none⟩ ⟨tb,0,none⟩ (((w.alloc (.cells #[.pointer (some ⟨tb,0,none⟩)] 88)).alloc (.cells #[.pointer (some ⟨8,88,none⟩),.pointer (some ⟨w.heap.size,0,none⟩),.int .u64 150] 141)).alloc (.cells #[.pointer (some ⟨8,88,none⟩),.pointer (some ⟨w.heap.size,0,none⟩),.int .u64 150] 141)) (by rw[World.cell?_alloc_lt _ _ ⟨w.heap.size,0,none⟩ (by simp;omega)];simp);have B4:Below w.heap.size w ((((w.alloc (.cells #[.pointer (some ⟨tb,0,none⟩)] 88)).alloc (.cells #[.pointer (some ⟨8,88,none⟩),.pointer (some ⟨w.heap.size,0,none⟩),.int .u64 150] 141)).alloc (.cells #[.pointer (some ⟨8,88,none⟩),.pointer (some ⟨w.heap.size,0,none⟩),.int .u64 150] 141)).alloc (.cells #[.int .i64 x,.int .i64 y] 48)):=((((Below.refl _ _).alloc (Nat.le_refl _) _).alloc (by simp) _).alloc (by simp;omega) _).alloc (by simp;omega) _;have E:((((w.alloc (.cells #[.pointer (some ⟨tb,0,none⟩)] 88)).alloc (.cells #[.pointer (some ⟨8,88,none⟩),.pointer (some ⟨w.heap.size,0,none⟩),.int .u64 150] 141)).alloc (.cells #[.pointer (some ⟨8,88,none⟩),.pointer (some ⟨w.heap.size,0,none⟩),.int .u64 150] 141)).alloc (.cells #[.int .i64 x,.int .i64 y] 48)).heap[tb]?=some (.cells c 48 (0,0)):=(B4.block tb U).trans G;have st:=zsB tb (w.heap.size+1+1+1) x y ((((w.alloc (.cells #[.pointer (some ⟨tb,0,none⟩)] 88)).alloc (.cells #[.pointer (some ⟨8,88,none⟩),.pointer (some ⟨w.heap.size,0,none⟩),.int .u64 150] 141)).alloc (.cells #[.pointer (some ⟨8,88,none⟩),.pointer (some ⟨w.heap.size,0,none⟩),.int .u64 150] 141)).alloc (.cells #[.int .i64 x,.int .i64 y] 48)) (by
  have hb:=heap_alloc_new (((w.alloc (.cells #[.pointer (some ⟨tb,0,none⟩)] 88)).alloc (.cells #[.pointer (some ⟨8,88,none⟩),.pointer (some ⟨w.heap.size,0,none⟩),.int .u64 150] 141)).alloc (.cells #[.pointer (some ⟨8,88,none⟩),.pointer (some ⟨w.heap.size,0,none⟩),.int .u64 150] 141)) (.cells #[.int .i64 x,.int .i64 y] 48);have hs:(((w.alloc (.cells #[.pointer (some ⟨tb,0,none⟩)] 88)).alloc (.cells #[.pointer (some ⟨8,88,none⟩),.pointer (some ⟨w.heap.size,0,none⟩),.int .u64 150] 141)).alloc (.cells #[.pointer (some ⟨8,88,none⟩),.pointer (some ⟨w.heap.size,0,none⟩),.int .u64 150] 141)).heap.size=w.heap.size+1+1+1:=by simp
  rw[hs]at hb;exact zal hb) (ze7 E (by simp;omega))
 have X:=hidX B4;have ad:=hidX E;have I:=za0 E (o:=0) [.int .i64 x,.int .i64 y] (by simp;omega);have Z:=hidX I;clear B4 E I;go_enter Tryz.func45,Tryz.ntmps45;go_wp2;refine wp_loop_rounds 1 ?_;rw[rounds_succ];go_wp2;go_ret;refine ⟨rfl,?_,?_⟩
 ·rw[Z.out];have hd:c.toList.drop (0+[Value.int .i64 x,Value.int .i64 y].length)=[]:=List.drop_eq_nil_of_le (by simp;omega);rw[hd];rfl
 exact (MkO.of_below X.out).trans (Turned.setCells _ _ _ _).mko
end Go.Proofs.YtjjjagepnnbebaaGreatDoor
