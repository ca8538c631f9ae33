/-
  OUR OWN TEXT. Sx21, Sx22, one behind the other.
-/
import Derived.Test.YtdhpoagjmiligaaGreatDoorKaw
import Derived.LaidEql
import Derived.Stop.Asserts
import Derived.RowKitTokens
namespace Go.Proofs.YtdhpoagjmiligaaGreatDoor
open Go.RowKit Go.Extern.Stop Go.Stop Go.Extern
attribute [local go_sem ↓] Go.wp_at_zero Go.wp_at_succ

theorem lt_cellX {w : World} {b o : Nat} {v : Value} (h : w.cell? ⟨b, o, none⟩ = some v) : b < w.heap.size := World.block_lt_of_cell? w ⟨b, o, none⟩ h
theorem asValP (t : Addr) (w : World) : (ReflectliteValue.unpack (.iface 90 (.pointer (some t)))).run Tryz.prog w
    = .ok (.agg #[.pointer (some ⟨8, 90, none⟩), .pointer (some ⟨w.heap.size, 0, none⟩), .int .u64 150]) (w.alloc (.cells #[.pointer (some t)] 90)) := by kernel_rfl
theorem asTypeP (a : Addr) (w : World) : (ReflectliteValue.methodAny (ReflectliteValue.valueError "reflectlite.Value.Type" 0) (fun t _ _ _ => ReflectliteType.toType t) #[.agg #[.pointer (some ⟨8, 90, none⟩), .pointer (some a), .int .u64 150]]).run Tryz.prog w
    = .ok (.iface 149 (.agg #[.pointer (some ⟨8, 90, none⟩)])) w := by kernel_rfl
theorem asKind (h : Value) (w : World) : (Go.method 349 149 (.agg #[h]) "Kind").run Tryz.prog w = .ok (180, h) w := by kernel_rfl
theorem asKindP (w : World) : ((ReflectliteType.abiMethod fun t => Functor.map (fun a : Nat => Value.int IntKind.u8 (a : Int)) (Rtype.kind t)) #[.pointer (some ⟨8, 90, none⟩)]).run Tryz.prog w = .ok (.int .u8 22) w := by kernel_rfl
theorem asKindF (w : World) : ((ReflectliteType.abiMethod fun t => Functor.map (fun a : Nat => Value.int IntKind.u8 (a : Int)) (Rtype.kind t)) #[.pointer (some ⟨8, 55, none⟩)]).run Tryz.prog w = .ok (.int .u8 25) w := by kernel_rfl
theorem asOne (v : Value) (h1 : Value → Sem Value) (h2 : Array Value → Sem Value) : ReflectliteValue.method.match_2 (fun _ => Sem Value) #[v] h1 h2 = h1 v := rfl
theorem asTwo (v x : Value) (h1 : (v x : Value) → Sem Value) (h2 : Array Value → Sem Value) : ReflectliteValue.set.match_3 (fun _ => Sem Value) #[v, x] h1 h2 = h1 v x := rfl
theorem asPartsP (a : Addr) (w : World) : (ReflectliteValue.parts (.agg #[.pointer (some ⟨8, 90, none⟩), .pointer (some a), .int .u64 150])).run Tryz.prog w = .ok (some (90, a, 150)) w := by kernel_rfl
theorem asNilP (a p : Addr) (W : World) (ha : W.cell? a = some (.pointer (some p))) :
    (ReflectliteValue.method (ReflectliteValue.valueError "reflectlite.Value.IsNil" 0) ReflectliteValue.isNil #[.agg #[.pointer (some ⟨8, 90, none⟩), .pointer (some a), .int .u64 150]]).run Tryz.prog W = .ok (.bool false) W := by
  unfold ReflectliteValue.method
  rw [asOne]
  simp only [Sem.run_bind, asPartsP, Result.andThen]
  simp [ReflectliteValue.isNil, loadVar, isAgg, underlying, Tryz.underlying90, ha, Result.andThen]
theorem asElem (h : Value) (w : World) : (Go.method 349 149 (.agg #[h]) "Elem").run Tryz.prog w = .ok (196, .agg #[h]) w := by kernel_rfl
theorem asImpl (h : Value) (w : World) : (Go.method 349 149 (.agg #[h]) "Implements").run Tryz.prog w = .ok (197, .agg #[h]) w := by kernel_rfl
theorem asAssg (h : Value) (w : World) : (Go.method 349 149 (.agg #[h]) "AssignableTo").run Tryz.prog w = .ok (194, .agg #[h]) w := by kernel_rfl
theorem asElemP (w : World) : (ReflectliteType.method ReflectliteType.elem #[.agg #[.pointer (some ⟨8, 90, none⟩)]]).run Tryz.prog w = .ok (.iface 149 (.agg #[.pointer (some ⟨8, 55, none⟩)])) w := by kernel_rfl
theorem asImplF (w : World) : (ReflectliteType.relation "Implements" ReflectliteType.implements_ #[.agg #[.pointer (some ⟨8, 55, none⟩)], .iface 149 (.agg #[.pointer (some ⟨8, 87, none⟩)])]).run Tryz.prog w = .ok (.bool true) w := by kernel_rfl
theorem asTypeF (v : Value) (w : World) : (ReflectliteType.typeOf #[.iface 55 v]).run Tryz.prog w = .ok (.iface 149 (.agg #[.pointer (some ⟨8, 55, none⟩)])) w := by kernel_rfl
theorem asAssgF (w : World) : (ReflectliteType.relation "AssignableTo" ReflectliteType.assignableTo #[.agg #[.pointer (some ⟨8, 55, none⟩)], .iface 149 (.agg #[.pointer (some ⟨8, 55, none⟩)])]).run Tryz.prog w = .ok (.bool true) w := by kernel_rfl
theorem asValF (x y : Int) (w : World) : (ReflectliteValue.unpack (.iface 55 (.agg #[.int .i64 x, .int .i64 y]))).run Tryz.prog w
    = .ok (.agg #[.pointer (some ⟨8, 55, none⟩), .pointer (some ⟨w.heap.size, 0, none⟩), .int .u64 153]) (w.alloc (.cells #[.int .i64 x, .int .i64 y] 55)) := by kernel_rfl
theorem asElemOf (w : World) : (Rtype.elem? 90).run Tryz.prog w = .ok (some 55) w := by kernel_rfl
theorem asMk (p : Addr) (w : World) : (ReflectliteValue.mk 55 p ReflectliteValue.flagAddr).run Tryz.prog w = .ok (.agg #[.pointer (some ⟨8, 55, none⟩), .pointer (some p), .int .u64 409]) w := by kernel_rfl
theorem asElemV (a p : Addr) (W : World) (ha : W.cell? a = some (.pointer (some p))) :
    (ReflectliteValue.method (ReflectliteValue.valueError "reflectlite.Value.Elem" 0) ReflectliteValue.elem #[.agg #[.pointer (some ⟨8, 90, none⟩), .pointer (some a), .int .u64 150]]).run Tryz.prog W
      = .ok (.agg #[.pointer (some ⟨8, 55, none⟩), .pointer (some p), .int .u64 409]) W := by
  unfold ReflectliteValue.method
  rw [asOne]
  simp only [Sem.run_bind, asPartsP, Result.andThen]
  simp [ReflectliteValue.elem, loadVar, isAgg, underlying, Tryz.underlying90, ha, Result.andThen, asElemOf, asMk]
theorem asPartsD (a : Addr) (w : World) : (ReflectliteValue.parts (.agg #[.pointer (some ⟨8, 55, none⟩), .pointer (some a), .int .u64 409])).run Tryz.prog w = .ok (some (55, a, 409)) w := by kernel_rfl
theorem asPartsS (a : Addr) (w : World) : (ReflectliteValue.parts (.agg #[.pointer (some ⟨8, 55, none⟩), .pointer (some a), .int .u64 153])).run Tryz.prog w = .ok (some (55, a, 153)) w := by kernel_rfl
theorem asDirect (w : World) : (Rtype.directlyAssignable 55 55).run Tryz.prog w = .ok true w := by kernel_rfl
theorem infoFl : (Tryz.prog.info? 55).map (·.size) = some 2 := by kernel_rfl
/-- (Value).Set of a fault. -/
theorem asSet (tb b : Nat) (x y : Int) (W : World) (hb : W.rangeAt b 0 [.int .i64 x, .int .i64 y]) (ht : W.there tb 0 2) :
    (ReflectliteValue.set #[.agg #[.pointer (some ⟨8, 55, none⟩), .pointer (some ⟨tb, 0, none⟩), .int .u64 409], .agg #[.pointer (some ⟨8, 55, none⟩), .pointer (some ⟨b, 0, none⟩), .int .u64 153]]).run Tryz.prog W
      = .ok (.tuple #[]) (W.setCells tb 0 [.int .i64 x, .int .i64 y]) := by
  have h1 := run_loadVar_mid (P := Tryz.prog) W b 0 55 [.int .i64 x, .int .i64 y] _ hb Tryz.underlying55 rfl infoFl
  have h2 := run_storeVar_mid (P := Tryz.prog) W tb 0 55 #[.int .i64 x, .int .i64 y] ht infoFl (by simp [Value.oneCell'])
  unfold ReflectliteValue.set
  rw [asTwo]
  simp only [Sem.run_bind, asPartsD, asPartsS, Result.andThen]
  simp [ReflectliteValue.flagAddr, h1, asDirect, h2, Result.andThen]
end Go.Proofs.YtdhpoagjmiligaaGreatDoor

namespace Go.Proofs.YtdhpoagjmiligaaGreatDoor
open Go.RowKit Go.Extern.Stop Go.Stop Go.Extern
attribute [local go_sem ↓] Go.wp_at_zero Go.wp_at_succ

set_option maxRecDepth 100000 in
set_option maxHeartbeats 4000000 in
theorem as_hit (x y : Int) (tb : Nat) (c : Array Value) (w : World) (hg : w.cell? ⟨0, 0, none⟩ = some (.iface 149 (.agg #[.pointer (some ⟨8, 87, none⟩)]))) (ht0 : w.heap[tb]? = some (.cells c 55 (0, 0))) (hc : c.size = 2) :
    Calls Tryz.prog 47 #[.iface 55 (.agg #[.int .i64 x, .int .i64 y]), .iface 90 (.pointer (some ⟨tb, 0, none⟩))] w fun ev w' => ev = .returned (.bool true) ∧ w'.heap[tb]? = some (.cells #[.int .i64 x, .int .i64 y] 55 (0, 0)) ∧ MkO (some tb) w w' := by
  have h6 := @run_callFunc_extern Tryz.prog 81 _ (fun args => ReflectliteValue.unpack (args.getD 0 (.tuple #[]))) Tryz.func81 (by kernel_rfl) (by kernel_rfl) (by kernel_rfl) (by kernel_rfl)
  have h7 := @run_callFunc_extern Tryz.prog 82 _ (ReflectliteValue.methodAny (ReflectliteValue.valueError "reflectlite.Value.Type" 0) (fun t _ _ _ => ReflectliteType.toType t)) Tryz.func82 (by kernel_rfl) (by kernel_rfl) (by kernel_rfl) (by kernel_rfl)
  have h8 := @run_callFunc_extern Tryz.prog 83 _ (ReflectliteValue.method (ReflectliteValue.valueError "reflectlite.Value.IsNil" 0) ReflectliteValue.isNil) Tryz.func83 (by kernel_rfl) (by kernel_rfl) (by kernel_rfl) (by kernel_rfl)
  have h27 := @run_callFunc_extern Tryz.prog 180 _ (ReflectliteType.abiMethod fun t => do pure (.int .u8 (← Rtype.kind t))) Tryz.func180 (by kernel_rfl) (by kernel_rfl) (by kernel_rfl) (by kernel_rfl)
  have h37 := @run_callFunc_extern Tryz.prog 196 _ (ReflectliteType.method ReflectliteType.elem) Tryz.func196 (by kernel_rfl) (by kernel_rfl) (by kernel_rfl) (by kernel_rfl)
  have h38 := @run_callFunc_extern Tryz.prog 197 _ (ReflectliteType.relation "Implements" ReflectliteType.implements_) Tryz.func197 (by kernel_rfl) (by kernel_rfl) (by kernel_rfl) (by kernel_rfl)
  have h10 := @run_callFunc_extern Tryz.prog 105 _ ReflectliteType.typeOf Tryz.func105 (by kernel_rfl) (by kernel_rfl) (by kernel_rfl) (by kernel_rfl)
  have h35 := @run_callFunc_extern Tryz.prog 194 _ (ReflectliteType.relation "AssignableTo" ReflectliteType.assignableTo) Tryz.func194 (by kernel_rfl) (by kernel_rfl) (by kernel_rfl) (by kernel_rfl)
  have h11 := @run_callFunc_extern Tryz.prog 106 _ (ReflectliteValue.method (ReflectliteValue.valueError "reflectlite.Value.Elem" 0) ReflectliteValue.elem) Tryz.func106 (by kernel_rfl) (by kernel_rfl) (by kernel_rfl) (by kernel_rfl)
  have h12 := @run_callFunc_extern Tryz.prog 107 _ ReflectliteValue.set Tryz.func107 (by kernel_rfl) (by kernel_rfl) (by kernel_rfl) (by kernel_rfl)
  have q1 := asValP
  have q2 := asTypeP
  have q3 := asKind
  have q4 := asKindP
  have q5 := asKindF
  have q6 := asElem
  have q7 := asImpl
  have q8 := asAssg
  have q9 := asElemP
  have q10 := asImplF
  have q11 := asTypeF
  have q12 := asAssgF
  have q13 := asValF
  have htl : tb < w.heap.size := lt_of_block' ht0
  have hgl : 0 < w.heap.size := lt_cellX hg
  have n8 := asNilP ⟨w.heap.size, 0, none⟩ ⟨tb, 0, none⟩ ((w.alloc (.cells #[.pointer (some ⟨tb, 0, none⟩)] 90)).alloc (.cells #[.pointer (some ⟨8, 90, none⟩), .pointer (some ⟨w.heap.size, 0, none⟩), .int .u64 150] 122)) (by simp)
  have hg2 : ((w.alloc (.cells #[.pointer (some ⟨tb, 0, none⟩)] 90)).alloc (.cells #[.pointer (some ⟨8, 90, none⟩), .pointer (some ⟨w.heap.size, 0, none⟩), .int .u64 150] 122)).cell? ⟨0, 0, none⟩ = some (.iface 149 (.agg #[.pointer (some ⟨8, 87, none⟩)])) := by
    rw [World.cell?_alloc_lt _ _ ⟨0, 0, none⟩ (by simp), World.cell?_alloc_lt _ _ ⟨0, 0, none⟩ hgl]
    exact hg
  have el := asElemV ⟨w.heap.size, 0, none⟩ ⟨tb, 0, none⟩ (((w.alloc (.cells #[.pointer (some ⟨tb, 0, none⟩)] 90)).alloc (.cells #[.pointer (some ⟨8, 90, none⟩), .pointer (some ⟨w.heap.size, 0, none⟩), .int .u64 150] 122)).alloc (.cells #[.pointer (some ⟨8, 90, none⟩), .pointer (some ⟨w.heap.size, 0, none⟩), .int .u64 150] 122)) (by rw [World.cell?_alloc_lt _ _ ⟨w.heap.size, 0, none⟩ (by simp; omega)]; simp)
  have B4 : Below w.heap.size w ((((w.alloc (.cells #[.pointer (some ⟨tb, 0, none⟩)] 90)).alloc (.cells #[.pointer (some ⟨8, 90, none⟩), .pointer (some ⟨w.heap.size, 0, none⟩), .int .u64 150] 122)).alloc (.cells #[.pointer (some ⟨8, 90, none⟩), .pointer (some ⟨w.heap.size, 0, none⟩), .int .u64 150] 122)).alloc (.cells #[.int .i64 x, .int .i64 y] 55)) := ((((Below.refl _ _).alloc (Nat.le_refl _) _).alloc (by simp) _).alloc (by simp; omega) _).alloc (by simp; omega) _
  have hq4 : ((((w.alloc (.cells #[.pointer (some ⟨tb, 0, none⟩)] 90)).alloc (.cells #[.pointer (some ⟨8, 90, none⟩), .pointer (some ⟨w.heap.size, 0, none⟩), .int .u64 150] 122)).alloc (.cells #[.pointer (some ⟨8, 90, none⟩), .pointer (some ⟨w.heap.size, 0, none⟩), .int .u64 150] 122)).alloc (.cells #[.int .i64 x, .int .i64 y] 55)).heap[tb]? = some (.cells c 55 (0, 0)) := (B4.block tb htl).trans ht0
  have st := asSet tb (w.heap.size + 1 + 1 + 1) x y ((((w.alloc (.cells #[.pointer (some ⟨tb, 0, none⟩)] 90)).alloc (.cells #[.pointer (some ⟨8, 90, none⟩), .pointer (some ⟨w.heap.size, 0, none⟩), .int .u64 150] 122)).alloc (.cells #[.pointer (some ⟨8, 90, none⟩), .pointer (some ⟨w.heap.size, 0, none⟩), .int .u64 150] 122)).alloc (.cells #[.int .i64 x, .int .i64 y] 55)) (by
    have hb := heap_alloc_new (((w.alloc (.cells #[.pointer (some ⟨tb, 0, none⟩)] 90)).alloc (.cells #[.pointer (some ⟨8, 90, none⟩), .pointer (some ⟨w.heap.size, 0, none⟩), .int .u64 150] 122)).alloc (.cells #[.pointer (some ⟨8, 90, none⟩), .pointer (some ⟨w.heap.size, 0, none⟩), .int .u64 150] 122)) (.cells #[.int .i64 x, .int .i64 y] 55)
    have hs : (((w.alloc (.cells #[.pointer (some ⟨tb, 0, none⟩)] 90)).alloc (.cells #[.pointer (some ⟨8, 90, none⟩), .pointer (some ⟨w.heap.size, 0, none⟩), .int .u64 150] 122)).alloc (.cells #[.pointer (some ⟨8, 90, none⟩), .pointer (some ⟨w.heap.size, 0, none⟩), .int .u64 150] 122)).heap.size = w.heap.size + 1 + 1 + 1 := by simp
    rw [hs] at hb
    exact range_blk hb) (there_blk hq4 (by simp; omega))
  have HB4 := hidX B4
  have HQ4 := hidX hq4
  have hS5 := heap_setCells_splice hq4 (o := 0) [.int .i64 x, .int .i64 y] (by simp; omega)
  have HS5 := hidX hS5
  clear B4 hq4 hS5
  go_enter Tryz.func47, Tryz.ntmps47
  go_wp2
  refine wp_loop_rounds 1 ?_
  rw [rounds_succ]
  go_wp2
  go_ret
  refine ⟨rfl, ?_, ?_⟩
  · rw [HS5.out]
    have hd : c.toList.drop (0 + [Value.int .i64 x, Value.int .i64 y].length) = [] := List.drop_eq_nil_of_le (by simp; omega)
    rw [hd]
    rfl
  · exact (MkO.of_below HB4.out).trans (Turned.setCells _ _ _ _).mko
end Go.Proofs.YtdhpoagjmiligaaGreatDoor
