/-
  OUR OWN TEXT. Sx20, Sx21, Sx22, Sx23, one behind the other.
-/
import Derived.Test.YtdhpoagjmiligaaGreatDoorKbc
import Derived.LaidEql
import Derived.Stop.Asserts
import Derived.RowKitTokens
import Derived.Recover
import Derived.Defers
namespace Go.Proofs.YtdhpoagjmiligaaGreatDoor
open Go.RowKit Go.Maps
attribute [local go_sem ↓] Go.wp_at_zero Go.wp_at_succ

def FnM (w : World) (pb mb n : Nat) (f : Bs → Option Nat) : Prop := ∃ D, w.ownsMap Tryz.prog 9 (fnR pb) mb n D ∧ FInv f D
theorem FnM.put {w : World} {pb mb n : Nat} {f : Bs → Option Nat} {t e : TypeId} (h : FnM w pb mb n f) (ht : Tryz.prog.underlying t = some (.map 9 e)) (hn : n ≤ 8) (k : Bs) (hk : k.length ≤ 20000) (i : Nat) : ∃ w', (Instr.mapUpdate t (.map (some mb)) (.string (mkS k)) (mth pb i)).run Tryz.prog w = .ok () w' ∧ FnM w' pb mb (n + 1) (fun s => if s = k then some i else f s) ∧ w.grownBy w' (some mb) := by
  obtain ⟨D, ho, hf⟩ := h
  have hsz : (mkS k).size ≤ maxLen := by rw [mkS_size]; unfold maxLen; omega
  obtain ⟨w', hr, ho', hg⟩ := ho.update lawSx (t := t) ht (by unfold maxLen; omega) (Go.WideMaps.keyOf_string_mk Tryz.underlying9 hsz) (fnR_mth pb i)
  exact ⟨w', hr, ⟨_, ho', hf.put ho.isMap k i⟩, hg⟩
theorem FnM.made (w : World) (pb : Nat) : FnM (w.alloc (.map #[] 0)) pb w.heap.size 0 (fun _ => none) := ⟨_, World.ownsMap_made (H := Unit) w Tryz.prog 9 (fnR pb), FInv.start⟩
/-- Four keys. -/
theorem FnM.four {w : World} {pb mb : Nat} {t e : TypeId} (h : FnM w pb mb 0 (fun _ => none)) (ht : Tryz.prog.underlying t = some (.map 9 e)) (k1 k2 k3 k4 : Bs) (i1 i2 i3 i4 : Nat) (hk : k1.length ≤ 20000 ∧ k2.length ≤ 20000 ∧ k3.length ≤ 20000 ∧ k4.length ≤ 20000) : ∃ w1 w2 w3 w4,
    (Instr.mapUpdate t (.map (some mb)) (.string (mkS k1)) (mth pb i1)).run Tryz.prog w = .ok () w1 ∧ (Instr.mapUpdate t (.map (some mb)) (.string (mkS k2)) (mth pb i2)).run Tryz.prog w1 = .ok () w2 ∧ (Instr.mapUpdate t (.map (some mb)) (.string (mkS k3)) (mth pb i3)).run Tryz.prog w2 = .ok () w3 ∧ (Instr.mapUpdate t (.map (some mb)) (.string (mkS k4)) (mth pb i4)).run Tryz.prog w3 = .ok () w4 ∧
    FnMap w4 pb mb (fun s => if s = k4 then some i4 else if s = k3 then some i3 else if s = k2 then some i2 else if s = k1 then some i1 else none) ∧ MkO (some mb) w w4 := by
  obtain ⟨w1, r1, h1, g1⟩ := h.put ht (by omega) k1 hk.1 i1
  obtain ⟨w2, r2, h2, g2⟩ := h1.put ht (by omega) k2 hk.2.1 i2
  obtain ⟨w3, r3, h3, g3⟩ := h2.put ht (by omega) k3 hk.2.2.1 i3
  obtain ⟨w4, r4, ⟨D, h4, f4⟩, g4⟩ := h3.put ht (by omega) k4 hk.2.2.2 i4
  have mk : ∀ {u v : World}, u.grownBy v (some mb) → MkO (some mb) u v := fun hg => ⟨(Below.refl _ _).grown hg (Nat.zero_le _) (fun _ _ => Nat.zero_le _), fun g hl hne => hg.block g hl (fun e => hne e.symm)⟩
  exact ⟨w1, w2, w3, w4, r1, r2, r3, r4, ⟨4, D, by omega, h4, f4⟩, (((mk g1).trans (mk g2)).trans (mk g3)).trans (mk g4)⟩
def addT : Bs := [97, 100, 100]
def dropT : Bs := [100, 114, 111, 112]
def modT : Bs := [109, 111, 100]
def haltT : Bs := [104, 97, 108, 116]
def actF (s : Bs) : Option Nat := if s = haltT then some 41 else if s = modT then some 40 else if s = dropT then some 39 else if s = addT then some 38 else none
/-- A new parser. -/
def NpPost (a : Option Addr) (n c : Nat) (w : World) (e : Ending) (w' : World) : Prop := e = .returned (.pointer (some ⟨w.heap.size, 0, none⟩)) ∧ Below w.heap.size w w' ∧ ∃ am cm, w'.heap[w.heap.size]? = some (.cells (.slice a n c :: .int .i64 0 :: RL (.map (some am)) (.map (some cm)) (.slice none 0 0) (.slice none 0 0) (.slice none 0 0) (.int .i64 0)).toArray 62 (0, 0)) ∧ FnMap w' w.heap.size am actF ∧ FnMap w' w.heap.size cm cmdF ∧ w.heap.size < am ∧ w.heap.size < cm
set_option maxRecDepth 100000 in
set_option maxHeartbeats 1600000 in
theorem newParser_any (a : Option Addr) (n c : Nat) (w : World) : Calls Tryz.prog 22 #[.slice a n c] w (NpPost a n c w) := by
  have hmf : ∀ (fn : Fn) (first cap : Array Value) (w : World), (Instr.makeFunc fn first cap).run Tryz.prog w = .ok (.func fn first cap) w := fun _ _ _ _ => rfl
  have hm1 := fun w => run_makeMap (P := Tryz.prog) 59 w
  have hm2 := fun w => run_makeMap (P := Tryz.prog) 60 w
  go_enter Tryz.func22, Tryz.ntmps22
  go_upto_region 2 with fail
  refine lift_alloc ?_
  intro w0 hW0 hq0
  have HW0 := hidX hW0
  have hl0 : w.heap.size < w0.heap.size := lt_of_block' hq0
  obtain ⟨v1, v2, v3, v4, r1, r2, r3, r4, hF1, hK1⟩ := (FnM.made w0 w.heap.size).four (t := 59) Tryz.underlying59 addT dropT modT haltT 38 39 40 41 (by decide)
  unfold mth at r1 r2 r3 r4
  simp only [mkS, addT, dropT, modT, haltT] at r1 r2 r3 r4
  have hB4 : Below w0.heap.size w0 v4 := ((Below.refl _ _).alloc (Nat.le_refl _) _).trans (hK1.below (by simp) (fun g e => by injection e; omega))
  have hq4 := (hB4.block w.heap.size hl0).trans hq0
  have HF1 := hidX hF1
  have HB4 := hidX hB4
  have y4 : v4.cell? ⟨w.heap.size, 2, none⟩ = some (.map none) := by simp [World.cell?, hq4]
  have z4 : v4.frozen? ⟨w.heap.size, 2, none⟩ = false := by simp [World.frozen?, hq4]
  have hma : w0.heap.size < v4.heap.size := hF1.lt
  clear hF1 hK1 hB4 hW0
  go_upto_region 3 with fail
  refine lift_setW hq4 ?_
  intro w5 hq5 ht5
  have HF5 := hidX (HF1.out.block (ht5.block w0.heap.size (by omega)))
  have HB5 := hidX (HB4.out)
  have hs5 : v4.heap.size ≤ w5.heap.size := Nat.le_of_eq ht5.size.symm
  have HT5 := hidX ht5
  clear r1 r2 r3 r4 hq4 y4 z4 ht5 HF1
  obtain ⟨u1, u2, u3, u4, r1, r2, r3, r4, hF2, hK2⟩ := (FnM.made w5 w.heap.size).four (t := 60) Tryz.underlying60 assertT retractT modifyT runT 42 43 44 45 (by decide)
  unfold mth at r1 r2 r3 r4
  simp only [mkS, assertT, retractT, modifyT, runT] at r1 r2 r3 r4
  have hB6 : Below w5.heap.size w5 u4 := ((Below.refl _ _).alloc (Nat.le_refl _) _).trans (hK2.below (by simp) (fun g e => by injection e; omega))
  have hq6 := (hB6.block w.heap.size (by omega)).trans hq5
  have HF6 := hidX hF2
  have HF6a := hidX (HF5.out.block (hB6.block w0.heap.size (by omega)))
  have HB6 := hidX hB6
  have y6 : u4.cell? ⟨w.heap.size, 3, none⟩ = some (.map none) := by simp [World.cell?, hq6]
  have z6 : u4.frozen? ⟨w.heap.size, 3, none⟩ = false := by simp [World.frozen?, hq6]
  have hmc : w5.heap.size < u4.heap.size := hF2.lt
  clear hF2 hK2 hB6 hq5
  go_upto_region 4 with fail
  refine lift_setW hq6 ?_
  intro w7 hq7 ht7
  clear r1 r2 r3 r4 y6 z6
  go_wp2_with fail
  go_ret
  refine ⟨rfl, ?_, w0.heap.size, w5.heap.size, ?_, HF6a.out.block (ht7.block w0.heap.size (by omega)), HF6.out.block (ht7.block w5.heap.size (by omega)), hl0, by omega⟩
  · have b1 : Below w.heap.size w v4 := HW0.out.trans (HB4.out.mono (by omega))
    have b2 : Below w.heap.size w w5 := b1.trans (HT5.out.below (Nat.le_refl _))
    have b3 : Below w.heap.size w u4 := b2.trans (HB6.out.mono (by omega))
    exact b3.trans (ht7.below (Nat.le_refl _))
  · rw [hq7]
    rfl
/-- The parser is ready, if its text is not too long. -/
theorem NpPost.ready {src : Bs} {a : Option Addr} {c : Nat} {w w' : World} {am cm : Nat} (hq : w'.heap[w.heap.size]? = some (.cells (.slice a src.length c :: .int .i64 0 :: RL (.map (some am)) (.map (some cm)) (.slice none 0 0) (.slice none 0 0) (.slice none 0 0) (.int .i64 0)).toArray 62 (0, 0))) (hb : Below w.heap.size w w') (hv : BysAt w a src) (hc : src.length ≤ c) (hl : src.length ≤ 20000) (hfar : ∀ b o, a = some ⟨b, o, none⟩ → b < w.heap.size) (hE : EnvAt w w.heap.size) : PSt w' w.heap.size src a c (wordsOf src) (RL (.map (some am)) (.map (some cm)) (.slice none 0 0) (.slice none 0 0) (.slice none 0 0) (.int .i64 0)) :=
  ⟨⟨0, hq, rfl, hc, hl, hv.below hb, hfar, 0, Nat.zero_le _, rfl, rfl⟩, hE.keep hb⟩
end Go.Proofs.YtdhpoagjmiligaaGreatDoor

namespace Go.Proofs.YtdhpoagjmiligaaGreatDoor
open Go.RowKit Go.Extern.Stop Go.Stop Go.Extern
attribute [local go_sem ↓] Go.wp_at_zero Go.wp_at_succ

theorem lt_cellX {w : World} {b o : Nat} {v : Value} (h : w.cell? ⟨b, o, none⟩ = some v) : b < w.heap.size := World.block_lt_of_cell? w ⟨b, o, none⟩ h
theorem asValP (t : Addr) (w : World) : (ReflectliteValue.unpack (.iface 90 (.pointer (some t)))).run Tryz.prog w
    = .ok (.agg #[.pointer (some ⟨8, 90, none⟩), .pointer (some ⟨w.heap.size, 0, none⟩), .int .u64 150]) (w.alloc (.cells #[.pointer (some t)] 90)) := by kernel_rfl
theorem asTypeP (a : Addr) (w : World) : (ReflectliteValue.methodAny (ReflectliteValue.valueError "reflectlite.Value.Type" 0) (fun t _ _ _ => ReflectliteType.toType t) #[.agg #[.pointer (some ⟨8, 90, none⟩), .pointer (some a), .int .u64 150]]).run Tryz.prog w
    = .ok (.iface 149 (.agg #[.pointer (some ⟨8, 90, none⟩)])) w := by kernel_rfl
theorem asKind (h : Value) (w : World) : (Go.method 349 149 (.agg #[h]) "Kind").run Tryz.prog w = .ok (180, h) w := by kernel_rfl
theorem asKindP (w : World) : ((ReflectliteType.abiMethod fun t => Functor.map (fun a : Nat => Value.int IntKind.u8 (a : Int)) (Rtype.kind t)) #[.pointer (some ⟨8, 90, none⟩)]).run Tryz.prog w = .ok (.int .u8 22) w := by kernel_rfl
theorem asKindF (w : World) : ((ReflectliteType.abiMethod fun t => Functor.map (fun a : Nat => Value.int IntKind.u8 (a : Int)) (Rtype.kind t)) #[.pointer (some ⟨8, 55, none⟩)]).run Tryz.prog w = .ok (.int .u8 25) w := by kernel_rfl
theorem asOne (v : Value) (h1 : Value → Sem Value) (h2 : Array Value → Sem Value) : ReflectliteValue.method.match_2 (fun _ => Sem Value) #[v] h1 h2 = h1 v := rfl
theorem asTwo (v x : Value) (h1 : (v x : Value) → Sem Value) (h2 : Array Value → Sem Value) : ReflectliteValue.set.match_3 (fun _ => Sem Value) #[v, x] h1 h2 = h1 v x := rfl
theorem asPartsP (a : Addr) (w : World) : (ReflectliteValue.parts (.agg #[.pointer (some ⟨8, 90, none⟩), .pointer (some a), .int .u64 150])).run Tryz.prog w = .ok (some (90, a, 150)) w := by kernel_rfl
theorem asNilP (a p : Addr) (W : World) (ha : W.cell? a = some (.pointer (some p))) :
    (ReflectliteValue.method (ReflectliteValue.valueError "reflectlite.Value.IsNil" 0) ReflectliteValue.isNil #[.agg #[.pointer (some ⟨8, 90, none⟩), .pointer (some a), .int .u64 150]]).run Tryz.prog W = .ok (.bool false) W := by
  unfold ReflectliteValue.method
  rw [asOne]
  simp only [Sem.run_bind, asPartsP, Result.andThen]
  simp [ReflectliteValue.isNil, loadVar, isAgg, underlying, Tryz.underlying90, ha, Result.andThen]
theorem asElem (h : Value) (w : World) : (Go.method 349 149 (.agg #[h]) "Elem").run Tryz.prog w = .ok (196, .agg #[h]) w := by kernel_rfl
theorem asImpl (h : Value) (w : World) : (Go.method 349 149 (.agg #[h]) "Implements").run Tryz.prog w = .ok (197, .agg #[h]) w := by kernel_rfl
theorem asAssg (h : Value) (w : World) : (Go.method 349 149 (.agg #[h]) "AssignableTo").run Tryz.prog w = .ok (194, .agg #[h]) w := by kernel_rfl
theorem asElemP (w : World) : (ReflectliteType.method ReflectliteType.elem #[.agg #[.pointer (some ⟨8, 90, none⟩)]]).run Tryz.prog w = .ok (.iface 149 (.agg #[.pointer (some ⟨8, 55, none⟩)])) w := by kernel_rfl
theorem asImplF (w : World) : (ReflectliteType.relation "Implements" ReflectliteType.implements_ #[.agg #[.pointer (some ⟨8, 55, none⟩)], .iface 149 (.agg #[.pointer (some ⟨8, 87, none⟩)])]).run Tryz.prog w = .ok (.bool true) w := by kernel_rfl
theorem asTypeF (v : Value) (w : World) : (ReflectliteType.typeOf #[.iface 55 v]).run Tryz.prog w = .ok (.iface 149 (.agg #[.pointer (some ⟨8, 55, none⟩)])) w := by kernel_rfl
theorem asAssgF (w : World) : (ReflectliteType.relation "AssignableTo" ReflectliteType.assignableTo #[.agg #[.pointer (some ⟨8, 55, none⟩)], .iface 149 (.agg #[.pointer (some ⟨8, 55, none⟩)])]).run Tryz.prog w = .ok (.bool true) w := by kernel_rfl
theorem asValF (x y : Int) (w : World) : (ReflectliteValue.unpack (.iface 55 (.agg #[.int .i64 x, .int .i64 y]))).run Tryz.prog w
    = .ok (.agg #[.pointer (some ⟨8, 55, none⟩), .pointer (some ⟨w.heap.size, 0, none⟩), .int .u64 153]) (w.alloc (.cells #[.int .i64 x, .int .i64 y] 55)) := by kernel_rfl
theorem asElemOf (w : World) : (Rtype.elem? 90).run Tryz.prog w = .ok (some 55) w := by kernel_rfl
theorem asMk (p : Addr) (w : World) : (ReflectliteValue.mk 55 p ReflectliteValue.flagAddr).run Tryz.prog w = .ok (.agg #[.pointer (some ⟨8, 55, none⟩), .pointer (some p), .int .u64 409]) w := by kernel_rfl
theorem asElemV (a p : Addr) (W : World) (ha : W.cell? a = some (.pointer (some p))) :
    (ReflectliteValue.method (ReflectliteValue.valueError "reflectlite.Value.Elem" 0) ReflectliteValue.elem #[.agg #[.pointer (some ⟨8, 90, none⟩), .pointer (some a), .int .u64 150]]).run Tryz.prog W
      = .ok (.agg #[.pointer (some ⟨8, 55, none⟩), .pointer (some p), .int .u64 409]) W := by
  unfold ReflectliteValue.method
  rw [asOne]
  simp only [Sem.run_bind, asPartsP, Result.andThen]
  simp [ReflectliteValue.elem, loadVar, isAgg, underlying, Tryz.underlying90, ha, Result.andThen, asElemOf, asMk]
theorem asPartsD (a : Addr) (w : World) : (ReflectliteValue.parts (.agg #[.pointer (some ⟨8, 55, none⟩), .pointer (some a), .int .u64 409])).run Tryz.prog w = .ok (some (55, a, 409)) w := by kernel_rfl
theorem asPartsS (a : Addr) (w : World) : (ReflectliteValue.parts (.agg #[.pointer (some ⟨8, 55, none⟩), .pointer (some a), .int .u64 153])).run Tryz.prog w = .ok (some (55, a, 153)) w := by kernel_rfl
theorem asDirect (w : World) : (Rtype.directlyAssignable 55 55).run Tryz.prog w = .ok true w := by kernel_rfl
theorem infoFl : (Tryz.prog.info? 55).map (·.size) = some 2 := by kernel_rfl
/-- (Value).Set of a fault. -/
theorem asSet (tb b : Nat) (x y : Int) (W : World) (hb : W.rangeAt b 0 [.int .i64 x, .int .i64 y]) (ht : W.there tb 0 2) :
    (ReflectliteValue.set #[.agg #[.pointer (some ⟨8, 55, none⟩), .pointer (some ⟨tb, 0, none⟩), .int .u64 409], .agg #[.pointer (some ⟨8, 55, none⟩), .pointer (some ⟨b, 0, none⟩), .int .u64 153]]).run Tryz.prog W
      = .ok (.tuple #[]) (W.setCells tb 0 [.int .i64 x, .int .i64 y]) := by
  have h1 := run_loadVar_mid (P := Tryz.prog) W b 0 55 [.int .i64 x, .int .i64 y] _ hb Tryz.underlying55 rfl infoFl
  have h2 := run_storeVar_mid (P := Tryz.prog) W tb 0 55 #[.int .i64 x, .int .i64 y] ht infoFl (by simp [Value.oneCell'])
  unfold ReflectliteValue.set
  rw [asTwo]
  simp only [Sem.run_bind, asPartsD, asPartsS, Result.andThen]
  simp [ReflectliteValue.flagAddr, h1, asDirect, h2, Result.andThen]
end Go.Proofs.YtdhpoagjmiligaaGreatDoor

namespace Go.Proofs.YtdhpoagjmiligaaGreatDoor
open Go.RowKit Go.Extern.Stop Go.Stop Go.Extern
attribute [local go_sem ↓] Go.wp_at_zero Go.wp_at_succ

set_option maxRecDepth 100000 in
set_option maxHeartbeats 4000000 in
theorem as_hit (x y : Int) (tb : Nat) (c : Array Value) (w : World) (hg : w.cell? ⟨0, 0, none⟩ = some (.iface 149 (.agg #[.pointer (some ⟨8, 87, none⟩)]))) (ht0 : w.heap[tb]? = some (.cells c 55 (0, 0))) (hc : c.size = 2) :
    Calls Tryz.prog 47 #[.iface 55 (.agg #[.int .i64 x, .int .i64 y]), .iface 90 (.pointer (some ⟨tb, 0, none⟩))] w fun ev w' => ev = .returned (.bool true) ∧ w'.heap[tb]? = some (.cells #[.int .i64 x, .int .i64 y] 55 (0, 0)) ∧ MkO (some tb) w w' := by
  have h6 := @run_callFunc_extern Tryz.prog 81 _ (fun args => ReflectliteValue.unpack (args.getD 0 (.tuple #[]))) Tryz.func81 (by kernel_rfl) (by kernel_rfl) (by kernel_rfl) (by kernel_rfl)
  have h7 := @run_callFunc_extern Tryz.prog 82 _ (ReflectliteValue.methodAny (ReflectliteValue.valueError "reflectlite.Value.Type" 0) (fun t _ _ _ => ReflectliteType.toType t)) Tryz.func82 (by kernel_rfl) (by kernel_rfl) (by kernel_rfl) (by kernel_rfl)
  have h8 := @run_callFunc_extern Tryz.prog 83 _ (ReflectliteValue.method (ReflectliteValue.valueError "reflectlite.Value.IsNil" 0) ReflectliteValue.isNil) Tryz.func83 (by kernel_rfl) (by kernel_rfl) (by kernel_rfl) (by kernel_rfl)
  have h27 := @run_callFunc_extern Tryz.prog 180 _ (ReflectliteType.abiMethod fun t => do pure (.int .u8 (← Rtype.kind t))) Tryz.func180 (by kernel_rfl) (by kernel_rfl) (by kernel_rfl) (by kernel_rfl)
  have h37 := @run_callFunc_extern Tryz.prog 196 _ (ReflectliteType.method ReflectliteType.elem) Tryz.func196 (by kernel_rfl) (by kernel_rfl) (by kernel_rfl) (by kernel_rfl)
  have h38 := @run_callFunc_extern Tryz.prog 197 _ (ReflectliteType.relation "Implements" ReflectliteType.implements_) Tryz.func197 (by kernel_rfl) (by kernel_rfl) (by kernel_rfl) (by kernel_rfl)
  have h10 := @run_callFunc_extern Tryz.prog 105 _ ReflectliteType.typeOf Tryz.func105 (by kernel_rfl) (by kernel_rfl) (by kernel_rfl) (by kernel_rfl)
  have h35 := @run_callFunc_extern Tryz.prog 194 _ (ReflectliteType.relation "AssignableTo" ReflectliteType.assignableTo) Tryz.func194 (by kernel_rfl) (by kernel_rfl) (by kernel_rfl) (by kernel_rfl)
  have h11 := @run_callFunc_extern Tryz.prog 106 _ (ReflectliteValue.method (ReflectliteValue.valueError "reflectlite.Value.Elem" 0) ReflectliteValue.elem) Tryz.func106 (by kernel_rfl) (by kernel_rfl) (by kernel_rfl) (by kernel_rfl)
  have h12 := @run_callFunc_extern Tryz.prog 107 _ ReflectliteValue.set Tryz.func107 (by kernel_rfl) (by kernel_rfl) (by kernel_rfl) (by kernel_rfl)
  have q1 := asValP
  have q2 := asTypeP
  have q3 := asKind
  have q4 := asKindP
  have q5 := asKindF
  have q6 := asElem
  have q7 := asImpl
  have q8 := asAssg
  have q9 := asElemP
  have q10 := asImplF
  have q11 := asTypeF
  have q12 := asAssgF
  have q13 := asValF
  have htl : tb < w.heap.size := lt_of_block' ht0
  have hgl : 0 < w.heap.size := lt_cellX hg
  have n8 := asNilP ⟨w.heap.size, 0, none⟩ ⟨tb, 0, none⟩ ((w.alloc (.cells #[.pointer (some ⟨tb, 0, none⟩)] 90)).alloc (.cells #[.pointer (some ⟨8, 90, none⟩), .pointer (some ⟨w.heap.size, 0, none⟩), .int .u64 150] 122)) (by simp)
  have hg2 : ((w.alloc (.cells #[.pointer (some ⟨tb, 0, none⟩)] 90)).alloc (.cells #[.pointer (some ⟨8, 90, none⟩), .pointer (some ⟨w.heap.size, 0, none⟩), .int .u64 150] 122)).cell? ⟨0, 0, none⟩ = some (.iface 149 (.agg #[.pointer (some ⟨8, 87, none⟩)])) := by
    rw [World.cell?_alloc_lt _ _ ⟨0, 0, none⟩ (by simp), World.cell?_alloc_lt _ _ ⟨0, 0, none⟩ hgl]
    exact hg
  have el := asElemV ⟨w.heap.size, 0, none⟩ ⟨tb, 0, none⟩ (((w.alloc (.cells #[.pointer (some ⟨tb, 0, none⟩)] 90)).alloc (.cells #[.pointer (some ⟨8, 90, none⟩), .pointer (some ⟨w.heap.size, 0, none⟩), .int .u64 150] 122)).alloc (.cells #[.pointer (some ⟨8, 90, none⟩), .pointer (some ⟨w.heap.size, 0, none⟩), .int .u64 150] 122)) (by rw [World.cell?_alloc_lt _ _ ⟨w.heap.size, 0, none⟩ (by simp; omega)]; simp)
  have B4 : Below w.heap.size w ((((w.alloc (.cells #[.pointer (some ⟨tb, 0, none⟩)] 90)).alloc (.cells #[.pointer (some ⟨8, 90, none⟩), .pointer (some ⟨w.heap.size, 0, none⟩), .int .u64 150] 122)).alloc (.cells #[.pointer (some ⟨8, 90, none⟩), .pointer (some ⟨w.heap.size, 0, none⟩), .int .u64 150] 122)).alloc (.cells #[.int .i64 x, .int .i64 y] 55)) := ((((Below.refl _ _).alloc (Nat.le_refl _) _).alloc (by simp) _).alloc (by simp; omega) _).alloc (by simp; omega) _
  have hq4 : ((((w.alloc (.cells #[.pointer (some ⟨tb, 0, none⟩)] 90)).alloc (.cells #[.pointer (some ⟨8, 90, none⟩), .pointer (some ⟨w.heap.size, 0, none⟩), .int .u64 150] 122)).alloc (.cells #[.pointer (some ⟨8, 90, none⟩), .pointer (some ⟨w.heap.size, 0, none⟩), .int .u64 150] 122)).alloc (.cells #[.int .i64 x, .int .i64 y] 55)).heap[tb]? = some (.cells c 55 (0, 0)) := (B4.block tb htl).trans ht0
  have st := asSet tb (w.heap.size + 1 + 1 + 1) x y ((((w.alloc (.cells #[.pointer (some ⟨tb, 0, none⟩)] 90)).alloc (.cells #[.pointer (some ⟨8, 90, none⟩), .pointer (some ⟨w.heap.size, 0, none⟩), .int .u64 150] 122)).alloc (.cells #[.pointer (some ⟨8, 90, none⟩), .pointer (some ⟨w.heap.size, 0, none⟩), .int .u64 150] 122)).alloc (.cells #[.int .i64 x, .int .i64 y] 55)) (by
    have hb := heap_alloc_new (((w.alloc (.cells #[.pointer (some ⟨tb, 0, none⟩)] 90)).alloc (.cells #[.pointer (some ⟨8, 90, none⟩), .pointer (some ⟨w.heap.size, 0, none⟩), .int .u64 150] 122)).alloc (.cells #[.pointer (some ⟨8, 90, none⟩), .pointer (some ⟨w.heap.size, 0, none⟩), .int .u64 150] 122)) (.cells #[.int .i64 x, .int .i64 y] 55)
    have hs : (((w.alloc (.cells #[.pointer (some ⟨tb, 0, none⟩)] 90)).alloc (.cells #[.pointer (some ⟨8, 90, none⟩), .pointer (some ⟨w.heap.size, 0, none⟩), .int .u64 150] 122)).alloc (.cells #[.pointer (some ⟨8, 90, none⟩), .pointer (some ⟨w.heap.size, 0, none⟩), .int .u64 150] 122)).heap.size = w.heap.size + 1 + 1 + 1 := by simp
    rw [hs] at hb
    exact range_blk hb) (there_blk hq4 (by simp; omega))
  have HB4 := hidX B4
  have HQ4 := hidX hq4
  have hS5 := heap_setCells_splice hq4 (o := 0) [.int .i64 x, .int .i64 y] (by simp; omega)
  have HS5 := hidX hS5
  clear B4 hq4 hS5
  go_enter Tryz.func47, Tryz.ntmps47
  go_wp2
  refine wp_loop_rounds 1 ?_
  rw [rounds_succ]
  go_wp2
  go_ret
  refine ⟨rfl, ?_, ?_⟩
  · rw [HS5.out]
    have hd : c.toList.drop (0 + [Value.int .i64 x, Value.int .i64 y].length) = [] := List.drop_eq_nil_of_le (by simp; omega)
    rw [hd]
    rfl
  · exact (MkO.of_below HB4.out).trans (Turned.setCells _ _ _ _).mko
end Go.Proofs.YtdhpoagjmiligaaGreatDoor

namespace Go.Proofs.YtdhpoagjmiligaaGreatDoor
open Go.RowKit
attribute [local go_sem ↓] Go.wp_at_zero Go.wp_at_succ

/-- The error's type, as the library's variable has it. -/
def ErrT (w : World) : Prop := w.cell? ⟨0, 0, none⟩ = some (.iface 149 (.agg #[.pointer (some ⟨8, 87, none⟩)]))
theorem assert_nil (w : World) : (Instr.typeAssert .nilIface 20 87 true).run Tryz.prog w = .ok (.tuple #[.nilIface, .bool false]) w := by kernel_rfl
theorem assert_flt (v : Value) (w : World) : (Instr.typeAssert (.iface 55 v) 20 87 true).run Tryz.prog w = .ok (.tuple #[.iface 55 v, .bool true]) w := by kernel_rfl
set_option maxRecDepth 100000 in
set_option maxHeartbeats 400000 in
theorem ask_idle (tb : Nat) (w : World) :
    CallsD Tryz.prog 46 #[.pointer (some ⟨tb, 0, none⟩)] .returning w fun e u' w' => e = .returned (.tuple #[]) ∧ u' = .returning ∧ w' = w := by
  have ha := assert_nil w
  refine callsD_of_wpS Tryz.func46 rfl fun c₀ cs hu => ?_
  apply wpS_seq
  apply wpS_region
  simp [wpOpsS, go_sem, recoverD, hu, Tryz.ntmps46, Exit.thenS, ha, Array.replicate]
  refine wpS_of_wp ?_
  go_wp2_with fail
  cases c₀
  simp_all [bodyPostS, results, Tryz.results46]
end Go.Proofs.YtdhpoagjmiligaaGreatDoor
