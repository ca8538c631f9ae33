/-
  OUR OWN TEXT. The program's parser: the first fault, where there is one.
-/
import Derived.Test.YtdhpoagjmiligaaGreatDoorKbe
namespace Go.Proofs.YtdhpoagjmiligaaGreatDoor
open Go.RowKit
attribute [local go_sem ↓] Go.wp_at_zero Go.wp_at_succ

set_option maxRecDepth 100000 in
set_option maxHeartbeats 1600000 in
/-- The deferred question, behind a fault. -/
theorem ask_fault (f : Flt) (tb : Nat) (c : Array Value) (w : World) (hE : ErrT w) (hq : w.heap[tb]? = some (.cells c 55 (0, 0))) (hc : c.size = 2) (older : List PanicEntry) :
    CallsD Tryz.prog 46 #[.pointer (some ⟨tb, 0, none⟩)] (.panicking ({ v := .iface 55 (.agg #[.int .i64 f.1, .int .i64 (f.2 : Int)]), recovered := false } :: older)) w fun e u' w' =>
      e = .returned (.tuple #[]) ∧ u' = .panicking ({ v := .iface 55 (.agg #[.int .i64 f.1, .int .i64 (f.2 : Int)]), recovered := true } :: older) ∧ w'.heap[tb]? = some (.cells #[.int .i64 f.1, .int .i64 (f.2 : Int)] 55 (0, 0)) ∧ MkO (some tb) w w' := by
  have HA := hidX (as_hit f.1 f.2 tb c w hE hq hc)
  have ha := assert_flt (.agg #[.int .i64 f.1, .int .i64 (f.2 : Int)]) w
  clear hE hq hc
  refine callsD_of_wpS Tryz.func46 rfl fun c₀ cs hu => ?_
  apply wpS_seq
  apply wpS_region
  simp [wpOpsS, go_sem, recoverD, hu, Tryz.ntmps46, Exit.thenS, ha, Array.replicate]
  refine wpS_of_wp ?_
  go_wp2_with (first | (go_at_call 47; refine HA.out.mono ?_; rintro e w2 ⟨rfl, hq2, hm2⟩) | fail)
  simp [bodyPostS, results, Tryz.results46]
  exact ⟨hq2, hm2⟩
theorem ErrT.mko {w w' : World} {pb : Nat} (h : ErrT w) (hm : MkO (some pb) w w') (hp : 0 < pb) : ErrT w' :=
  (World.cell?_of_block (w := w) (hm.block 0 (lt_cellX h) (fun e => by injection e; omega))).trans h
/-- What the first fault tells. -/
def FfPost (w : World) (pb : Nat) (n : Nat) (r : Except Flt Unit) (Q : World → World → Prop) (e : Ending) (w' : World) : Prop := MkO (some pb) w w' ∧ match (if 20000 < n then .error (4, 0) else r : Except Flt Unit) with
  | .error f => e = .returned (.agg #[.int .i64 f.1, .int .i64 (f.2 : Int)])
  | .ok _ => e = .returned (.agg #[.int .i64 0, .int .i64 0]) ∧ ∃ u1 u2, Below w.heap.size w u1 ∧ w.heap.size < u1.heap.size ∧ Q u1 u2 ∧ (∃ cs, u2.heap[w.heap.size]? = some (.cells cs 55 (0, 0))) ∧ Turned u2 w' w.heap.size
theorem infoFlt : (Tryz.prog.info? 55).map (·.size) = some 2 := by kernel_rfl
set_option maxRecDepth 100000 in
set_option maxHeartbeats 1600000 in
theorem ffScript_any (w : World) (pb : Nat) (src : Bs) (a : Option Addr) (c : Nat) (h : w.cell? ⟨pb, 0, none⟩ = some (.slice a src.length c)) (hE : ErrT w) (hgp : 0 < pb) (r : Except Flt Unit) (Q : World → World → Prop)
    (hrd : src.length ≤ 20000 → ∀ u, Below w.heap.size w u → Calls Tryz.prog 29 #[.pointer (some ⟨pb, 0, none⟩)] u fun e w' => MkO (some pb) u w' ∧ match r with | .error f => e = fltE f | .ok _ => e = .returned (.tuple #[]) ∧ Q u w') :
    Calls Tryz.prog 23 #[.pointer (some ⟨pb, 0, none⟩), .func (.func 29) #[.pointer (some ⟨pb, 0, none⟩)] #[]] w (FfPost w pb src.length r Q) := by
  have hmf : ∀ (fn : Fn) (first cap : Array Value) (w : World), (Instr.makeFunc fn first cap).run Tryz.prog w = .ok (.func fn first cap) w := fun _ _ _ _ => rfl
  have hpb := World.block_lt_of_cell? w ⟨pb, 0, none⟩ h
  have HE := hidX hE
  have HRD := hidX hrd
  clear hE hrd
  go_enter_defers Tryz.func23, Tryz.ntmps23
  go_upto_region 2 with fail
  refine lift_alloc ?_
  intro w1 hW1 hq1
  have hl1 : w.heap.size < w1.heap.size := lt_of_block' hq1
  have c0 := cell_below hW1 h
  have M1 := hidX (MkO.of_below hW1 : MkO (some pb) w w1)
  have HW1 := hidX hW1
  have HQ1 := hidX hq1
  have E1 := hidX (HE.out.mko M1.out hgp)
  clear hW1 hq1 h
  by_cases hl : 20000 < src.length
  · have hl' : (20000 : Int) < (src.length : Int) := by omega
    have HL := hidX hl
    clear hl
    go_wp2_with fail
    refine leaves_cons (f := 46) (args := #[.pointer (some ⟨w.heap.size, 0, none⟩)]) (by simp) (by simp [go_sem]) ?_
    refine (ask_fault (4, 0) w.heap.size _ w1 E1.out HQ1.out rfl []).mono ?_
    rintro e u' w2 ⟨rfl, rfl, hq2, hm2⟩
    have hld := run_loadVar_mid (P := Tryz.prog) w2 w.heap.size 0 55 [.int .i64 4, .int .i64 ((0 : Nat) : Int)] _ (range_blk hq2) Tryz.underlying55 rfl infoFlt
    have hP : FfPost w pb src.length r Q (.returned (.agg #[.int .i64 4, .int .i64 ((0 : Nat) : Int)])) w2 := by
      refine ⟨?_, ?_⟩
      · exact ⟨(M1.out.rest).trans hm2.rest, fun g hg hne => (hm2.block g (by omega) (fun e => by injection e; omega)).trans (M1.out.block g hg hne)⟩
      · rw [if_pos HL.out]
    simp [Leaves, settle, results, Tryz.results23, asAddr, hld]
    exact hP
  · have hl' : ¬ (20000 : Int) < (src.length : Int) := by omega
    have HL := hidX hl
    replace HRD := hidX (HRD.out (by omega) w1 HW1.out)
    cases r with
    | error f =>
      clear hl
      go_wp2_with (first | (go_at_call 29; refine HRD.out.mono ?_; rintro e w2 ⟨hm2, rfl⟩; unfold fltE) | fail)
      have hq2 := (hm2.block w.heap.size hl1 (fun e => by injection e; omega)).trans HQ1.out
      refine leaves_cons (f := 46) (args := #[.pointer (some ⟨w.heap.size, 0, none⟩)]) (by simp) (by simp [go_sem]) ?_
      refine (ask_fault f w.heap.size _ w2 (E1.out.mko hm2 hgp) hq2 rfl []).mono ?_
      rintro e u' w3 ⟨rfl, rfl, hq3, hm3⟩
      have hld := run_loadVar_mid (P := Tryz.prog) w3 w.heap.size 0 55 [.int .i64 f.1, .int .i64 (f.2 : Int)] _ (range_blk hq3) Tryz.underlying55 rfl infoFlt
      have hs2 := hm2.rest.size
      have hP : FfPost w pb src.length (.error f) Q (.returned (.agg #[.int .i64 f.1, .int .i64 (f.2 : Int)])) w3 := by
        refine ⟨?_, ?_⟩
        · have M2 := M1.out.trans hm2
          exact ⟨M2.rest.trans hm3.rest, fun g hg hne => (hm3.block g (by omega) (fun e => by injection e; omega)).trans (M2.block g hg hne)⟩
        · rw [if_neg HL.out]
      simp [Leaves, settle, results, Tryz.results23, asAddr, hld]
      exact hP
    | ok u =>
      clear hl
      go_wp2_with (first | (go_at_call 29; refine HRD.out.mono ?_; rintro e w2 ⟨hm2, rfl, hQ2⟩; have hq2 := (hm2.block w.heap.size hl1 (fun e => by injection e; omega)).trans HQ1.out; have HQ := hidX hQ2; clear hQ2) | (refine wpList_store_blk (by rfl) 55 (.tmp 4) (.tmp 17) (by rfl) w.heap.size [.int .i64 0, .int .i64 0] (by rfl) (by rfl) _ 55 hq2 (by rfl) infoFlt (by simp [Value.oneCell']) ?_; intro w3 hb3 ht3) | fail)
      refine leaves_cons (f := 46) (args := #[.pointer (some ⟨w.heap.size, 0, none⟩)]) (by simp) (by simp [go_sem]) ?_
      refine (ask_idle w.heap.size w3).mono ?_
      rintro e u' w4 ⟨rfl, rfl, rfl⟩
      have hld := run_loadVar_mid (P := Tryz.prog) w4 w.heap.size 0 55 [.int .i64 0, .int .i64 0] _ (range_blk hb3.out) Tryz.underlying55 rfl infoFlt
      have hP : FfPost w pb src.length (.ok u) Q (.returned (.agg #[.int .i64 0, .int .i64 0])) w4 := by
        refine ⟨(M1.out.trans hm2).turn ht3.out (Nat.le_refl _), ?_⟩
        rw [if_neg HL.out]
        exact ⟨rfl, w1, w2, HW1.out, hl1, HQ.out, ⟨_, hq2⟩, ht3.out⟩
      refine ⟨.agg #[.int .i64 0, .int .i64 0], ?_, hP⟩
      simp [results, Tryz.results23, asAddr, hld, Act.put]
end Go.Proofs.YtdhpoagjmiligaaGreatDoor
