/-
  OUR OWN TEXT. Pt11, Pt12, one behind the other.
-/
import Derived.Test.YtjjjagepnnbebaaGreatDoorKbi
import Derived.Test.YtjjjagepnnbebaaGreatDoorKbm
namespace Go.Proofs.YtjjjagepnnbebaaGreatDoor
open Go.RowKit
attribute [local go_sem ↓] Go.wp_at_zero Go.wp_at_succ

set_option maxRecDepth 100000 in
set_option maxHeartbeats 1600000 in
theorem ffSource_any (w : World) (pb : Nat) (src : Bs) (a : Option Addr) (c : Nat) (h : w.cell? ⟨pb, 0, none⟩ = some (.slice a src.length c)) (hE : ErrT w) (hgp : 0 < pb) (r : Except Flt Unit) (Q : World → World → Prop)
    (hrd : src.length ≤ 20000 → ∀ u, Below w.heap.size w u → Calls Tryz.prog 17 #[.pointer (some ⟨pb, 0, none⟩)] u fun e w' => MkO (some pb) u w' ∧ match r with | .error f => e = fltE f | .ok _ => e = .returned (.tuple #[]) ∧ Q u w') :
    Calls Tryz.prog 16 #[.pointer (some ⟨pb, 0, none⟩), .func (.func 17) #[.pointer (some ⟨pb, 0, none⟩)] #[]] w (FfPost w pb src.length r Q) := by
  have hmf : ∀ (fn : Fn) (first cap : Array Value) (w : World), (Instr.makeFunc fn first cap).run Tryz.prog w = .ok (.func fn first cap) w := fun _ _ _ _ => rfl
  have hpb := World.block_lt_of_cell? w ⟨pb, 0, none⟩ h
  have HE := hidX hE
  have HRD := hidX hrd
  clear hE hrd
  go_enter_defers Tryz.func16, Tryz.ntmps16
  go_upto_region 2 with fail
  refine lift_alloc ?_
  intro w1 hW1 hq1
  have hl1 : w.heap.size < w1.heap.size := lt_of_block' hq1
  have c0 := cell_below hW1 h
  have M1 := hidX (MkO.of_below hW1 : MkO (some pb) w w1)
  have HW1 := hidX hW1
  have HQ1 := hidX hq1
  have E1 := hidX (HE.out.mko M1.out hgp)
  clear hW1 hq1 h
  by_cases hl : 20000 < src.length
  · have hl' : (20000 : Int) < (src.length : Int) := by omega
    have HL := hidX hl
    clear hl
    go_wp2_with fail
    refine leaves_cons (f := 44) (args := #[.pointer (some ⟨w.heap.size, 0, none⟩)]) (by simp) (by simp [go_sem]) ?_
    refine (ask_fault (4, 0) w.heap.size _ w1 E1.out HQ1.out rfl []).mono ?_
    rintro e u' w2 ⟨rfl, rfl, hq2, hm2⟩
    have hld := run_loadVar_mid (P := Tryz.prog) w2 w.heap.size 0 48 [.int .i64 4, .int .i64 ((0 : Nat) : Int)] _ (range_blk hq2) Tryz.underlying48 rfl infoFlt
    have hP : FfPost w pb src.length r Q (.returned (.agg #[.int .i64 4, .int .i64 ((0 : Nat) : Int)])) w2 := by
      refine ⟨?_, ?_⟩
      · exact ⟨(M1.out.rest).trans hm2.rest, fun g hg hne => (hm2.block g (by omega) (fun e => by injection e; omega)).trans (M1.out.block g hg hne)⟩
      · rw [if_pos HL.out]
    simp [Leaves, settle, results, Tryz.results16, asAddr, hld]
    exact hP
  · have hl' : ¬ (20000 : Int) < (src.length : Int) := by omega
    have HL := hidX hl
    replace HRD := hidX (HRD.out (by omega) w1 HW1.out)
    cases r with
    | error f =>
      clear hl
      go_wp2_with (first | (go_at_call 17; refine HRD.out.mono ?_; rintro e w2 ⟨hm2, rfl⟩; unfold fltE) | fail)
      have hq2 := (hm2.block w.heap.size hl1 (fun e => by injection e; omega)).trans HQ1.out
      refine leaves_cons (f := 44) (args := #[.pointer (some ⟨w.heap.size, 0, none⟩)]) (by simp) (by simp [go_sem]) ?_
      refine (ask_fault f w.heap.size _ w2 (E1.out.mko hm2 hgp) hq2 rfl []).mono ?_
      rintro e u' w3 ⟨rfl, rfl, hq3, hm3⟩
      have hld := run_loadVar_mid (P := Tryz.prog) w3 w.heap.size 0 48 [.int .i64 f.1, .int .i64 (f.2 : Int)] _ (range_blk hq3) Tryz.underlying48 rfl infoFlt
      have hs2 := hm2.rest.size
      have hP : FfPost w pb src.length (.error f) Q (.returned (.agg #[.int .i64 f.1, .int .i64 (f.2 : Int)])) w3 := by
        refine ⟨?_, ?_⟩
        · have M2 := M1.out.trans hm2
          exact ⟨M2.rest.trans hm3.rest, fun g hg hne => (hm3.block g (by omega) (fun e => by injection e; omega)).trans (M2.block g hg hne)⟩
        · rw [if_neg HL.out]
      simp [Leaves, settle, results, Tryz.results16, asAddr, hld]
      exact hP
    | ok u =>
      clear hl
      go_wp2_with (first | (go_at_call 17; refine HRD.out.mono ?_; rintro e w2 ⟨hm2, rfl, hQ2⟩; have hq2 := (hm2.block w.heap.size hl1 (fun e => by injection e; omega)).trans HQ1.out; have HQ := hidX hQ2; clear hQ2) | (refine wpList_store_blk (by rfl) 48 (.tmp 4) (.tmp 17) (by rfl) w.heap.size [.int .i64 0, .int .i64 0] (by rfl) (by rfl) _ 48 hq2 (by rfl) infoFlt (by simp [Value.oneCell']) ?_; intro w3 hb3 ht3) | fail)
      refine leaves_cons (f := 44) (args := #[.pointer (some ⟨w.heap.size, 0, none⟩)]) (by simp) (by simp [go_sem]) ?_
      refine (ask_idle w.heap.size w3).mono ?_
      rintro e u' w4 ⟨rfl, rfl, rfl⟩
      have hld := run_loadVar_mid (P := Tryz.prog) w4 w.heap.size 0 48 [.int .i64 0, .int .i64 0] _ (range_blk hb3.out) Tryz.underlying48 rfl infoFlt
      have hP : FfPost w pb src.length (.ok u) Q (.returned (.agg #[.int .i64 0, .int .i64 0])) w4 := by
        refine ⟨(M1.out.trans hm2).turn ht3.out (Nat.le_refl _), ?_⟩
        rw [if_neg HL.out]
        exact ⟨rfl, w1, w2, HW1.out, hl1, HQ.out, ⟨_, hq2⟩, ht3.out⟩
      refine ⟨.agg #[.int .i64 0, .int .i64 0], ?_, hP⟩
      simp [results, Tryz.results16, asAddr, hld, Act.put]
end Go.Proofs.YtjjjagepnnbebaaGreatDoor

namespace Go.Proofs.YtjjjagepnnbebaaGreatDoor
open Go.RowKit
attribute [local go_sem ↓] Go.wp_at_zero Go.wp_at_succ

theorem infoPd : (Tryz.prog.info? 27).map (·.size) = some 3 := by kernel_rfl
/-- What ParseRules leaves. -/
def PrPost (w : World) (r : Px (List Ru)) (e : Ending) (w' : World) : Prop := Below w.heap.size w w' ∧ ∃ (code : Int) (pos : Nat) (la : Option Addr) (lc : Nat) (M : List RX), e = .returned (.agg (csL code pos (.slice la M.length lc)).toArray) ∧ RRow w' w.heap.size la lc M ∧ match r with
  | .error f => code = f.1 ∧ pos = f.2 ∧ M = []
  | .ok (vs, _) => code = 0 ∧ pos = 0 ∧ M.map RX.ru = vs
theorem RRow.base {w : World} {B B' : Nat} {a : Option Addr} {c : Nat} {M : List RX} (h : RRow w B a c M) (hb : B' ≤ B) : RRow w B' a c M := ⟨owns_base h.row hb, fun x hx => (h.all x hx).base hb, h.pair⟩
theorem RRow.turned {w w' : World} {B b : Nat} {a : Option Addr} {c : Nat} {M : List RX} {cs : Array Value} {t : TypeId} (h : RRow w B a c M) (ht : Turned w w' b) (hb : w.heap[b]? = some (.cells cs t (0, 0))) (h0 : 39 ≠ t) (h1 : 78 ≠ t) (h2 : 95 ≠ t) (h3 : 97 ≠ t) (h4 : 73 ≠ t) (h5 : 3 ≠ t) : RRow w' B a c M :=
  ⟨owns_of_block h.row (fun g hg => ht.block g (fun e => by
    obtain ⟨c1, e1⟩ := own_type h.row hg
    subst e
    exact ty_ne e1 hb h0)), fun x hx => ⟨(h.all x hx).pts.turned ht hb h1 h2, owns_of_block (h.all x hx).exs (fun g hg => ht.block g (fun e => by
    obtain ⟨c1, e1⟩ := own_type (h.all x hx).exs hg
    subst e
    exact ty_ne e1 hb h3)), (h.all x hx).acs.turned ht hb h4 h5, (h.all x hx).mp, (h.all x hx).ma⟩, h.pair⟩
/-- Rules that were read to their end. -/
def SrcQ (pb : Nat) (src : Bs) (a : Option Addr) (c : Nat) (am cm lv : Value) (vs : List Ru) (u w' : World) : Prop := ∃ la lc M ev bv l, M.map RX.ru = vs ∧ RRow w' u.heap.size la lc M ∧ PSt w' pb src a c l (RL am cm (.slice la M.length lc) lv ev bv)
set_option maxRecDepth 100000 in
set_option maxHeartbeats 3200000 in
theorem iParseRules_any (src : Bs) (a : Option Addr) (c : Nat) (w : World) (hv : BysAt w a src) (hcap : src.length ≤ c) (hfar : ∀ b o, a = some ⟨b, o, none⟩ → b < w.heap.size) (hE : EnvAt w w.heap.size) (hT : ErrT w) : Calls Tryz.prog 7 #[.slice a src.length c] w (PrPost w (prR src)) := by
  have hmf : ∀ (fn : Fn) (first cap : Array Value) (w : World), (Instr.makeFunc fn first cap).run Tryz.prog w = .ok (.func fn first cap) w := fun _ _ _ _ => rfl
  have HV := hidX hv
  have HF := hidX hfar
  have HE := hidX hE
  have HT := hidX hT
  clear hv hfar hE hT
  go_enter Tryz.func7, Tryz.ntmps7
  go_upto_region 1 with fail
  refine lift_alloc ?_
  intro w1 hW1 hq1
  have hl1 : w.heap.size < w1.heap.size := lt_of_block' hq1
  have HW1 := hidX hW1
  have HQ1 := hidX hq1
  clear hW1 hq1
  go_upto_region 2 with (first | (go_at_call 15; refine (newParser_any a src.length c w1).mono ?_; rintro e w2 ⟨rfl, hb2, am, cm, hq2, hA2, hC2, hla, hlc⟩) | fail)
  have HE1 : EnvAt w1 w1.heap.size := ⟨(HE.out.keep HW1.out).err, (HE.out.keep HW1.out).tests, Nat.lt_trans HE.out.g1 hl1, Nat.lt_trans HE.out.g2 hl1⟩
  have hT2 : ErrT w2 := (World.cell?_of_block (w := w) (((HW1.out.trans (hb2.mono (Nat.le_of_lt hl1))).block 0 (lt_cellX HT.out)))).trans HT.out
  have c02 := cell_of hq2 (j := 0) rfl
  have hp2 : w1.heap.size < w2.heap.size := lt_of_block' hq2
  have HFF := hidX (ffSource_any w2 w1.heap.size src a c c02 hT2 (Nat.lt_trans (lt_cellX HT.out) hl1) (unitX (pRules (wordsOf src))) (SrcQ w1.heap.size src a c (.map (some am)) (.map (some cm)) (.slice none 0 0) (match pRules (wordsOf src) with | .error _ => [] | .ok (vs, _) => vs)) (fun hl u hu => by
    have hr := NpPost.ready hq2 hb2 (HV.out.below HW1.out) hcap hl (fun b o e => Nat.lt_trans (HF.out b o e) hl1) HE1
    refine (source_any u w1.heap.size am src a c (wordsOf src) (.map (some cm)) (.slice none 0 0) (.slice none 0 0) (.int .i64 0) (hr.below hu) (hA2.below hu) hla).mono ?_
    intro e w' hp
    obtain ⟨hm, hp⟩ := hp
    refine ⟨hm, ?_⟩
    unfold unitX
    cases hc : pRules (wordsOf src) with
    | error f => rw [hc] at hp; exact hp
    | ok q =>
      obtain ⟨vs, l⟩ := q
      rw [hc] at hp
      obtain ⟨he, la, lc, M, ev, bv, h1, h2, h3⟩ := hp
      exact ⟨he, la, lc, M, ev, bv, l, h1, h2, h3⟩))
  have HRB2 := hidX ((hb2.block w.heap.size hl1).trans HQ1.out)
  have BL2 := hidX (HW1.out.trans (hb2.mono (Nat.le_of_lt hl1)) : Below w.heap.size w w2)
  clear hb2 hq2 hA2 hC2 hla hlc HE1 hT2 c02
  cases hr : (if 20000 < src.length then .error (4, 0) else unitX (pRules (wordsOf src)) : Except Flt Unit) with
  | error f =>
    have hpc : prR src = .error f := by
      unfold prR
      unfold unitX at hr
      split at hr
      · rw [if_pos (by assumption)]
        injection hr with hr
        rw [hr]
      · rw [if_neg (by assumption)]
        cases hc : pRules (wordsOf src) with
        | error f' =>
          rw [hc] at hr
          injection hr with hr
          rw [hr]
        | ok q => rw [hc] at hr; cases hr
    have HPC := hidX hpc
    have hne := pr_code hpc
    have hne' : (f.1 != 0) = true := by simpa using hne
    unfold FfPost at HFF
    rw [hr] at HFF
    clear hr hpc
    go_upto_region 3 with (first | (go_at_call 16; refine HFF.out.mono ?_; rintro e w3 ⟨hm3, rfl⟩) | fail)
    refine lift_alloc ?_
    intro w4 hW4 hq4
    have hs3 := hm3.rest.size
    have hs4 : w3.heap.size < w4.heap.size := lt_of_block' hq4
    have d0 := cell_of (L := [_, _]) hq4 (j := 0) rfl
    have d1 := cell_of (L := [_, _]) hq4 (j := 1) rfl
    have hrq := (hW4.block w.heap.size (by omega)).trans ((hm3.block w.heap.size (by omega) (fun e => by injection e; omega)).trans HRB2.out)
    have BL4 := hidX ((BL2.out.trans (hm3.below (by omega) (fun g e => by injection e; omega))).trans (hW4.mono (by omega)) : Below w.heap.size w w4)
    clear hW4 hq4 hm3 HFF hne
    go_wp2_with (first | (refine wpList_store_blk (by rfl) 27 (.tmp 2) (.tmp 18) (by rfl) w.heap.size (csL f.1 f.2 (.slice none 0 0)) (by rfl) (by rfl) _ 27 hrq (by rfl) infoPd (csL_one _ _ _ _ _) ?_; intro w5 hb5 ht5) | fail)
    have hld := run_loadVar_mid (P := Tryz.prog) w5 w.heap.size 0 27 (csL f.1 f.2 (.slice none 0 0)) _ (range_blk hb5.out) Tryz.underlying27 rfl infoPd
    (try go_frame)
    refine bodyPost_ret (v := .agg (csL f.1 f.2 (.slice none 0 0)).toArray) (by simp [results, Tryz.results7, asAddr, hld]) rfl ⟨BL4.out.trans (ht5.out.below (Nat.le_refl _)), f.1, f.2, none, 0, [], rfl, RRow.nil _ _, ?_⟩
    rw [HPC.out]
    exact ⟨rfl, rfl, rfl⟩
  | ok u =>
    have hpc : ∃ vs l, pRules (wordsOf src) = .ok (vs, l) ∧ prR src = .ok (vs, l) := by
      unfold prR
      unfold unitX at hr
      split at hr
      · cases hr
      · rw [if_neg (by assumption)]
        cases hc : pRules (wordsOf src) with
        | error f' => rw [hc] at hr; cases hr
        | ok q => exact ⟨q.1, q.2, rfl, rfl⟩
    obtain ⟨vs, l, hp1, hpc⟩ := hpc
    have HPC := hidX hpc
    unfold FfPost at HFF
    rw [hr, hp1] at HFF
    clear hr hpc hp1
    go_upto_region 3 with (first | (go_at_call 16; refine HFF.out.mono ?_; rintro e w3 ⟨hm3, rfl, u1, u2, hu1, hul, ⟨la, lc, M, ev, bv, l', hMv, hco, hps⟩, ⟨cs, hcs⟩, ht3⟩) | fail)
    refine lift_alloc ?_
    intro w4 hW4 hq4
    have hs3 := hm3.rest.size
    have hs4 : w3.heap.size < w4.heap.size := lt_of_block' hq4
    have d0 := cell_of (L := [_, _]) hq4 (j := 0) rfl
    have d1 := cell_of (L := [_, _]) hq4 (j := 1) rfl
    have hrq := (hW4.block w.heap.size (by omega)).trans ((hm3.block w.heap.size (by omega) (fun e => by injection e; omega)).trans HRB2.out)
    have BL4 := hidX ((BL2.out.trans (hm3.below (by omega) (fun g e => by injection e; omega))).trans (hW4.mono (by omega)) : Below w.heap.size w w4)
    have hp4 := ((hps.turned ht3 hp2).below hW4).cell (j := 2) rfl
    have C4 := hidX (((hco.turned ht3 hcs (by decide) (by decide) (by decide) (by decide) (by decide) (by decide)).mko (MkO.of_below hW4 : MkO (some w1.heap.size) w3 w4) (by omega)).base (show w.heap.size ≤ u1.heap.size by omega))
    have HMV := hidX hMv
    clear hW4 hq4 hm3 HFF hps hco hcs ht3 hMv hu1
    go_wp2_with (first | (refine wpList_store_blk (by rfl) 27 (.tmp 2) (.tmp 23) (by rfl) w.heap.size (csL 0 0 (.slice la M.length lc)) (by rfl) (by rfl) _ 27 hrq (by rfl) infoPd (csL_one _ _ _ _ _) ?_; intro w5 hb5 ht5) | fail)
    have hld := run_loadVar_mid (P := Tryz.prog) w5 w.heap.size 0 27 (csL 0 0 (.slice la M.length lc)) _ (range_blk hb5.out) Tryz.underlying27 rfl infoPd
    (try go_frame)
    refine bodyPost_ret (v := .agg (csL 0 0 (.slice la M.length lc)).toArray) (by simp [results, Tryz.results7, asAddr, hld]) rfl ⟨BL4.out.trans (ht5.out.below (Nat.le_refl _)), 0, 0, la, lc, M, rfl, C4.out.turned ht5.out hrq (by decide) (by decide) (by decide) (by decide) (by decide) (by decide), ?_⟩
    rw [HPC.out]
    exact ⟨rfl, rfl, HMV.out⟩
end Go.Proofs.YtjjjagepnnbebaaGreatDoor
